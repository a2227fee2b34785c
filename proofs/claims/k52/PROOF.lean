import PyProof.Rows.All
import Wide.All
import OpenK.AllK
import Wide.FinOn
import Lean
import PyProof.EqAt
import PyProof.EqKinds
import PyProof.TupleCall
import PyProof.ZipIter
import KE.KTryDeep
import KE.KIsAll
import KE.KIntText
import PyProof.ExcArgsOwn
import PySem.Challenge.RW_stackwarden_k52_papers_that_are_none
def aaa:=@List.length_map
def aab:=@PySem.Heap.get?_push_of_some
def aad:=@Or.inl
def aae:=@List.getElem?_append_left
def aaf:=@PySem.wpAny_bind
def aah:=@PySem.W.mg_of
def aai:=@Bool.false_ne_true
def aaj:=@Nat.le_refl
def aal:=@PySem.Heap.lt_size
def aam:=@List.getElem?_append_right
def aan:=@List.mem_of_getElem?
def aap:=@Nat.lt_of_lt_of_le
def aaq:=@List.getElem?_set_ne
def aar:=@List.getElem?_set_self
def aat:=@PySem.wpAny_pure
def aau:=@decide_eq_true
def aav:=@Nat.ne_of_lt
def aax:=@decide_eq_false
def aay:=@List.mem_cons
def aaz:=@PySem.Heap.get?_push_size
def aaB:=@Nat.le_trans
def aaC:=@List.mem_cons_self
def aaD:=@if_pos
def aaF:=@if_neg
def aaG:=@PySem.W.mg_none_of
def aaH:=@List.length_set
def aaJ:=@Option.some.inj
def aaK:=@PySem.wpAny_loadPart_at
def aaL:=@List.mem_cons_of_mem
def aaN:=@List.mem_append
def aaO:=@List.mem_append_right
def aaP:=@Nat.zero_le
def aaR:=@List.getElem?_map
def aaS:=@PySem.wpAny_mono
def aaT:=@List.replicate_succ
def aaV:=@List.size_toArray
def aaW:=@Int.emod_lt_of_pos
def aaX:=@PySem.wpAny_truthy_bool
def aaZ:=@PyProof.Rows.callWith_type1
def aa0:=@Nat.lt_of_le_of_lt
def aa1:=@List.all_eq_true
def aa3:=@Nat.sub_self
def aa4:=@List.flatten_cons
def aa5:=@Int.emod_nonneg
def aa7:=@PySem.PassesOwn.never
def aa8:=@Nat.lt_irrefl
def aa9:=@List.getElem?_of_mem
def abb:=@List.append_nil
def abc:=@List.mem_singleton
def abd:=@List.length_append
def abf:=@List.mem_or_eq_of_mem_set
def abg:=@PySem.W.kia_one
def abh:=@Bool.true_and
def abj:=@Nat.succ_ne_zero
def abk:=@Nat.ne_of_gt
def abl:=@PySem.wpAny_passesOwn
def abn:=@List.map_cons
def abo:=@List.length_cons
def abp:=@List.mem_map
def abr:=@PySem.mem_of_lookup
def abt:=@PyProof.Rows.slot_tuple_getitem
def abu:=@PySem.wpAny_execs_nil
def abw:=@PySem.wpAny_Call_Name_kw
def abx:=@True.intro
def aby:=@List.getElem?_drop
def abA:=@Nat.eq_zero_or_pos
def abB:=@List.map_append
def abC:=@List.flatten_singleton
def abE:=@PySem.wpAny_newObj_type
def abF:=@PySem.wpAny_pyIter_list
def abG:=@of_decide_eq_true
def abI:=@List.getElem?_set
def abJ:=@List.ext_getElem?
def abK:=@PySem.Str.length_append
def abM:=@PySem.Heap.size_push
def abN:=@List.map_map
def abO:=@PySem.W.looks_findIn
def abQ:=@Nat.succ_pos
def abR:=@List.length_take
def abS:=@List.length_drop
def abU:=@Bool.and_eq_true
def abV:=@PySem.F.excAttr_ValueError
def abW:=@PySem.wpAny_holding
def abY:=@Or.inr
def abZ:=@List.flatten_append
def ab0:=@Nat.succ.inj
def ab2:=@List.length_eq_zero_iff
def ab3:=@PyProof.Rows.subscriptTail_builtinR
def ab4:=@PySem.Heap.get?_update_other
def ab5:=@PySem.wpAny_standAt
def ab6:=@congrArg
def ab7:=@Bool.not_eq_true
def ab8:=@List.getElem_mem
def ab9:=@List.mem_flatten
def aca:=@List.take_length
def acb:=@PySem.Heap.get?_update_self
def acd:=@List.getElem?_eq_none
def ace:=@Nat.le_of_eq
def acf:=@PySem.codeAny_call_builtin
def acg:=@PySem.wpAny_ite_false
def ach:=@PySem.F.slot_int_rmul
def aci:=@List.map_set
def acj:=@List.forall_mem_cons
def ack:=@Array.length_toList
def acm:=@PySem.wpAny_isSubtype_exc
def acn:=@Ne.symm
def aco:=@Bool.and_false
def acp:=@List.mem_filterMap
def acq:=@PySem.W.callWith_K
def acr:=@PySem.Heap.get?_some_iff
def acs:=@PySem.Calls.Name_function_global
def acu:=@Array.getElem?_eq_some_iff
def acv:=@Int.toNat_natCast
def acw:=@Bool.eq_false_iff
def acx:=@List.take_add_one
def acy:=@PySem.typeIs_int
def acz:=@PySem.call_meets
def acA:=@PySem.wpAny_binaryOp_repeat_ref
def acB:=@List.pairwise_iff_getElem
def acC:=@Nat.le_of_lt
def acD:=@PySem.wpAny_execs_cons
def acE:=@PySem.codeAny_mono
def acF:=@List.getElem?_take_of_lt
def acG:=@PySem.F.args_tuple_add_2
def acH:=@List.lookup_cons
def acI:=@PySem.wpAny_comprehension_free
def acJ:=@List.map_fst_zip
def acK:=@List.eq_of_mem_replicate
def acL:=@PySem.F.entry_tuple_add
def acM:=@PyProof.Rows.intBits_le
def acN:=@Nat.lt_add_of_pos_right
def acO:=@PySem.W.cellsFrom_some
def acP:=@PySem.F.slot_tuple_add
def acS:=@Nat.le_succ
def acU:=@List.mem_range
def acV:=@PySem.F.slot_dict_get
def acX:=@List.lookup_cons_self
def acY:=@PySem.wpAny_call
def acZ:=@PySem.strKind_is
def ac0:=@List.Mem.head
def ac1:=@List.Mem.tail
def ac2:=@List.length_pos_iff
def ac4:=@List.map_nil
def ac8:=@Nat.lt_trans
def ac9:=@List.map_replicate
abbrev aH:=PySem.W.Frag
theorem Vs:1<=PySem.sizeLine:=by decide
theorem Vt:2<=PySem.sizeLine:=by decide
theorem YT:3<=PySem.sizeLine:=by decide
theorem YU:4<=PySem.sizeLine:=by decide
theorem YV:6<=PySem.sizeLine:=by decide
theorem ik{α:Type}{a b:α}(h:a∈[b]):a=b:=abc.mp h
theorem bz{α:Type}{l:List α}{i:Nat}{a:α}(h:l[i]?=some a):∃h:i < l.length,l[i]=a:=List.getElem?_eq_some_iff.mp h
theorem cW{α:Type}{l:List α}{i:Nat}(h:i < l.length):l[i]?=some l[i]:=List.getElem?_eq_getElem h
set_option Elab.async false
set_option compiler.extract_closed false
set_option linter.all false
set_option maxRecDepth 100000
namespace L2
open PySem PySem.Spec PyProof.Rows
abbrev Key:=Sum Int Str
def wM:Key->Value->Bool
 | .inl k,v=>Value.isInt k v
 | .inr x,v=>Value.isStrOf x v
def Vu(w:World):Key->Int
 | .inl k=>hashInt k
 | .inr x=>hashStr w x
theorem bX:∀{k:Key} {v:Value},wM k v=true->(∃i t,k=Sum.inl i/\v=Value.int i t)∨(∃x t,k=Sum.inr x/\v=Value.str x t)
 | .inl i,v,h=>by
  obtain⟨t,e⟩:=Value.isInt_shape (k:=i) (v:=v) h;exact .inl ⟨i,t,rfl,e⟩
 | .inr x,v,h=>by
  obtain⟨t,e⟩:=Value.isStrOf_shape (x:=x) (v:=v) h;exact .inr ⟨x,t,rfl,e⟩
theorem DU(i:Int)(t:Tok):wM (.inl i) (.int i t)=true:=by simp[wM,Value.isInt]
theorem DW(x:Str)(t:Tok):wM (.inr x) (.str x t)=true:=by simp[wM,Value.isStrOf]
theorem Oz(a b:Int):decide ((Sum.inl a:Key)=Sum.inl b)=(a == b):=by
 by_cases e:a=b
 ·subst e;simp
 ·have h:¬ (Sum.inl a:Key)=Sum.inl b:=λq=>e (Sum.inl.inj q)
  rw[aax h];exact(beq_eq_false_iff_ne.mpr e).symm
theorem OA(a b:Str):decide ((Sum.inr a:Key)=Sum.inr b)=decide (a=b):=by
 by_cases e:a=b
 ·subst e;simp
 ·have h:¬ (Sum.inr a:Key)=Sum.inr b:=λq=>e (Sum.inr.inj q)
  rw[aax h,aax e]
theorem OB(a:Int)(b:Str):decide ((Sum.inl a:Key)=Sum.inr b)=false:=aax (λq=>nomatch q)
theorem OC(a:Str)(b:Int):decide ((Sum.inr a:Key)=Sum.inl b)=false:=aax (λq=>nomatch q)
def eF(prog:Program)(w:World):PySem.KeyKind prog w Key where
 is:=wM
 hash:=Vu w
 inj:=λv a b ha hb=>by
  rcases bX ha with⟨i,t,rfl,rfl⟩ | ⟨x,t,rfl,rfl⟩
  ·rcases bX hb with⟨j,u,rfl,e⟩ | ⟨y,u,rfl,e⟩
   ·injection e with e1 _;rw[e1]
   ·exact nomatch e
  ·rcases bX hb with⟨j,u,rfl,e⟩ | ⟨y,u,rfl,e⟩
   ·exact nomatch e
   ·injection e with e1 _;rw[e1]
 byValue:=λk v h=>by
  rcases bX h with⟨i,t,rfl,rfl⟩ | ⟨x,t,rfl,rfl⟩<;>rfl
 pyHash:=λhv h=>by
  rcases bX hv with⟨i,t,rfl,rfl⟩ | ⟨x,t,rfl,rfl⟩
  ·exact wpAny_pyHash_int h
  ·exact wpAny_pyHash_str h
 eqBool:=λhu hv h=>by
  rcases bX hu with⟨i,t,rfl,rfl⟩ | ⟨x,t,rfl,rfl⟩
  ·rcases bX hv with⟨j,u,rfl,rfl⟩ | ⟨y,u,rfl,rfl⟩
   ·rw[Oz]at h;exact wpAny_eqBool_int h
   ·rw[OB]at h;exact SeqAt.EqAt.int_str i t y u _ _ _ _ h
  ·rcases bX hv with⟨j,u,rfl,rfl⟩ | ⟨y,u,rfl,rfl⟩
   ·rw[OC]at h;exact SeqAt.EqAt.str_int x t j u _ _ _ _ h
   ·rw[OA]at h;exact wpAny_eqBool_str h
 «strs»:=λk x t v h=>by
  rcases bX h with⟨i,u,rfl,e⟩ | ⟨y,u,rfl,e⟩
  ·exact nomatch e
  ·injection e with e1 _
   subst e1;cases v<;>rfl
theorem sJ(prog:Program)(w:World)(i:Int)(t:Tok):(eF prog w).is (.inl i) (.int i t)=true:=DU i t
theorem zw(prog:Program)(w:World)(x:Str)(t:Tok):(eF prog w).is (.inr x) (.str x t)=true:=DW x t
inductive V where
 | non | bl (b:Bool) | int (i:Int) | str (x:Str) | byt (b:Array UInt8) | flt (b:UInt64) | ref (a:Addr) | ty (n:String)
 deriving DecidableEq
def RelV:V->Value->Prop
 | .non,u=>u=Value.none
 | .bl b,u=>u=Value.bool b
 | .int i,u=>∃t,u=Value.int i t
 | .str x,u=>∃t,u=Value.str x t
 | .byt b,u=>∃t,u=Value.bytes b t
 | .flt b,u=>∃t,u=Value.float b t
 | .ref a,u=>u=Value.ref a
 | .ty n,u=>u=Value.type n
abbrev Vals:List V->List Value->Prop:=Paired RelV
theorem Vals.length{xs:List V}{us:List Value}(r:Vals xs us):xs.length=us.length:=Paired.length r
theorem Vals.get:∀{xs:List V} {us:List Value} {i:Nat} {x:V},Vals xs us->xs[i]?=some x->∃u,us[i]?=some u/\RelV x u
 | _,_,_,_,.nil,e=>by simp at e
 | _,_,0,_,.cons r _,e=>by simp at e;subst e;exact⟨_,rfl,r⟩
 | _,_,i + 1,x,.cons _ t,e=>by
  obtain⟨u,h1,h2⟩:=Vals.get (i:=i) (x:=x) t (by simpa using e);exact⟨u,by simpa using h1,h2⟩
theorem Vals.set{x:V}{u:Value}(r:RelV x u):∀{xs:List V} {us:List Value} (i:Nat),Vals xs us->Vals (xs.set i x) (us.set i u)
 | _,_,_,.nil=>.nil
 | _,_,0,.cons _ t=>.cons r t
 | _,_,i + 1,.cons q t=>.cons q (Vals.set r i t)
theorem Vals.append:∀{xs ys:List V} {us ws:List Value},Vals xs us->Vals ys ws->Vals (xs++ys) (us++ws)
 | _,_,_,_,.nil,s=>s
 | _,_,_,_,.cons r t,s=>.cons r (Vals.append t s)
theorem Vals.take:∀{xs:List V} {us:List Value} (n:Nat),Vals xs us->Vals (xs.take n) (us.take n)
 | _,_,0,_=>.nil
 | _,_,_ + 1,.nil=>.nil
 | _,_,n + 1,.cons r t=>.cons r (Vals.take n t)
theorem Vals.drop:∀{xs:List V} {us:List Value} (n:Nat),Vals xs us->Vals (xs.drop n) (us.drop n)
 | _,_,0,r=>r
 | _,_,_ + 1,.nil=>.nil
 | _,_,n + 1,.cons _ t=>Vals.drop n t
def qi:Option V->Option Value->Prop
 | some v,some u=>RelV v u
 | none,none=>True
 | _,_=>False
def KV{κ:Type}:List (κ×V)->List (κ×Value)->Prop:=Paired λ(p:κ×V) (q:κ×Value)=>p.1=q.1/\RelV p.2 q.2
def kV:Key->V
 | .inl i=>.int i
 | .inr x=>.str x
inductive HO where
 | lst (xs:List V)
 | tup (xs:List V)
 | dK (kvs:List (Key×V)) | dT (kvs:List (List Key×V))
 | set (S:Int->Bool) (n:Nat)
 | ins (C dx:Addr) (fs:List (Str×V))
 | own (x:Addr)
 | xd (fs:List (Str×V))
 | met (f x:Addr)
 | rng (lo hi:Int)
 | oY (o:Obj) (u:HO)
 | tbl (ps:Array Value)
 | ext (φ:Heap->Prop)
abbrev Hp:=Addr->Option HO
def upd(H:Hp)(a:Addr)(o:HO):Hp:=λb=>if b=a then some o else H b
theorem uS{H:Hp}{a:Addr}{o:HO}:upd H a o a=some o:=by unfold upd;rw[if_pos rfl]
theorem uN{H:Hp}{a b:Addr}{o:HO}(h:b≠a):upd H a o b=H b:=by unfold upd;rw[if_neg h]
theorem Kb{H:Hp}{a:Addr}{o u:HO}:upd (upd H a o) a u=upd H a u:=by
 funext b;unfold upd;split<;>rfl
theorem zx{H:Hp}{a b:Addr}{o u:HO}(h:H a=some o)(h':H b=some u)(d:o≠u):a≠b:=by
 intro e;subst e;rw[h]at h';exact d (aaJ h')
theorem nN{H:Hp}{a b:Addr}{o:HO}(h:H a=some o)(h':H b=none):a≠b:=by
 intro e;subst e;rw[h]at h';cases h'
section
variable (P:Program) (w:World)
def eg(H:Hp)(h:Heap)(a:Addr):HO->Prop
 | .lst xs=>xs.length<=sizeLine/\∃(its:List Value) (n:Nat),Vals xs its/\h.get? a=some {cls:=.type "list",data:=.seq its.toArray n}
 | .tup xs=>xs.length<=sizeLine/\∃its:List Value,Vals xs its/\IsTup h a its.toArray
 | .dK kvs=>kvs.length<=sizeLine/\(a == sysModules)=false/\∃vs,KV kvs vs/\h.DictOf (eF P w) a vs
 | .dT kvs=>kvs.length<=sizeLine/\(a == sysModules)=false/\∃xs:List (List Key×Addr×Value),
   Paired (λ(p:List Key×V) (q:List Key×Addr×Value)=>p.1=q.1/\H q.2.1=some (.tup (p.1.map kV))/\RelV p.2 q.2.2) kvs xs /\
   ∃o es ep,h.get? a=some o/\o.ExactDict/\o.data=.dict es ep/\es.toList=xs.map (entryOfKey (tupleKind (eF P w)))/\(xs.map (·.1)).Nodup
 | .set S n=>h.SetOf (intKind P w) a S n
 | .ins C dx fs=>H dx=some (.own a)/\fs.length<=1000/\dx≠a/\h.get? a=some (PySem.W.instObj C dx) /\
   ∃mA,h.Ns1 dx mA/\(∀f,qi (fs.lookup f) (mA f))/\PySem.Within mA (fs.map (·.1))
 | .own _=>∃o,h.get? a=some o
 | .xd fs=>∃mA,h.Ns1 a mA/\∀f,qi (fs.lookup f) (mA f)
 | .rng lo hi=>∃t u v,h.get? a=some {cls:=.type "range",data:=.fields #[.int lo t,.int hi u,.int 1 v]}
 | .oY o u=>h.get? a=some o/\eg H h a u
 | .tbl ps=>h.get? a=some {cls:=.none,data:=.fields ps}
 | .met f x=>h.get? a=some (PySem.W.methodObj (.ref f) (.ref x))
 | .ext φ=>φ h/\(∃o,h.get? a=some o)/\∀h1 h2:Heap,φ h1->(∀o,h1.get? a=some o->h2.get? a=some o)->φ h2
def qj(H:Hp)(h:Heap):Prop:=∀a o,H a=some o->eg P w H h a o
end
section
variable {P:Program} {w:World} {H H':Hp} {h h':Heap} {a:Addr} {o:HO}
theorem eg.lt(x:eg P w H h a o):a < h.objs.size:=by
 cases o with
 | lst xs=>obtain⟨_,_,_,_,e⟩:=x;exact aal e
 | tup xs=>obtain⟨_,_,_,p⟩:=x;exact p.lt
 | dK kvs=>obtain⟨_,_,_,_,o,_,_,e,_⟩:=x;exact aal e
 | dT kvs=>obtain⟨_,_,_,_,o,_,_,e,_⟩:=x;exact aal e
 | set S n=>obtain⟨o,_,_,_,e,_⟩:=x;exact aal e
 | ins C dx fs=>obtain⟨_,_,_,e,_⟩:=x;exact aal e
 | own y=>obtain⟨_,e⟩:=x;exact aal e
 | xd fs=>obtain⟨_,⟨_,_,_,e,_⟩,_⟩:=x;exact aal e
 | rng lo hi=>obtain⟨_,_,_,e⟩:=x;exact aal e
 | oY ob u=>obtain⟨e,_⟩:=x;exact aal e
 | tbl ps=>exact aal (show h.get? a=some _ from x)
 | met f y=>exact aal (show h.get? a=some _ from x)
 | ext φ=>obtain⟨_,⟨_,e⟩,_⟩:=x;exact aal e
theorem Paired.Si{α β:Type}{F G:α->β->Prop}:∀{l₁:List α} {l₂:List β},Paired F l₁ l₂->(∀a b,F a b->G a b)->Paired G l₁ l₂
 | _,_,.nil,_=>.nil
 | _,_,.cons r t,f=>.cons (f _ _ r) (Paired.Si t f)
theorem eg.rK(x:eg P w H h a o)(k:∀b u,(b=a∨H b=some (.own a))->h.get? b=some u->h'.get? b=some u)
  (ho:∀b,H b=some (.own a)->H' b=some (.own a)) (ht:∀b xs,H b=some (.tup xs)->H' b=some (.tup xs)):eg P w H' h' a o:=by
 induction o with
 | lst xs=>obtain⟨z,its,n,r,e⟩:=x;exact⟨z,its,n,r,k _ _ (.inl rfl) e⟩
 | tup xs=>obtain⟨z,its,r,ob,e,c⟩:=x;exact⟨z,its,r,ob,k _ _ (.inl rfl) e,c⟩
 | dK kvs=>obtain⟨z,y,vs,r,ob,es,ep,e,c⟩:=x;exact⟨z,y,vs,r,ob,es,ep,k _ _ (.inl rfl) e,c⟩
 | dT kvs =>
  obtain⟨z,y,xs,r,ob,es,ep,e,c⟩:=x;exact⟨z,y,xs,Paired.Si r λp q z=>⟨z.1,ht _ _ z.2.1,z.2.2⟩,ob,es,ep,k _ _ (.inl rfl) e,c⟩
 | set S n=>obtain⟨ob,es,ep,t,e,c⟩:=x;exact⟨ob,es,ep,t,k _ _ (.inl rfl) e,c⟩
 | ins C dx fs =>
  obtain⟨d,z,ne,e,mA,⟨od,es,ep,e2,c⟩,r⟩:=x;exact⟨ho _ d,z,ne,k _ _ (.inl rfl) e,mA,⟨od,es,ep,k _ _ (.inr d) e2,c⟩,r⟩
 | own y=>obtain⟨ob,e⟩:=x;exact⟨ob,k _ _ (.inl rfl) e⟩
 | xd fs=>obtain⟨mA,⟨od,es,ep,e,c⟩,r⟩:=x;exact⟨mA,⟨od,es,ep,k _ _ (.inl rfl) e,c⟩,r⟩
 | rng lo hi=>obtain⟨t,u,v,e⟩:=x;exact⟨t,u,v,k _ _ (.inl rfl) e⟩
 | oY ob u ih=>obtain⟨e,q⟩:=x;exact⟨k _ _ (.inl rfl) e,ih q⟩
 | tbl ps =>
  have e:h.get? a=some {cls:=.none,data:=.fields ps}:=x;show h'.get? a=some {cls:=.none,data:=.fields ps};exact k a _ (.inl rfl) e
 | met f y =>
  have e:h.get? a=some (PySem.W.methodObj (.ref f) (.ref y)):=x;show h'.get? a=some (PySem.W.methodObj (.ref f) (.ref y));exact k a _ (.inl rfl) e
 | ext φ=>obtain⟨p,⟨o,e⟩,st⟩:=x;exact⟨st _ _ p λo q=>k _ _ (.inl rfl) q,⟨o,k _ _ (.inl rfl) e⟩,st⟩
theorem qj.lt(x:qj P w H h)(e:H a=some o):a < h.objs.size:=(x a o e).lt
theorem qj.fresh(x:qj P w H h)(e:h.objs.size<=a):H a=none:=by
 cases q:H a with
 | none=>rfl
 | some u=>exact absurd (aap (x.lt q) e) (aa8 _)
theorem qj.kept(x:qj P w H h)(k:∀b u,h.get? b=some u->h'.get? b=some u):qj P w H h':=λa o e =>
 (x a o e).rK (λb u _ q=>k b u q) (λ_ q=>q) λ_ _ q=>q
theorem qj.laid(x:qj P w H h)(k:∀b u,h.get? b=some u->h'.get? b=some u)(hp:h.objs.size<=a)(new:eg P w (upd H a o) h' a o):qj P w (upd H a o) h':=λb u e=>by
 have hn:=x.fresh hp;by_cases hb:b=a
 ·subst hb;rw[uS]at e;cases e;exact new
 ·rw[uN hb]at e;exact(x b u e).rK (λc v _ q=>k c v q) (λc q=>by rw[uN (nN q hn)];exact q) λc xs q=>by rw[uN (nN q hn)];exact q
end
def Rd(H:Hp)(a:Addr)(u:HO):Prop:=H a=some u∨∃o,H a=some (.oY o u)
theorem Rd.ok{P:Program}{w:World}{H:Hp}{h:Heap}{a:Addr}{u:HO}(r:Rd H a u)(x:qj P w H h):eg P w H h a u:=by
 rcases r with r | ⟨o,r⟩
 ·exact x a u r
 ·obtain⟨_,q⟩:=x a _ r;exact q
def U4:Option HO->Prop
 | some (.lst _)=>True
 | some (.dK _)=>True
 | some (.dT _)=>True
 | some (.set _ _)=>True
 | some (.ins _ _ _)=>True
 | some (.ext _)=>True
 | _=>False
section
variable {P:Program} {w:World} {H:Hp} {h h':Heap} {x e:Addr} {o':HO}
theorem qj.write(ok:qj P w H h)(mu:U4 (H x))(he:e=x∨H e=some (.own x))(k:∀b u,b≠e->h.get? b=some u->h'.get? b=some u)(heo:∃u,h'.get? e=some u)
  (new:eg P w (upd H x o') h' x o'):qj P w (upd H x o') h':=λb u q=>by
 have nown:∀c y,H c=some (.own y)->c≠x:=λc y r z=>by subst z;rw[r]at mu;exact mu
 have ntup:∀c xs,H c=some (.tup xs)->c≠x:=λc xs r z=>by subst z;rw[r]at mu;exact mu
 by_cases hb:b=x
 ·subst hb;rw[uS]at q;cases q;exact new
 ·rw[uN hb]at q;by_cases hbe:b=e
  ·have q':H b=some (.own x):=by
    rcases he with z | z
    ·exact absurd (hbe.trans z) hb
    ·rw[hbe];exact z
   rw[q]at q';cases q';obtain⟨v,hv⟩:=heo;exact⟨v,by rw[hbe];exact hv⟩
  ·refine(ok b u q).rK (λc v hc r=>k c v ?_ r) (λc r=>by rw[uN (nown c b r)];exact r) λc xs r=>by rw[uN (ntup c xs r)];exact r
   rcases hc with rfl | hc
   ·exact hbe
   ·rintro rfl;rcases he with z | z
    ·exact nown c b hc z
    ·rw[hc]at z;cases z;exact hb rfl
end
structure Un(fs ex:List Addr)(H H':Hp)(h h':Heap):Prop where
 keep:∀b o,h.get? b=some o->H b=none->b∉fs->b∉ex->h'.get? b=some o
 slot:∀b o,h.get? b=some o->H b=none->b∈fs->b∉ex->∃sl,h'.get? b=some {o with slots:=sl}
 free:∀b o,h.get? b=some o->H b=none->b∉ex->H' b=none
 there:∀b o,h.get? b=some o->b∉ex->∃o',h'.get? b=some o'
 tups:∀b xs,H b=some (.tup xs)->H' b=some (.tup xs)
 dz:∀b o u,H b=some (.oY o u)->H' b=some (.oY o u)
 tbls:∀b ps,H b=some (.tbl ps)->∃more,H' b=some (.tbl (ps++more))
section
variable {fs fs' ex ex':List Addr} {H H1 H2:Hp} {h h1 h2 h':Heap} {a x e:Addr} {o:HO}
theorem Un.any(u:Un fs ex H H1 h h1){b:Addr}{ob:Obj}(q:h.get? b=some ob)(n:H b=none)(hx:b∉ex):∃sl,h1.get? b=some {ob with slots:=sl}:=by
 by_cases hb:b∈fs
 ·exact u.slot b ob q n hb hx
 ·exact⟨ob.slots,u.keep b ob q n hb hx⟩
theorem Un.kept(k:∀b u,h.get? b=some u->h'.get? b=some u):Un fs ex H H h h' :=
 ⟨λb ob q _ _ _=>k b ob q,λb ob q _ _ _=>⟨ob.slots,k b ob q⟩,λ_ _ _ n _=>n,λb ob q _=>⟨ob,k b ob q⟩,λ_ _ q=>q,λ_ _ _ q=>q,λ_ ps q=>⟨#[],by rw[q];simp⟩⟩
theorem Un.refl:Un fs ex H H h h:=Un.kept λ_ _ q=>q
theorem Un.laid(k:∀b u,h.get? b=some u->h'.get? b=some u)(hp:h.objs.size<=a)(hn:H a=none):Un fs ex H (upd H a o) h h' where
 keep:=λb u q _ _ _=>k b u q
 slot:=λb u q _ _ _=>⟨u.slots,k b u q⟩
 free:=λb u q n _=>by rw[uN (aav (aap (aal q) hp))];exact n
 there:=λb u q _=>⟨u,k b u q⟩
 tups:=λb xs q=>by rw[uN (nN q hn)];exact q
 dz:=λb u xs q=>by rw[uN (nN q hn)];exact q
 tbls:=λb ps q=>⟨#[],by rw[uN (nN q hn),q];simp⟩
theorem Un.write(mu:U4 (H x))(he:e=x∨H e=some (.own x))(k:∀b u,b≠e->h.get? b=some u->h'.get? b=some u)(heo:∃u,h'.get? e=some u):Un fs ex H (upd H x o) h h':=by
 have hx:∀b,H b=none->b≠x:=λb n z=>by subst z;rw[n]at mu;exact mu
 have hb:∀b,H b=none->b≠e:=λb n z=>by
  subst z;rcases he with r | r
  ·exact hx b n r
  ·rw[n]at r;cases r
 have hm:∀b u,H b=some u->¬ U4 (some u)->b≠x:=λb u q nm z=>by subst z;rw[q]at mu;exact nm mu
 refine⟨λb u q n _ _=>k b u (hb b n) q,λb u q n _ _=>⟨u.slots,k b u (hb b n) q⟩,λb u q n _=>by rw[uN (hx b n)];exact n,λb u q _=>?_,
  λb xs q=>by rw[uN (hm b _ q λz=>z)];exact q,λb u xs q=>by rw[uN (hm b _ q λz=>z)];exact q,λb ps q=>⟨#[],by rw[uN (hm b _ q λz=>z),q];simp⟩⟩
 by_cases hbe:b=e
 ·subst hbe;exact heo
 ·exact⟨u,k b u hbe q⟩
end
def U5(h:Heap)(H:Hp):List Addr:=(List.range h.objs.size).filter λa=>(H a).isSome
def xT(h:Heap)(H:Hp):Heap:=PySem.W.hideAll h (U5 h H)
theorem DY(h:Heap)(H:Hp):(xT h H).objs.size=h.objs.size:=PySem.W.hideAll_size _ _
theorem FH{h:Heap}{H:Hp}{b:Addr}{o:Obj}(e:h.get? b=some o)(n:H b=none):(xT h H).get? b=some o :=
 PySem.W.hideAll_get _ e λhm=>by
  have q:(H b).isSome=true:=(List.mem_filter.mp hm).2;rw[n]at q;simp at q
theorem Kc{h:Heap}{H:Hp}{b:Addr}{o:Obj}(e:(xT h H).get? b=some o):h.get? b=some o/\H b=none:=by
 have e':h.get? b=some o:=PySem.W.of_hideAll (U5 h H) e;refine⟨e',?_⟩
 cases q:H b with
 | none=>rfl
 | some x =>
  have hm:b∈U5 h H:=List.mem_filter.mpr ⟨List.mem_range.mpr (Heap.lt_size e'),by simp[q]⟩;have z:(xT h H).get? b=none:=PySem.W.hideAll_none (U5 h H) hm;rw[z]at e;cases e
def Ke(g h:Heap)(L:Addr):List (Addr×Obj):=(List.range h.objs.size).filterMap λa=>if a=L∨(g.get? a).isSome=true then none else(h.get? a).map λo=>(a,o)
def rest(g h:Heap)(L d:Addr):List (Addr×Obj):=(Ke g h L).filter λp=>decide (p.1≠d)
structure Mod(K:aH)(mg:Str->Option Value)(base:Heap):Prop where
 kin:K.In base
 glob:base.Ns mainGlobals mg
 blt:∃mb,base.Ns builtinsNs mb/\∀x:Str,x≠"__name__"->mb x=bootBuiltins x
 nolimit:base.NoLimit
structure Cx where
 prog:Program
 w:World
 K:aH
 mg:Str->Option Value
 base:Heap
 A:Around
 N:List Str
 s₀:Shared
 H₀:Hp
 env:Env
 outer:List Env
 stack:List Env
 ex:List Addr
 fn:Str->Bool
 calm:Bool
 pn:List (Addr×Obj)
 xe:Value->Shared->Prop
def qk(l:List Env):List Addr:=l.filterMap (·.frame)
abbrev Cx.fs(X:Cx):List Addr:=qk X.outer
def U6(sc:Scope)(x:Str):Prop:=sc.names.lookup x=some .local∨sc.names.lookup x=some .cell∨sc.names.lookup x=some .free
def Loc(sc:Scope)(x:Str):Prop:=sc.names.lookup x=some .local∨sc.names.lookup x=some .cell
def Look(env:Env)(h:Heap)(m:Str->Option Value)(x:Str)(u:Value):Prop :=
 (env.kindOf x=some .local/\m x=some u)∨((env.kindOf x=some .cell∨env.kindOf x=some .free)/\∃c,env.cells.lookup x=some c/\h.IsCell c (some u))
structure Cx.Ok(X:Cx):Prop where
 mod:Mod X.K X.mg X.base
 kind:X.env.scope.kind=.function
 glob:X.env.globals=mainGlobals
 blt:X.env.builtins=builtinsNs
 above:X.s₀.heap.objs.size<=X.env.locals
 inj:∀x y c,X.env.cells.lookup x=some c->X.env.cells.lookup y=some c->x=y
 has:∀x,(X.env.kindOf x=some .cell∨X.env.kindOf x=some .free)->∃c,X.env.cells.lookup x=some c
 cab:∀x c,X.fn x=true->X.env.cells.lookup x=some c->X.s₀.heap.objs.size<=c
 hd:X.calm=true->X.A.handled=none
 frames:X.A.frames=some X.stack
 stk:X.stack=X.outer∨(X.stack=X.env::X.outer/\X.env.frame=some X.env.locals)
 exf:∀b∈X.ex,b≠X.env.locals/\∀x c,X.env.cells.lookup x=some c->c≠b
 bs:∀b o,X.base.get? b=some o->X.s₀.heap.get? b=some o/\X.H₀ b=none
 bsz:X.base.objs.size<=X.s₀.heap.objs.size
 noex:∀b o,X.base.get? b=some o->b∉X.ex
 exfs:∀b∈X.ex,b∉X.fs
 rL:X.s₀.heap.FunFrames X.base X.outer
 frf:∀b∈X.fs,X.H₀ b=none
structure Inv(X:Cx)(pins:List (Addr×Obj))(σ:List (Option V))(H:Hp)(s:Shared):Prop where
 ok:X.Ok
 os:s.os=X.s₀.os
 bare:AllBare s.gens
 base:Un X.fs X.ex X.H₀ H X.s₀.heap s.heap
 loc:∃m,s.heap.Ns X.env.locals m/\∀(i:Nat) (x:Str) (v:V),X.N[i]?=some x->σ[i]?=some (some v)->U6 X.env.scope x->∃u,RelV v u/\Look X.env s.heap m x u
 cell:∀x c,X.env.cells.lookup x=some c->∃v,s.heap.IsCell c v
 free:H X.env.locals=none
 freeC:∀x c,X.env.cells.lookup x=some c->H c=none
 pin:∀p∈X.pn++pins,s.heap.get? p.1=some p.2/\H p.1=none/\p.1≠X.env.locals/\p.1∉X.fs/\∀v,p.2.data≠.cell v
 hok:qj X.prog X.w H s.heap
 len:σ.length=X.N.length
section
variable {X:Cx} {pins:List (Addr×Obj)} {σ:List (Option V)} {H H':Hp} {s:Shared} {h':Heap}
theorem Cx.Ok.Vv(ok:X.Ok){b:Addr}{o:Obj}(e:X.base.get? b=some o):b∉X.fs:=λhb=>by
 have:=(ok.rL.mem hb).1;rw[e]at this;cases this
theorem Inv.bs(I:Inv X pins σ H s):∀b o,X.base.get? b=some o->s.heap.get? b=some o/\H b=none:=λb o e =>
 ⟨I.base.keep b o (I.ok.bs b o e).1 (I.ok.bs b o e).2 (I.ok.Vv e) (I.ok.noex b o e),I.base.free b o (I.ok.bs b o e).1 (I.ok.bs b o e).2 (I.ok.noex b o e)⟩
theorem Inv.bk(I:Inv X pins σ H s):∀b o,X.base.get? b=some o->s.heap.get? b=some o:=λb o e=>(I.bs b o e).1
theorem Inv.mod(I:Inv X pins σ H s):Mod X.K X.mg X.base:=I.ok.mod
theorem Inv.ql(I:Inv X pins σ H s):X.K.In s.heap:=I.ok.mod.kin.keeps I.bk
theorem Inv.lt(I:Inv X pins σ H s):X.env.locals < s.heap.objs.size:=let ⟨_,hn,_⟩:=I.loc;hn.lt
theorem Inv.sz(I:Inv X pins σ H s):X.s₀.heap.objs.size<=s.heap.objs.size:=aaB I.ok.above (acC I.lt)
theorem Inv.Vw(I:Inv X pins σ H s){a:Addr}(h:s.heap.objs.size<=a):a∉X.fs:=λhb=>by
 obtain⟨_,o,ho,_⟩:=I.ok.rL.mem hb;exact absurd (aap (aal ho) (aaB I.sz h)) (aa8 _)
theorem Inv.Kf(I:Inv X pins σ H s):∀x c,X.env.cells.lookup x=some c->c≠X.env.locals:=λx c e z=>by
 obtain⟨v,o,ho,hd⟩:=I.cell x c e;obtain⟨m,⟨o',es,ep,ho',hd',_⟩,_⟩:=I.loc;rw[z,ho']at ho;cases ho;rw[hd']at hd;cases hd
theorem Inv.rL(I:Inv X pins σ H s):s.heap.FunFrames X.base X.outer:=by
 have all:∀(l:List Env),(∀b∈qk l,b∈X.fs)->X.s₀.heap.FunFrames X.base l->s.heap.FunFrames X.base l:=by
  intro l
  induction l with
  | nil=>intro _ _;trivial
  | cons env r ih =>
   intro hs hl;obtain⟨hk,⟨L,o,hf,hn,ho,hd⟩,hr⟩:=hl;have hL:L∈X.fs:=hs L (by unfold qk;rw[List.filterMap_cons,hf];exact List.mem_cons_self);obtain⟨sl,e⟩:=I.base.slot L o ho (I.ok.frf L hL) hL λz=>I.ok.exfs L z hL
   exact⟨hk,⟨L,_,hf,hn,e,hd⟩,ih (λb hb=>hs b (by unfold qk;rw[List.filterMap_cons,hf];exact List.mem_cons_of_mem _ hb)) hr⟩
 exact all X.outer (λ_ hb=>hb) I.ok.rL
theorem Inv.stack(I:Inv X pins σ H s):s.heap.FunFrames X.base X.stack:=by
 rcases I.ok.stk with e | ⟨e,hf⟩
 ·rw[e];exact I.rL
 ·rw[e];obtain⟨m,hn,_⟩:=I.loc;refine .cons (by rw[I.ok.kind];decide) hf hn ?_ I.rL;exact Heap.get?_none_of_le (aaB I.ok.bsz I.ok.above)
theorem Inv.Br(I:Inv X pins σ H s):∀b∈qk X.stack,b∈X.env.locals::X.fs:=λb hb=>by
 rcases I.ok.stk with e | ⟨e,hf⟩
 ·rw[e]at hb;exact aaL _ hb
 ·rw[e]at hb;unfold qk at hb;rw[List.filterMap_cons,hf]at hb;exact hb
theorem Inv.uq(I:Inv X pins σ H s):∀b∈qk X.stack,H b=none:=λb hb=>by
 rcases aay.mp (I.Br b hb)with e | hb
 ·rw[e];exact I.free
 ·obtain⟨_,o,ho,_⟩:=I.ok.rL.mem hb;exact I.base.free b o ho (I.ok.frf b hb) λz=>I.ok.exfs b z hb
theorem Inv.step{g':Array GenState}{t':Nat}{d':Drawn}{ch:List Addr}(I:Inv X pins σ H s)
  (hch:∀b∈ch,(b∈X.ex∨X.s₀.heap.objs.size<=b)/\b≠X.env.locals/\(∀x c,X.env.cells.lookup x=some c->c≠b)/\∀p∈X.pn++pins,p.1≠b)
  (keep:∀b o,b≠X.env.locals->b∉X.fs->b∉ch->s.heap.get? b=some o->H b=none->h'.get? b=some o)
  (slot:∀b o,b≠X.env.locals->b∈X.fs->b∉ch->s.heap.get? b=some o->H b=none->∃sl,h'.get? b=some {o with slots:=sl}) (free:∀b o,b∉ch->s.heap.get? b=some o->H b=none->H' b=none)
  (there:∀b o,b∉ch->s.heap.get? b=some o->∃o',h'.get? b=some o')
  (tups:∀b xs,H b=some (.tup xs)->H' b=some (.tup xs)) (dz:∀b o u,H b=some (.oY o u)->H' b=some (.oY o u)) (tbls:∀b ps,H b=some (.tbl ps)->∃more,H' b=some (.tbl (ps++more)))
  (ns:∀m,s.heap.Ns X.env.locals m->h'.Ns X.env.locals m) (hok:qj X.prog X.w H' h') (hg:AllBare g') :
  Inv X pins σ H' {s with heap:=h',gens:=g',drawn:=d',toks:=t'}:=by
 have neL:∀b o,X.s₀.heap.get? b=some o->b≠X.env.locals:=λb o e=>aav (aap (aal e) I.ok.above)
 have neC:∀b o,X.s₀.heap.get? b=some o->b∉X.ex->b∉ch:=λb o e hx hb=>by
  rcases (hch b hb).1 with z | z
  ·exact hx z
  ·exact absurd (aap (aal e) z) (aa8 _)
 have cellK:∀x c,X.env.cells.lookup x=some c->∀v,s.heap.IsCell c v->h'.IsCell c v:=λx c e v ⟨o,ho,hd⟩=>by
  have nch:c∉ch:=λz=>(hch c z).2.2.1 x c e rfl
  by_cases hc:c∈X.fs
  ·obtain⟨sl,q⟩:=slot c o (I.Kf x c e) hc nch ho (I.freeC x c e);exact⟨_,q,hd⟩
  ·exact⟨o,keep c o (I.Kf x c e) hc nch ho (I.freeC x c e),hd⟩
 refine⟨I.ok,I.os,hg,⟨λb o e n hb hx=>?_,λb o e n hb hx=>?_,λb o e n hx=>?_,λb o e hx=>?_,λb xs e=>tups b xs (I.base.tups b xs e),λb o xs e=>dz b o xs (I.base.dz b o xs e),λb ps e=>?_⟩,?_,λx c e=>?_,?_,λx c e=>?_,λp hp=>?_,hok,I.len⟩
 ·exact keep b o (neL b o e) hb (neC b o e hx) (I.base.keep b o e n hb hx) (I.base.free b o e n hx)
 ·obtain⟨sl,e1⟩:=I.base.slot b o e n hb hx;obtain⟨sl',e2⟩:=slot b _ (neL b o e) hb (neC b o e hx) e1 (I.base.free b o e n hx);exact⟨sl',e2⟩
 ·obtain⟨o',e1⟩:=I.base.there b o e hx;exact free b o' (neC b o e hx) e1 (I.base.free b o e n hx)
 ·obtain⟨o',e1⟩:=I.base.there b o e hx;exact there b o' (neC b o e hx) e1
 ·obtain⟨m1,e1⟩:=I.base.tbls b ps e;obtain⟨m2,e2⟩:=tbls b _ e1;exact⟨m1++m2,by rw[e2,Array.append_assoc]⟩
 ·obtain⟨m,hn,hl⟩:=I.loc;refine⟨m,ns m hn,λi x v e1 e2 e3=>?_⟩;obtain⟨u,r,l⟩:=hl i x v e1 e2 e3;refine⟨u,r,?_⟩;rcases l with l | ⟨k,c,e,z⟩
  ·exact .inl l
  ·exact .inr ⟨k,c,e,cellK x c e _ z⟩
 ·obtain⟨v,z⟩:=I.cell x c e;exact⟨v,cellK x c e v z⟩
 ·obtain⟨m,⟨o,_,_,ho,_⟩,_⟩:=I.loc;exact free _ o (λz=>(hch _ z).2.1 rfl) ho I.free
 ·obtain⟨v,o,ho,hd⟩:=I.cell x c e;exact free c o (λz=>(hch c z).2.2.1 x c e rfl) ho (I.freeC x c e)
 ·obtain⟨e,n,ne,nf,d⟩:=I.pin p hp;have nch:p.1∉ch:=λz=>(hch p.1 z).2.2.2 p hp rfl
  exact⟨keep p.1 p.2 ne nf nch e n,free p.1 p.2 nch e n,ne,nf,d⟩
theorem Inv.un{t':Nat}(I:Inv X pins σ H s)(u:Un X.fs [] H H' s.heap h')(hok:qj X.prog X.w H' h'):Inv X pins σ H' {s with heap:=h',toks:=t'}:=by
 obtain⟨m,⟨o,es,ep,ho,r⟩,_⟩:=id I.loc;obtain⟨sl,hL⟩:=u.any ho I.free (by simp)
 exact I.step (g':=s.gens) (d':=s.drawn) (ch:=[]) (λ_ z=>nomatch z) (λb o _ hb _ e n=>u.keep b o e n hb (by simp)) (λb o _ hb _ e n=>u.slot b o e n hb (by simp)) (λb o _ e n=>u.free b o e n (by simp)) (λb o _ e=>u.there b o e (by simp)) u.tups u.dz u.tbls (λm' hm=>by
  obtain⟨o',es',ep',ho',r'⟩:=hm;rw[ho]at ho';cases ho';exact⟨_,es',ep',hL,r'⟩) hok I.bare
theorem Inv.call{g':Array GenState}{t':Nat}{d':Drawn}{ch:List Addr}(I:Inv X pins σ H s)(u:Un (qk X.stack) ch H H' s.heap h')(hok:qj X.prog X.w H' h')(hg:AllBare g')
  (hch:∀b∈ch,(b∈X.ex∨X.s₀.heap.objs.size<=b)/\b≠X.env.locals/\(∀x c,X.env.cells.lookup x=some c->c≠b)/\∀p∈X.pn++pins,p.1≠b) :
  Inv X pins σ H' {s with heap:=h',gens:=g',drawn:=d',toks:=t'}:=by
 obtain⟨m,⟨o,es,ep,ho,r⟩,_⟩:=id I.loc;obtain⟨sl,hL⟩:=u.any ho I.free λz=>(hch _ z).2.1 rfl
 exact I.step (ch:=ch) hch (λb o hL hb hc e n=>u.keep b o e n (λz=>(aay.mp (I.Br b z)).elim hL hb) hc) (λb o _ _ hc e n=>u.any e n hc) (λb o hc e n=>u.free b o e n hc) (λb o hc e=>u.there b o e hc) u.tups u.dz u.tbls (λm' hm=>by
  obtain⟨o',es',ep',ho',r'⟩:=hm;rw[ho]at ho';cases ho';exact⟨_,es',ep',hL,r'⟩) hok hg
theorem Inv.turned{t':Nat}{it:Addr}(I:Inv X pins σ H s)(k:∀b o,b≠it->s.heap.get? b=some o->h'.get? b=some o)(hn:H it=none)(hL:it≠X.env.locals)
  (h1:it∈X.ex∨X.s₀.heap.objs.size<=it) (h2:∀x c,X.env.cells.lookup x=some c->c≠it) (h3:∀p∈X.pn++pins,p.1≠it):Inv X pins σ H {s with heap:=h',toks:=t'}:=by
 have nit:∀b u,H b=some u->b≠it:=λb u e z=>by rw[z,hn]at e;cases e
 refine I.step (g':=s.gens) (d':=s.drawn) (ch:=[it]) (λb hb=>?_) (λb o _ _ hc e _=>k b o (λz=>hc (by simp[z])) e) (λb o _ _ hc e _=>⟨o.slots,k b o (λz=>hc (by simp[z])) e⟩) (λ_ _ _ _ n=>n)
  (λb o hc e=>⟨o,k b o (λz=>hc (by simp[z])) e⟩) (λ_ _ e=>e) (λ_ _ _ e=>e) (λb ps e=>⟨#[],by rw[e];simp⟩) (λm hm=>?_) (λb u e=>?_) I.bare
 ·have e:b=it:=by simpa using hb
  subst e;exact⟨h1,hL,h2,h3⟩
 ·obtain⟨o,es,ep,ho,r⟩:=hm;exact⟨o,es,ep,k _ o (acn hL) ho,r⟩
 ·refine(I.hok b u e).rK (λc v hc q=>k c v ?_ q) (λ_ q=>q) λ_ _ q=>q
  rcases hc with z | z
  ·rw[z];exact nit b u e
  ·exact nit c _ z
theorem Inv.tok(I:Inv X pins σ H s)(t:Nat):Inv X pins σ H {s with toks:=t}:=I.un (h':=s.heap) (t':=t) Un.refl I.hok
theorem Inv.kept{t':Nat}(I:Inv X pins σ H s)(k:∀b u,s.heap.get? b=some u->h'.get? b=some u):Inv X pins σ H {s with heap:=h',toks:=t'}:=I.un (Un.kept k) (I.hok.kept k)
theorem Inv.laid{a:Addr}{o:HO}{t':Nat}(I:Inv X pins σ H s)(k:∀b u,s.heap.get? b=some u->h'.get? b=some u)(hp:s.heap.objs.size<=a)(new:eg X.prog X.w (upd H a o) h' a o):
  Inv X pins σ (upd H a o) {s with heap:=h',toks:=t'}:=I.un (Un.laid k hp (I.hok.fresh hp)) (I.hok.laid k hp new)
theorem Inv.write{x e:Addr}{o:HO}{t':Nat}(I:Inv X pins σ H s)(mu:U4 (H x))(he:e=x∨H e=some (.own x))(k:∀b u,b≠e->s.heap.get? b=some u->h'.get? b=some u)(heo:∃u,h'.get? e=some u)
  (new:eg X.prog X.w (upd H x o) h' x o):Inv X pins σ (upd H x o) {s with heap:=h',toks:=t'}:=I.un (Un.write mu he k heo) (I.hok.write mu he k heo new)
theorem Inv.weak{σ':List (Option V)}(I:Inv X pins σ H s)(hl:σ'.length=σ.length)(w:∀(i:Nat) v,σ'[i]?=some (some v)->σ[i]?=some (some v)):Inv X pins σ' H s :=
 ⟨I.ok,I.os,I.bare,I.base,let ⟨m,hn,hl'⟩:=I.loc;⟨m,hn,λi x v e1 e2 e3=>hl' i x v e1 (w i v e2) e3⟩,I.cell,I.free,I.freeC,I.pin,I.hok,hl.trans I.len⟩
theorem Inv.CM{pins':List (Addr×Obj)}(I:Inv X pins σ H s)(h:∀p∈pins',s.heap.get? p.1=some p.2/\H p.1=none/\p.1≠X.env.locals/\p.1∉X.fs/\∀v,p.2.data≠.cell v):Inv X pins' σ H s :=
 ⟨I.ok,I.os,I.bare,I.base,I.loc,I.cell,I.free,I.freeC,λp hp=>(aaN.mp hp).elim (λz=>I.pin p (List.mem_append_left _ z)) (h p),I.hok,I.len⟩
theorem uD{N:List Str}(hN:N.Nodup){i j:Nat}{x:Str}(a:N[i]?=some x)(b:N[j]?=some x):i=j:=by
 obtain⟨h1,e1⟩:=bz a;obtain⟨h2,e2⟩:=bz b;exact(List.getElem_inj hN).mp (e1.trans e2.symm)
theorem rN{M:Model}{A:Around}{E:Value->Shared->Prop}{i:Nat}{x:Str}{v:V}{u:Value}{Q:Unit->Shared->Prop}(I:Inv X pins σ H s)(hN:X.N.Nodup)(hi:X.N[i]?=some x)(hx:Loc X.env.scope x)(r:RelV v u)
  (h:∀s',Inv X pins (σ.set i (some v)) H s'->(∃a,Heap.SameBut a s.heap s'.heap/\(a=X.env.locals∨X.env.cells.lookup x=some a))->Q () s') (hf:X.fn x=true∨X.env.scope.names.lookup x=some .local:=by first | exact .inl rfl | exact .inr rfl | assumption):wpAny M A (storeName X.env x u) Q E s:=by
 obtain⟨m,hn,hl⟩:=id I.loc;have hcls:(X.env.scope.kind == .class||(X.env.scope.kind == .module&&X.env.locals != X.env.globals))=false:=by rw[I.ok.kind];rfl
 have hiσ:i < σ.length:=by rw[I.len];exact(bz hi).1
 have Kf:=I.Kf
 have tracked:∀{a:Addr} {h':Heap},(∃o,s.heap.get? a=some o/\H a=none)->Heap.SameBut a s.heap h'->qj X.prog X.w H h':=λ{a h'} ha hs b ob e=>by
  obtain⟨_,_,hfree⟩:=ha;refine(I.hok b ob e).rK (λc w' hc q=>(hs.2 c ?_).trans q) (λ_ q=>q) λ_ _ q=>q
  rintro rfl;rcases hc with rfl | hc
  ·rw[hfree]at e;cases e
  ·rw[hfree]at hc;cases hc
 rcases hx with hk | hk
 ·refine wpAny_storeName_local hk hn (λh' hn' hs=>?_) hcls;obtain⟨oL,_,_,hoL,_⟩:=id hn;refine h _ ⟨I.ok,I.os,I.bare,⟨λb o e n hb hx=>?_,λb o e n hb hx=>?_,I.base.free,λb o e hx=>?_,I.base.tups,I.base.dz,I.base.tbls⟩,⟨_,hn',λj y v' e1 e2 e3=>?_⟩,λy c e=>?_,I.free,I.freeC,λp hp=>?_,tracked ⟨oL,hoL,I.free⟩ hs,by simpa using I.len⟩ ⟨_,hs,.inl rfl⟩
  ·exact(hs.2 b (aav (aap (aal e) I.ok.above))).trans (I.base.keep b o e n hb hx)
  ·obtain⟨sl,e1⟩:=I.base.slot b o e n hb hx;exact⟨sl,(hs.2 b (aav (aap (aal e) I.ok.above))).trans e1⟩
  ·obtain⟨o',e1⟩:=I.base.there b o e hx;exact⟨o',(hs.2 b (aav (aap (aal e) I.ok.above))).trans e1⟩
  ·by_cases hj:j=i
   ·subst hj;rw[hi]at e1;cases e1;rw[List.getElem?_set_self hiσ]at e2;cases e2;exact⟨u,r,.inl ⟨hk,by simp⟩⟩
   ·rw[aaq (acn hj)]at e2;obtain⟨u',r',q⟩:=hl j y v' e1 e2 e3;refine⟨u',r',?_⟩;rcases q with⟨k,e⟩ | ⟨k,c,e,z⟩
    ·refine .inl ⟨k,?_⟩;have:y≠x:=λe=>hj (uD hN e1 (e ▸ hi))
     simp[this,e]
    ·exact .inr ⟨k,c,e,z.sameBut hs (Kf y c e)⟩
  ·obtain⟨w',z⟩:=I.cell y c e;exact⟨w',z.sameBut hs (Kf y c e)⟩
  ·obtain⟨e,n,ne,nf,d⟩:=I.pin p hp;exact⟨(hs.2 p.1 ne).trans e,n,ne,nf,d⟩
 ·have hfn:X.fn x=true:=by
   rcases hf with z | z
   ·exact z
   ·rw[z]at hk;cases hk
  obtain⟨c,hc⟩:=I.ok.has x (.inl hk);obtain⟨w',z⟩:=I.cell x c hc;refine wpAny_storeName_cell I.ok.kind hk hc z (λh' hc' hs=>?_);obtain⟨oc,hoc,hocd⟩:=id z;refine h {s with heap:=h'} ⟨I.ok,I.os,I.bare,⟨λb o e n hb hx=>?_,λb o e n hb hx=>?_,I.base.free,λb o e hx=>?_,I.base.tups,I.base.dz,I.base.tbls⟩,⟨m,hn.sameBut hs (Ne.symm (Kf x c hc)),λj y v' e1 e2 e3=>?_⟩,λy c' e=>?_,I.free,I.freeC,λp hp=>?_,tracked ⟨oc,hoc,I.freeC x c hc⟩ hs,by simpa using I.len⟩ ⟨c,hs,.inr hc⟩
  ·exact(hs.2 b (aav (aap (aal e) (I.ok.cab x c hfn hc)))).trans (I.base.keep b o e n hb hx)
  ·obtain⟨sl,e1⟩:=I.base.slot b o e n hb hx;exact⟨sl,(hs.2 b (aav (aap (aal e) (I.ok.cab x c hfn hc)))).trans e1⟩
  ·obtain⟨o',e1⟩:=I.base.there b o e hx;exact⟨o',(hs.2 b (aav (aap (aal e) (I.ok.cab x c hfn hc)))).trans e1⟩
  ·by_cases hj:j=i
   ·subst hj;rw[hi]at e1;cases e1;rw[aar hiσ]at e2;cases e2;exact⟨u,r,.inr ⟨.inl hk,c,hc,hc'⟩⟩
   ·rw[aaq (acn hj)]at e2;obtain⟨u',r',q⟩:=hl j y v' e1 e2 e3;refine⟨u',r',?_⟩;rcases q with q | ⟨k,c',e,z'⟩
    ·exact .inl q
    ·refine .inr ⟨k,c',e,z'.sameBut hs ?_⟩;rintro rfl;exact hj (uD hN e1 (I.ok.inj _ _ _ e hc ▸ hi))
  ·by_cases hcc:c'=c
   ·subst hcc;exact⟨_,hc'⟩
   ·obtain⟨w2,z2⟩:=I.cell y c' e;exact⟨w2,z2.sameBut hs hcc⟩
  ·obtain⟨e,n,ne,nf,d⟩:=I.pin p hp;refine⟨(hs.2 p.1 ?_).trans e,n,ne,nf,d⟩;intro q;rw[q,hoc]at e;have q':oc=p.2:=aaJ e;exact d w' (by rw[← q'];exact hocd)
theorem uE{M:Model}{A:Around}{E:Value->Shared->Prop}{i:Nat}{x:Str}{v:V}{u:Value}{Q:Unit->Shared->Prop}(I:Inv X pins σ H s)(hN:X.N.Nodup)(hi:X.N[i]?=some x)(hx:Loc X.env.scope x)(r:RelV v u)
  (h:∀s',Inv X pins (σ.set i (some v)) H s'->Q () s') (hf:X.fn x=true∨X.env.scope.names.lookup x=some .local:=by first | exact .inl rfl | exact .inr rfl | assumption):wpAny M A (storeName X.env x u) Q E s :=
 rN I hN hi hx r (λs' I' _=>h s' I') hf
theorem Inv.Nk{s':Shared}{ch:List Addr}(I:Inv X pins σ H s)(ho:s'.os=s.os)(u:Un (qk X.stack) ch H H' s.heap s'.heap)(hok:qj X.prog X.w H' s'.heap)(hg:AllBare s'.gens)
  (hch:∀b∈ch,(b∈X.ex∨X.s₀.heap.objs.size<=b)/\b≠X.env.locals/\(∀x c,X.env.cells.lookup x=some c->c≠b)/\∀p∈X.pn++pins,p.1≠b):Inv X pins σ H' s':=by
 obtain⟨h',g',d',t',o'⟩:=s';have e:o'=s.os:=ho;subst e;exact I.call (g':=g') (t':=t') (d':=d') u hok hg hch
end
abbrev XK:=Value->Option Addr->Hp->Prop
abbrev St:=List (Option V)
abbrev VK:=V->Hp->Prop
abbrev TE:=St->Hp->VK->Prop
abbrev TT:=St->Hp->(Bool->Hp->Prop)->Prop
abbrev TA:=St->Hp->(List V->Hp->Prop)->Prop
structure Ends where
 nx:St->Hp->Prop
 rt:VK
 bk:St->Hp->Prop:=λ_ _=>False
 ct:St->Hp->Prop:=λ_ _=>False
abbrev TS:=Ends->St->Hp->Prop
def EP(X:Cx)(pins:List (Addr×Obj))(σ:St)(Q:VK)(u:Value)(s':Shared):Prop:=∃v H',Inv X pins σ H' s'/\RelV v u/\Q v H'
def TP(X:Cx)(pins:List (Addr×Obj))(σ:St)(Q:Bool->Hp->Prop)(b:Bool)(s':Shared):Prop:=∃H',Inv X pins σ H' s'/\Q b H'
def AP(X:Cx)(pins:List (Addr×Obj))(σ:St)(Q:List V->Hp->Prop)(us:List Value)(s':Shared):Prop:=∃vs H',Inv X pins σ H' s'/\Vals vs us/\Q vs H'
def SP(X:Cx)(pins:List (Addr×Obj))(D:Ends)(f:Flow)(s':Shared):Prop :=
 match f with
 | .next=>∃σ' H',Inv X pins σ' H' s'/\D.nx σ' H'
 | .brk=>∃σ' H',Inv X pins σ' H' s'/\D.bk σ' H'
 | .cont=>∃σ' H',Inv X pins σ' H' s'/\D.ct σ' H'
 | .ret u=>∃v σ' H',Inv X pins σ' H' s'/\RelV v u/\D.rt v H'
def PE(X:Cx)(e:Expr)(t:TE):Prop :=
 ∀(pins:List (Addr×Obj)) (s:Shared) (σ:St) (H:Hp) (Q:VK),Inv X pins σ H s->t σ H Q->wpAny (model X.prog X.w) X.A (eval e X.env) (EP X pins σ Q) X.xe s
def PT(X:Cx)(e:Expr)(t:TT):Prop :=
 ∀(pins:List (Addr×Obj)) (s:Shared) (σ:St) (H:Hp) (Q:Bool->Hp->Prop),Inv X pins σ H s->t σ H Q->wpAny (model X.prog X.w) X.A (isTrue e X.env (eval e X.env)) (TP X pins σ Q) X.xe s
def PW(X:Cx)(e:Expr)(t:TT):Prop :=
 ∀(whole:Sem Value) (pins:List (Addr×Obj)) (s:Shared) (σ:St) (H:Hp) (Q:Bool->Hp->Prop),Inv X pins σ H s->t σ H Q->wpAny (model X.prog X.w) X.A (isTrue e X.env whole) (TP X pins σ Q) X.xe s
theorem PW.pt{X:Cx}{e:Expr}{t:TT}(h:PW X e t):PT X e t:=h _
def PA(X:Cx)(es:List Expr)(t:TA):Prop :=
 ∀(pos:Pos) (pins:List (Addr×Obj)) (s:Shared) (σ:St) (H:Hp) (Q:List V->Hp->Prop),Inv X pins σ H s->t σ H Q->wpAny (model X.prog X.w) X.A (spliced (backTo pos (starEach es X.env))) (AP X pins σ Q) X.xe s
def PS(X:Cx)(st:Stmt)(t:TS):Prop :=
 ∀(pins:List (Addr×Obj)) (s:Shared) (σ:St) (H:Hp) (D:Ends),Inv X pins σ H s->t D σ H->wpAny (model X.prog X.w) X.A (exec st X.env) (SP X pins D) X.xe s
def qo(X:Cx)(st:List Stmt)(t:TS):Prop :=
 ∀(pins:List (Addr×Obj)) (s:Shared) (σ:St) (H:Hp) (D:Ends),Inv X pins σ H s->t D σ H->wpAny (model X.prog X.w) X.A (execs st X.env) (SP X pins D) X.xe s
theorem bU{α:Type}{t:Sem α}{Q Q':α->Shared->Prop}{M:Model}{A:Around}{E:Value->Shared->Prop}{s:Shared}(h:wpAny M A t Q E s)(hQ:∀a s,Q a s->Q' a s):wpAny M A t Q' E s:=aaS h hQ λ_ _ x=>x
section
variable {X:Cx}
inductive Sj(i:Nat)(σ:St)(H:Hp)(Q:VK):Prop where
 | mk (v:V) (h:σ[i]?=some (some v)) (q:Q v H):Sj i σ H Q
def OD(i:Nat):TE:=λσ H Q=>Sj i σ H Q
def tC(v:V):TE:=λ_ H Q=>Q v H
theorem FI{i:Nat}{x:Str}{pos:Pos}(hN:X.N[i]?=some x)(hv:U6 X.env.scope x)(hd:(x == ("__debug__" : Str))=false:=by decide)(hcd:(x == ("__classdict__" : Str))=false:=by decide):PE X (.Name x pos) (OD i):=by
 intro pins s σ H Q I h;obtain⟨v,e,h⟩:=h;obtain⟨m,hn,hl⟩:=I.loc;obtain⟨u,r,l⟩:=hl i x v hN e hv;have fin:EP X pins σ Q u s:=⟨v,H,I,r,h⟩;rcases l with⟨hk,hm⟩ | ⟨hk,c,hc,hcell⟩
 ·exact wpAny_Name (wpAny_loadName_local I.ok.kind hk hn hm fin) hd
 ·rcases hk with hk | hk
  ·exact wpAny_Name (wpAny_loadName_cell I.ok.kind hk hc hcell fin) hd
  ·exact wpAny_Name (wpAny_loadName_free I.ok.kind hk hc hcell fin hcd) hd
theorem pI{i j pos}:PE X (.Constant (.int i) j pos) (tC (.int i)):=λ_ _ _ H _ I h=>wpAny_Constant_int ⟨.int i,H,I.tok _,⟨_,rfl⟩,h⟩
theorem Sk{b j pos}:PE X (.Constant (.bool b) j pos) (tC (.bl b)):=λ_ _ _ H _ I h=>Constant_bool ⟨.bl b,H,I,rfl,h⟩
theorem rO{j pos}:PE X (.Constant .none j pos) (tC .non):=λ_ _ _ H _ I h=>Constant_none ⟨.non,H,I,rfl,h⟩
theorem oZ{x j pos}:PE X (.Constant (.str x) j pos) (tC (.str x)):=λ_ _ _ H _ I h=>Calls.Constant_str ⟨.str x,H,I.tok _,⟨_,rfl⟩,h⟩
def Gl(X:Cx)(x:Str):Prop:=X.env.kindOf x=some .globalImplicit
theorem qp{E:Value->Shared->Prop}{pins:List (Addr×Obj)}{s:Shared}{σ:St}{H:Hp}{x:Str}{u:Value}{pos:Pos}{Q:Value->Shared->Prop}(I:Inv X pins σ H s)(hg:Gl X x)(hm:X.mg x=some u)(h:Q u s)
  (hd:(x == ("__debug__" : Str))=false:=by decide):wpAny (model X.prog X.w) X.A (eval (.Name x pos) X.env) Q E s :=
 acs I.ok.kind hg (Calls.loadGlobal_global (by rw[I.ok.glob];exact I.mod.glob.keeps I.bk) hm h) hd
theorem kL{E:Value->Shared->Prop}{pins:List (Addr×Obj)}{s:Shared}{σ:St}{H:Hp}{x:Str}{u:Value}{pos:Pos}{Q:Value->Shared->Prop}(I:Inv X pins σ H s)(hg:Gl X x)(hm:X.mg x=none)(hv:bootBuiltins x=some u)(h:Q u s)
  (hn:x≠"__name__":=by decide) (hd:(x == ("__debug__" : Str))=false:=by decide):wpAny (model X.prog X.w) X.A (eval (.Name x pos) X.env) Q E s:=by
 obtain⟨mb,h1,h2⟩:=I.mod.blt;exact acs I.ok.kind hg (Calls.loadGlobal_builtin (by rw[I.ok.glob];exact I.mod.glob.keeps I.bk) hm (by rw[I.ok.blt];exact h1.keeps I.bk) ((h2 x hn).trans hv) h) hd
theorem qq{x:Str}{v:V}{u:Value}{pos:Pos}(hg:Gl X x)(hm:X.mg x=some u)(r:RelV v u)(hd:(x == ("__debug__" : Str))=false:=by decide):PE X (.Name x pos) (tC v) :=
 λ_ _ _ H _ I h=>qp I hg hm ⟨v,H,I,r,h⟩ hd
theorem CN{x:Str}{v:V}{u:Value}{pos:Pos}(hg:Gl X x)(hm:X.mg x=none)(hv:bootBuiltins x=some u)(r:RelV v u)(hn:x≠"__name__":=by decide)(hd:(x == ("__debug__" : Str))=false:=by decide):PE X (.Name x pos) (tC v) :=
 λ_ _ _ H _ I h=>kL I hg hm hv ⟨v,H,I,r,h⟩ hn hd
variable {a b:Expr} {ta tb:TE} {pos:Pos}
def PC(X:Cx)(op:CmpOp)(a b:Expr)(t:TE):Prop :=
 ∀(pins:List (Addr×Obj)) (s:Shared) (σ:St) (H:Hp) (Q:VK),Inv X pins σ H s->t σ H Q ->
  wpAny (model X.prog X.w) X.A (eval a X.env) (λv s₁=>wpAny (model X.prog X.w) X.A (eval b X.env) (λu s₂=>wpAny (model X.prog X.w) X.A (compareOp op v u) (EP X pins σ Q) X.xe s₂) X.xe s₁) X.xe s
theorem FJ(b:Expr){op:CmpOp}(h:op≠.In)(h2:op≠.NotIn):behindInMarks op b=false:=by
 have e1:(op == CmpOp.In)=false:=by cases op<;>first | rfl | exact absurd rfl h
 have e2:(op == CmpOp.NotIn)=false:=by cases op<;>first | rfl | exact absurd rfl h2
 cases b<;>simp[behindInMarks,e1,e2]
inductive Vx(x:V)(H:Hp)(Q:Bool->Hp->Prop):Prop where
 | mk (c:Bool) (e:x=.bl c) (q:Q c H):Vx x H Q
def tB(t:TE):TT:=λσ H Q=>t σ H λx H1=>Vx x H1 Q
theorem OE{op:CmpOp}{t:TE}(h:PC X op a b t)(h1:behindInMarks op b=false:=by first | exact FJ _ (by decide) (by decide) | rfl):PT X (.Compare a [op] [b] pos) (tB t):=by
 intro pins s σ H Q I hw;refine wpAny_isTrue_Compare1 (bU (h pins s σ H _ I hw) λv s1 h1=>bU h1 λu s2 h2=>bU h2 λc s3 ⟨x,H1,I1,r1,q1⟩=>?_) h1;obtain⟨d,rfl,q⟩:=q1;cases r1;exact aaX ⟨H1,I1,q⟩
theorem FK{e:Expr}{t:TE}(h:PE X e t)(he:∀whole,isTrue e X.env whole=(do let v ← whole;standAt e.pos;holding [v] (truthy v)):=by intro _;rfl):PT X e (tB t):=by
 intro pins s σ H Q I hw;refine isTrue_plain (bU (h pins s σ H _ I hw) λv s1 ⟨x,H1,I1,r1,q1⟩=>?_) (he _);obtain⟨d,rfl,q⟩:=q1;cases r1;exact aaX ⟨H1,I1,q⟩
variable {tA tB':TT} {rest:List Expr}
def Sl(t u:TT):TT:=λσ H Q=>t σ H λc H1=>if c=true then u σ H1 Q else Q false H1
def Yd(t u:TT):TT:=λσ H Q=>t σ H λc H1=>if c=true then Q true H1 else u σ H1 Q
def Vy(t:TT):TT:=λσ H Q=>t σ H λc H1=>Q (!c) H1
theorem pw_and1(ha:PT X a tA):PW X (.BoolOp .And [a] pos) tA:=by
 intro wh pins s σ H Q I h;refine isTrue_and (bU (ha pins s σ H Q I h) λc s1 e=>?_)
 cases c with
 | true=>exact isTrue_and_nil e
 | false=>exact e
theorem pw_or1(ha:PT X a tA):PW X (.BoolOp .Or [a] pos) tA:=by
 intro wh pins s σ H Q I h;refine isTrue_or (bU (ha pins s σ H Q I h) λc s1 e=>?_)
 cases c with
 | false=>exact isTrue_or_nil e
 | true=>exact e
theorem pw_and(ha:PT X a tA)(hb:PW X (.BoolOp .And (b::rest) pos) tB'):PW X (.BoolOp .And (a::b::rest) pos) (Sl tA tB'):=by
 intro wh pins s σ H Q I h;refine isTrue_and (bU (ha pins s σ H _ I h) λc s1 ⟨H1,I1,q1⟩=>?_)
 cases c with
 | true=>exact hb wh pins s1 σ H1 Q I1 q1
 | false=>exact⟨H1,I1,q1⟩
theorem pw_or(ha:PT X a tA)(hb:PW X (.BoolOp .Or (b::rest) pos) tB'):PW X (.BoolOp .Or (a::b::rest) pos) (Yd tA tB'):=by
 intro wh pins s σ H Q I h;refine isTrue_or (bU (ha pins s σ H _ I h) λc s1 ⟨H1,I1,q1⟩=>?_)
 cases c with
 | true=>exact⟨H1,I1,q1⟩
 | false=>exact hb wh pins s1 σ H1 Q I1 q1
theorem FL(ha:PT X a tA):PT X (.UnaryOp .Not a pos) (Vy tA):=by
 intro pins s σ H Q I h;exact isTrue_not (ha pins s σ H (λc H1=>Q (!c) H1) I h)
def Sm(ta tb:TE):TE:=λσ H Q=>ta σ H λx H1=>∃c,x=.bl c/\if c=true then tb σ H1 Q else Q (.bl false) H1
def Vz(ta tb:TE):TE:=λσ H Q=>ta σ H λx H1=>∃c,x=.bl c/\if c=true then Q (.bl true) H1 else tb σ H1 Q
def Sn(ta:TE):TE:=λσ H Q=>ta σ H λx H1=>∃c,x=.bl c/\Q (.bl (!c)) H1
theorem OG{op}{t:TE}(h:PE X a t):PE X (.BoolOp op [a] pos) t:=λpins s σ H Q I hw=>BoolOp_one (h pins s σ H Q I hw)
theorem OH(ha:PE X a ta)(hb:PE X (.BoolOp .And (b::rest) pos) tb):PE X (.BoolOp .And (a::b::rest) pos) (Sm ta tb):=by
 intro pins s σ H Q I h;refine BoolOp_and (bU (ha pins s σ H _ I h) λv s1 ⟨x,H1,I1,r1,q1⟩=>?_);obtain⟨c,rfl,q1⟩:=q1;cases r1;refine aaX ?_
 cases c with
 | true=>exact hb pins s1 σ H1 Q I1 q1
 | false=>exact⟨.bl false,H1,I1,rfl,q1⟩
theorem So(ha:PE X a ta)(hb:PE X (.BoolOp .Or (b::rest) pos) tb):PE X (.BoolOp .Or (a::b::rest) pos) (Vz ta tb):=by
 intro pins s σ H Q I h;refine BoolOp_or (bU (ha pins s σ H _ I h) λv s1 ⟨x,H1,I1,r1,q1⟩=>?_);obtain⟨c,rfl,q1⟩:=q1;cases r1;refine aaX ?_
 cases c with
 | false=>exact hb pins s1 σ H1 Q I1 q1
 | true=>exact⟨.bl true,H1,I1,rfl,q1⟩
theorem OI(ha:PE X a ta):PE X (.UnaryOp .Not a pos) (Sn ta):=by
 intro pins s σ H Q I h;refine UnaryOp_ (bU (ha pins s σ H _ I h) λv s1 ⟨x,H1,I1,r1,q1⟩=>?_);obtain⟨c,rfl,q1⟩:=q1;cases r1;exact not_of (aaX ⟨.bl (!c),H1,I1,rfl,q1⟩)
end
def dC(K:aH)(H:Hp)(a:Addr)(xs:List V):Prop :=
 Rd H a (.lst xs) ∨
  ∃(o:Obj) (its:Array Value) (n:Nat),K.lookup a=some o/\o.cls=.type "list"/\o.dict=none/\o.data=.seq its n/\its.size<=sizeLine/\Vals xs its.toList
def dG(K:aH)(H:Hp)(a:Addr)(xs:List V):Prop :=
 Rd H a (.tup xs) ∨
  ∃(o:Obj) (its:Array Value) (n:Nat),K.lookup a=some o/\o.cls=.type "tuple"/\o.data=.seq its n/\its.size<=sizeLine/\Vals xs its.toList
def VA:Value->Option V
 | .none=>some .non
 | .bool b=>some (.bl b)
 | .int i _=>some (.int i)
 | .str x _=>some (.str x)
 | .bytes b _=>some (.byt b)
 | .float b _=>some (.flt b)
 | .ref a=>some (.ref a)
 | .type n=>some (.ty n)
 | _=>none
theorem RelV.abs{x:V}{u:Value}(r:RelV x u):VA u=some x:=by
 cases x with
 | non=>cases r;rfl
 | bl _=>cases r;rfl
 | int _=>obtain⟨t,rfl⟩:=r;rfl
 | str _=>obtain⟨t,rfl⟩:=r;rfl
 | byt _=>obtain⟨t,rfl⟩:=r;rfl
 | flt _=>obtain⟨t,rfl⟩:=r;rfl
 | ref _=>cases r;rfl
 | ty _=>cases r;rfl
theorem RelV.inj{x y:V}{u:Value}(r:RelV x u)(q:RelV y u):x=y:=aaJ (r.abs.symm.trans q.abs)
theorem Vals.inj:∀{xs ys:List V} {us:List Value},Vals xs us->Vals ys us->xs=ys
 | _,_,_,.nil,.nil=>rfl
 | _,_,_,.cons r t,.cons r' t'=>by rw[r.inj r',Vals.inj t t']
section
variable {X:Cx} {pins:List (Addr×Obj)} {σ:St} {H:Hp} {s:Shared} {a:Addr} {xs ys:List V}
theorem dC.of{K:aH}(h:H a=some (.lst xs)):dC K H a xs:=.inl (.inl h)
theorem dG.of{K:aH}(h:H a=some (.tup xs)):dG K H a xs:=.inl (.inl h)
theorem Inv.list(I:Inv X pins σ H s)(h:dC X.K H a xs):∃its:List Value,Vals xs its/\PlainL s.heap a its.toArray/\xs.length<=sizeLine:=by
 rcases h with h | ⟨o,its,n,hk,hc,hd,hs,hz,r⟩
 ·obtain⟨z,its,n,r,e⟩:=h.ok I.hok;exact⟨its,r,⟨_,n,e,rfl,rfl,rfl⟩,z⟩
 ·refine⟨its.toList,r,⟨o,n,I.ql a o hk,hc,hd,by simpa using hs⟩,?_⟩;have e:=r.length;simp only[Array.length_toList]at e;omega
theorem Inv.tuple(I:Inv X pins σ H s)(h:dG X.K H a xs):∃its:List Value,Vals xs its/\IsTup s.heap a its.toArray/\xs.length<=sizeLine:=by
 rcases h with h | ⟨o,its,n,hk,hc,hs,hz,r⟩
 ·obtain⟨z,its,r,p⟩:=h.ok I.hok;exact⟨its,r,p,z⟩
 ·refine⟨its.toList,r,⟨o,I.ql a o hk,hc,n,by simpa using hs⟩,?_⟩;have e:=r.length;simp only[Array.length_toList]at e;omega
theorem Inv.FN(I:Inv X pins σ H s)(h:dC X.K H a xs)(h':dC X.K H a ys):xs=ys:=by
 obtain⟨its,r,⟨o,n,e,_,_,d⟩,_⟩:=I.list h;obtain⟨its',r',⟨o',n',e',_,_,d'⟩,_⟩:=I.list h';rw[e]at e';cases e';rw[d]at d'
 injection d' with d1 _
 have:its=its':=by simpa using congrArg Array.toList d1
 subst this;exact r.inj r'
theorem Inv.DZ(I:Inv X pins σ H s)(h:dG X.K H a xs)(h':dG X.K H a ys):xs=ys:=by
 obtain⟨its,r,⟨o,e,_,n,d⟩,_⟩:=I.tuple h;obtain⟨its',r',⟨o',e',_,n',d'⟩,_⟩:=I.tuple h';rw[e]at e';cases e';rw[d]at d'
 injection d' with d1 _
 have:its=its':=by simpa using congrArg Array.toList d1
 subst this;exact r.inj r'
end
abbrev Cx.pb(X:Cx)(E:Value->Shared->Prop):Cx:={X with xe:=E}
abbrev Cx.U7(X:Cx):Cx:=X.pb λ_ _=>False
theorem Cx.Ok.pb{X:Cx}(ok:X.Ok)(E:Value->Shared->Prop):(X.pb E).Ok :=
 ⟨ok.mod,ok.kind,ok.glob,ok.blt,ok.above,ok.inj,ok.has,ok.cab,ok.hd,ok.frames,ok.stk,ok.exf,ok.bs,ok.bsz,ok.noex,ok.exfs,ok.rL,ok.frf⟩
theorem Cx.Ok.js{X:Cx}{E:Value->Shared->Prop}(ok:(X.pb E).Ok):X.Ok :=
 ⟨ok.mod,ok.kind,ok.glob,ok.blt,ok.above,ok.inj,ok.has,ok.cab,ok.hd,ok.frames,ok.stk,ok.exf,ok.bs,ok.bsz,ok.noex,ok.exfs,ok.rL,ok.frf⟩
section
variable {X:Cx} {pins:List (Addr×Obj)} {σ:St} {H:Hp} {s:Shared} {E:Value->Shared->Prop}
theorem Inv.pb(I:Inv X pins σ H s)(E:Value->Shared->Prop):Inv (X.pb E) pins σ H s:=⟨I.ok.pb E,I.os,I.bare,I.base,I.loc,I.cell,I.free,I.freeC,I.pin,I.hok,I.len⟩
theorem Inv.js(I:Inv (X.pb E) pins σ H s):Inv X pins σ H s:=⟨I.ok.js,I.os,I.bare,I.base,I.loc,I.cell,I.free,I.freeC,I.pin,I.hok,I.len⟩
theorem SP.js{D:Ends}{f:Flow}{s':Shared}(h:SP (X.pb E) pins D f s'):SP X pins D f s':=by
 cases f with
 | next=>obtain⟨σ',H',I,q⟩:=h;exact⟨σ',H',I.js,q⟩
 | brk=>obtain⟨σ',H',I,q⟩:=h;exact⟨σ',H',I.js,q⟩
 | cont=>obtain⟨σ',H',I,q⟩:=h;exact⟨σ',H',I.js,q⟩
 | ret u=>obtain⟨v,σ',H',I,r,q⟩:=h;exact⟨v,σ',H',I.js,r,q⟩
theorem qo.U7{st:List Stmt}{t:TS}(h:qo X.U7 st t):qo X st t:=λpins s σ H D I hw =>
 aaS (h pins s σ H D (I.pb _) hw) (λ_ _ q=>q.js) λ_ _ z=>False.elim z
end
section
variable {X:Cx} {st:Stmt} {rest:List Stmt} {t u:TS} {e:Expr} {te:TE} {pos:Pos}
def uF:TS:=λD σ H=>D.nx σ H
def FO(t u:TS):TS:=λD σ H=>t {D with nx:=u D} σ H
theorem il:qo X [] uF:=λ_ _ σ H _ I h=>abu ⟨σ,H,I,h⟩
theorem qK(h1:PS X st t)(h2:qo X rest u):qo X (st::rest) (FO t u):=by
 intro pins s σ H D I h;refine acD (bU (h1 pins s σ H {D with nx:=u D} I h) λf s1 q=>?_)
 cases f with
 | next =>
  obtain⟨σ',H',I',q⟩:=q;exact h2 pins s1 σ' H' D I' q
 | ret v=>exact q
 | brk=>exact q
 | cont=>exact q
theorem qO(h1:PS X st t):qo X [st] t:=by
 intro pins s σ H D I h;refine acD (bU (h1 pins s σ H D I h) λf s1 q=>?_)
 cases f with
 | next=>exact abu q
 | ret v=>exact q
 | brk=>exact q
 | cont=>exact q
theorem Inv.quiet{pins:List (Addr×Obj)}{σ:St}{H:Hp}{s:Shared}(I:Inv X pins σ H s):interactive X.env=false:=by simp[interactive,I.ok.kind]
def Sq(te:TE):TS:=λD σ H=>te σ H λ_ H1=>D.nx σ H1
theorem Kg(he:PE X e te)(hs:swapsWith e none pos.line X.env=pure false:=by rfl):PS X (.Expr e pos) (Sq te):=by
 intro pins s σ H D I h;exact wpAny_Expr_any (bU (he pins s σ H _ I h) λv s1 ⟨x,H1,I1,r1,q1⟩=>⟨σ,H1,I1,q1⟩) I.quiet hs
def VB(te:TE):TS:=λD σ H=>te σ H D.rt
theorem kM(he:PE X e te):PS X (.Return (some e) pos) (VB te):=by
 intro pins s σ H D I h;exact wpAny_Return_some (bU (he pins s σ H _ I h) λv s1 ⟨x,H1,I1,r1,q1⟩=>⟨x,σ,H1,I1,r1,q1⟩)
def VC(c:TT)(t u:TS):TS:=λD σ H=>c σ H λb H1=>if b=true then t D σ H1 else u D σ H1
theorem qr{c:Expr}{a b:List Stmt}{tc:TT}(hc:PT X c tc)(ha:qo X a t)(hb:qo X b u):PS X (.If c a b pos) (VC tc t u):=by
 intro pins s σ H D I h;refine wpAny_If (bU (hc pins s σ H _ I h) λd s1 ⟨H1,I1,q1⟩=>?_)
 cases d with
 | true=>exact ha pins s1 σ H1 D I1 q1
 | false=>exact hb pins s1 σ H1 D I1 q1
def OJ:TS:=λ_ _ _=>False
theorem fD:PS X st OJ:=λ_ _ _ _ _ _ h=>h.elim
end
abbrev TG:=V->St->Hp->(St->Hp->Prop)->Prop
abbrev D1:=List V->St->Hp->(St->Hp->Prop)->Prop
def PG(X:Cx)(target:Expr)(t:TG):Prop :=
 ∀(pins:List (Addr×Obj)) (s:Shared) (σ:St) (H:Hp) (v:V) (u:Value) (Q:St->Hp->Prop),Inv X pins σ H s->RelV v u->t v σ H Q ->
  wpAny (model X.prog X.w) X.A (assign target X.env u) (λ_ s'=>∃σ' H',Inv X pins σ' H' s'/\Q σ' H') X.xe s
def Sr(X:Cx)(ts:List Expr)(t:D1):Prop :=
 ∀(pins:List (Addr×Obj)) (s:Shared) (σ:St) (H:Hp) (vs:List V) (us:List Value) (Q:St->Hp->Prop),Inv X pins σ H s->Vals vs us->t vs σ H Q ->
  wpAny (model X.prog X.w) X.A (assignInOrder ((assignEach ts X.env).map (·.2)) us) (λ_ s'=>∃σ' H',Inv X pins σ' H' s'/\Q σ' H') X.xe s
abbrev OK:=V->V->V->Hp->(Hp->Prop)->Prop
def Ss(X:Cx)(t:OK):Prop :=
 ∀(pins:List (Addr×Obj)) (s:Shared) (σ:St) (H:Hp) (o i v:V) (ov iv u:Value) (Q:Hp->Prop),Inv X pins σ H s->RelV o ov->RelV i iv->RelV v u->t o i v H Q ->
  wpAny (model X.prog X.w) X.A (setItem ov iv u) (λ_ s'=>∃H',Inv X pins σ H' s'/\Q H') X.xe s
section
variable {X:Cx} {pos:Pos}
def gc(i:Nat):TG:=λv σ H Q=>Q (σ.set i (some v)) H
theorem bY{i:Nat}{x:Str}(hN:X.N.Nodup)(hi:X.N[i]?=some x)(hx:Loc X.env.scope x)(hf:X.fn x=true∨X.env.scope.names.lookup x=some .local:=by first | exact .inl rfl | exact .inr rfl | assumption):PG X (.Name x pos) (gc i):=by
 intro pins s σ H v u Q I r h;exact wpAny_assign_Name (uE I hN hi hx r (λs' I'=>⟨_,H,I',h⟩) hf)
def OL:D1:=λvs σ H Q=>vs=[]/\Q σ H
def FQ(t:TG)(u:D1):D1:=λvs σ H Q=>∃v r,vs=v::r/\t v σ H λσ' H'=>u r σ' H' Q
theorem qt:Sr X [] OL:=by
 intro pins s σ H vs us Q I r h;obtain⟨e,h⟩:=h;subst e;cases r;exact assignInOrder_nil ⟨σ,H,I,h⟩
theorem eG{e:Expr}{es:List Expr}{t:TG}{u:D1}(h1:PG X e t)(h2:Sr X es u)
  (hs:(assignEach (e::es) X.env).map (·.2)=assign e X.env::(assignEach es X.env).map (·.2):=by rfl):Sr X (e::es) (FQ t u):=by
 intro pins s σ H vs us Q I r h;obtain⟨v,vr,e1,h⟩:=h;subst e1
 cases r with
 | cons r rr =>
  rw[hs];refine assignInOrder_cons (bU (h1 pins s σ H _ _ _ I r h) λ_ s1 ⟨σ1,H1,I1,q1⟩=>?_);exact h2 pins s1 σ1 H1 _ _ Q I1 rr q1
def Kh(K:aH)(n:Nat)(t:D1):TG:=λv σ H Q=>∃a xs,v=.ref a/\dG K H a xs/\xs.length=n/\t xs σ H Q
theorem uG{es:List Expr}{k:Nat}{t:D1}{n:Nat}(hc:X.calm=true)(h:Sr X es t)
  (hn:(assignEach es X.env).length=n:=by rfl) (hst:(assignEach es X.env).findIdx? (·.1)=none:=by rfl):PG X (.Tuple es k pos) (Kh X.K n t):=by
 intro pins s σ H v u Q I r hw;obtain⟨a,xs,e1,hq,hl,hw⟩:=hw;subst e1;cases r;obtain⟨its,rv,ht,hz⟩:=I.tuple hq;refine assign_Tuple_tuple (I.ok.hd hc) ht (by simp[hn,← hl,rv.length]) hst λh' hx=>?_
 have I1:Inv X pins σ H {s with heap:=h'}:=I.kept (t':=s.toks) λb o e=>hx b o (aav (aal e)) e
 exact h pins _ σ H xs _ Q I1 (by simpa using rv) hw
def Su(to ti:TE)(t:OK):TG:=λv σ H Q=>to σ H λo H1=>ti σ H1 λi H2=>t o i v H2 λH3=>Q σ H3
theorem FR{o i:Expr}{to ti:TE}{t:OK}(ho:PE X o to)(hi:PE X i ti)(hs:Ss X t)
  (ha:∀v,assign (.Subscript o i pos) X.env v=(do
   let ov ← holding [v] (eval o X.env)
   let iv ← holding [v,ov] (eval i X.env)
   standAt pos
   holding [v,ov,iv] (setItem ov iv v)
   release [v,ov,iv] []):=by intro _;rfl):PG X (.Subscript o i pos) (Su to ti t):=by
 intro pins s σ H v u Q I r h;rw[ha];refine aaf (abW (bU (ho pins s σ H _ I h) λov s1 ⟨x,H1,I1,r1,q1⟩=>?_));refine aaf (abW (bU (hi pins s1 σ H1 _ I1 q1) λiv s2 ⟨y,H2,I2,r2,q2⟩=>?_));refine aaf (ab5 (aaf (abW (bU (hs pins s2 σ H2 x y v ov iv u _ I2 r1 r2 r q2) λ_ s3 ⟨H3,I3,q3⟩=>?_))));exact wpAny_release ⟨σ,H3,I3,q3⟩
def Ki(te:TE)(g:TG):TS:=λD σ H=>te σ H λx H1=>g x σ H1 D.nx
theorem FT{tg e:Expr}{te:TE}{g:TG}(he:PE X e te)(hg:PG X tg g)(hs:swapsWithSole [tg] e pos.line X.env=pure false:=by rfl)(hw:swappedStores [tg] e X.env=pure none:=by rfl)
  (h1:(assignEach [tg] X.env).map (·.2)=[assign tg X.env]:=by rfl):PS X (.Assign [tg] e pos) (Ki te g):=by
 intro pins s σ H D I h;refine wpAny_Assign_stores (bU (he pins s σ H _ I h) λv s1 ⟨x,H1,I1,r1,q1⟩=>?_) hs hw;rw[h1];exact bU (hg pins s1 σ H1 x v _ I1 r1 q1) λ_ s2 q=>q
theorem eI{i:Nat}{x:Str}{e:Expr}{te:TE}{pos':Pos}(hN:X.N.Nodup)(hi:X.N[i]?=some x)(hx:Loc X.env.scope x)(he:PE X e te)(hs:swapsWith e (some (.Name x pos')) pos.line X.env=pure false:=by rfl)(hf:X.fn x=true∨X.env.scope.names.lookup x=some .local:=by first | exact .inl rfl | exact .inr rfl | assumption):
  PS X (.Assign [.Name x pos'] e pos) (Ki te (gc i)):=by
 intro pins s σ H D I h;refine wpAny_Assign_Name (bU (he pins s σ H _ I h) λv s1 ⟨y,H1,I1,r1,q1⟩=>?_) hs;exact uE I1 hN hi hx r1 (λs2 I2=>⟨_,H1,I2,q1⟩) hf
end
section
variable {X:Cx} {pos:Pos}
def OM(c:TT)(tb:TS):TS:=λD σ H=>∃W:Nat->St->Hp->Prop,(∃m,W m σ H)/\∀m σ H,W m σ H ->
 c σ H λb H1=>if b=true then ∃N:St->Hp->Prop,(∀σ' H',N σ' H'->∃m',m' < m/\W m' σ' H')/\tb {D with nx:=N,ct:=N,bk:=D.nx} σ H1 else D.nx σ H1
theorem FU{c:Expr}{body:List Stmt}{tc:TT}{tb:TS}(hp:PassesOwn (model X.prog X.w) X.A X.env X.xe)(hc:PT X c tc)(hb:qo X body tb):PS X (.While c body [] pos) (OM tc tb):=by
 intro pins s σ H D I h;obtain⟨W,⟨m0,w0⟩,turn⟩:=h;refine wpAny_While (codeAny_whileLoop (λn s'=>∃σ' H',Inv X pins σ' H' s'/\W n σ' H') ?_ m0 ⟨σ,H,I,w0⟩);rintro n s1 ⟨σ1,H1,I1,w1⟩;refine abl hp (bU (hc pins s1 σ1 H1 _ I1 (turn n σ1 H1 w1)) λb s2 ⟨H2,I2,q2⟩=>?_)
 cases b with
 | true =>
  obtain⟨N,hN,q2⟩:=q2;rw[aaD rfl];refine abl hp (bU (hb pins s2 σ1 H2 _ I2 q2) λf s3 q3=>?_)
  cases f with
  | next =>
   obtain⟨σ3,H3,I3,n3⟩:=q3;obtain⟨m',hm,w3⟩:=hN σ3 H3 n3;exact⟨m',hm,σ3,H3,I3,w3⟩
  | cont =>
   obtain⟨σ3,H3,I3,n3⟩:=q3;obtain⟨m',hm,w3⟩:=hN σ3 H3 n3;exact⟨m',hm,σ3,H3,I3,w3⟩
  | brk=>exact q3
  | ret v=>exact q3
 | false =>
  rw[aaF aai];exact abu ⟨σ1,H2,I2,q2⟩
end
structure It where
 go:Nat->Hp->Prop
 yld:Nat->Hp->V->Hp->Prop
 stop:Nat->Hp->Prop
def qu(X:Cx)(pins:List (Addr×Obj))(H:Hp)(b:Addr):Prop :=
 H b=none/\b≠X.env.locals/\b∉X.fs/\(b∈X.ex∨X.s₀.heap.objs.size<=b)/\(∀x c,X.env.cells.lookup x=some c->c≠b)/\∀p∈X.pn++pins,p.1≠b
theorem Inv.FV{X:Cx}{pins:List (Addr×Obj)}{σ:St}{H H':Hp}{s:Shared}{b:Addr}(I:Inv X pins σ H s)(hb:s.heap.objs.size<=b)(hn:H' b=none):qu X pins H' b:=by
 refine⟨hn,abk (aap I.lt hb),I.Vw hb,.inr (aaB I.sz hb),λx c e z=>?_,λp hp z=>?_⟩
 ·obtain⟨v,q⟩:=I.cell x c e;exact absurd (aap q.lt (by rw[z];exact hb)) (aa8 _)
 ·exact absurd (aap (aal (I.pin p hp).1) (by rw[z];exact hb)) (aa8 _)
structure Turn(P:Program)(w:World)(K:aH)(tg:Expr)(J:It)(fp:List Addr)(it:Addr)(tn:Nat->Heap->Prop):Prop where
 mem:it∈fp
 obj:∀i h,tn i h->∀b∈fp,∃o,h.get? b=some o/\∀v,o.data≠.cell v
 keep:∀i h h',tn i h->(∀b∈fp,∀o,h.get? b=some o->h'.get? b=some o)->tn i h'
 item:∀(X:Cx),X.prog=P->X.w=w->X.K=K->X.calm=true->∀(i:Nat) (pins:List (Addr×Obj)) (s:Shared) (σ:St) (H:Hp) (E:Value->Shared->Prop),Inv X pins σ H s->(∀b∈fp,qu X pins H b)->tn i s.heap->J.go i H ->
  wpAny (model P w) X.A (pyNext (.ref it)) (λr s1=>∃u,r=some u /\
   wpAny (model P w) X.A (letOwnedTupleGo tg (.ref it) u) (λ_ s2=>∃x H',Inv X pins σ H' s2/\RelV x u/\J.yld i H x H'/\tn (i + 1) s2.heap/\∀b∈fp,H' b=none) E s1) E s
 done:∀(X:Cx),X.prog=P->X.w=w->X.K=K->X.calm=true->∀(i:Nat) (pins:List (Addr×Obj)) (s:Shared) (σ:St) (H:Hp) (E:Value->Shared->Prop),Inv X pins σ H s->(∀b∈fp,qu X pins H b)->tn i s.heap->J.stop i H ->
  wpAny (model P w) X.A (pyNext (.ref it)) (λr s1=>r=none/\Inv X pins σ H s1) E s
 self:∀(A:Around) (i:Nat) (s:Shared) (Q:Value->Shared->Prop) (E:Value->Shared->Prop),tn i s.heap->Q (.ref it) s->wpAny (model P w) A (pyIter (.ref it)) Q E s
abbrev TI:=St->Hp->(It->Hp->Prop)->Prop
def Ye(X:Cx)(pins:List (Addr×Obj))(σ:St)(tg:Expr)(R:It->Hp->Prop)(itv:Value)(s2:Shared):Prop :=
 ∃(it:Addr) (fp:List Addr) (tn:Nat->Heap->Prop) (J:It) (H':Hp),itv=.ref it/\Inv X pins σ H' s2/\Turn X.prog X.w X.K tg J fp it tn/\tn 0 s2.heap/\(∀b∈fp,qu X pins H' b)/\R J H'
def PI(X:Cx)(tg iter:Expr)(wi:TI):Prop :=
 ∀(pins:List (Addr×Obj)) (s:Shared) (σ:St) (H:Hp) (R:It->Hp->Prop),Inv X pins σ H s->wi σ H R ->
  wpAny (model X.prog X.w) X.A (eval iter X.env) (λv s1=>wpAny (model X.prog X.w) X.A (pyIter v) (Ye X pins σ tg R) X.xe s1) X.xe s
theorem FW{M:Model}{A:Around}{E:Value->Shared->Prop}{s:Shared}{tg:Expr}{it:Addr}{u:Value}{o:Obj}{n:String}{vs:Array Value}{Q:Unit->Shared->Prop}(ho:s.heap.get? it=some o)(hc:o.cls=.type n)(hd:o.data=.fields vs)
  (hn:["enumerate","zip","dict_itemiterator","dict_reverseitemiterator","odict_iterator","itertools.zip_longest","itertools.pairwise"].contains n=false) (hQ:Q () s):wpAny M A (letOwnedTupleGo tg (.ref it) u) Q E s:=by
 unfold letOwnedTupleGo;cases tg<;>first
  | exact aat hQ
  | (cases u<;>first
    | exact aat hQ
    | (refine aaf (wpAny_load ho ?_)
       rw[hc,hd];show wpAny M A (if (["enumerate","zip","dict_itemiterator","dict_reverseitemiterator","odict_iterator","itertools.zip_longest","itertools.pairwise"].contains n&&vs[0]? == some (rawInt _))=true then _ else _) Q E s;rw[aaF (by intro h;rw[hn,Bool.false_and]at h;cases h)];exact aat hQ))
def Nl(K:aH)(a:Addr):It :=
 ⟨λi H=>∃xs x,dC K H a xs/\xs[i]?=some x,λi H x H'=>H'=H/\∀xs,dC K H a xs->xs[i]?=some x,λi H=>∃xs,dC K H a xs/\xs.length<=i⟩
def VD(K:aH)(a:Addr):It :=
 ⟨λi H=>∃xs x,dG K H a xs/\xs[i]?=some x,λi H x H'=>H'=H/\∀xs,dG K H a xs->xs[i]?=some x,λi H=>∃xs,dG K H a xs/\xs.length<=i⟩
def Nn(lo:Int)(n:Nat):It:=⟨λi _=>i < n,λi H x H'=>H'=H/\x=.int (lo + i),λi _=>n<=i⟩
theorem wN{P:Program}{w:World}{K:aH}{tg:Expr}(a it:Addr):Turn P w K tg (Nl K a) [it] it (λi h=>h.IsListIter it a i) where
 mem:=by simp
 obj:=λi h st b hb=>by
  have e:b=it:=by simpa using hb
  subst e;obtain⟨o,e,c,d⟩:=st;exact⟨o,e,λv z=>by rw[d]at z;cases z⟩
 keep:=λi h h' st k=>st.at λo e=>k it (by simp) o e
 item:=by
  intro X hP hw hK hc i pins s σ H E I hf st hg;subst hP hw hK;obtain⟨xs,x,hq,hx⟩:=hg;obtain⟨its,rv,p,hz⟩:=I.list hq;obtain⟨u,hu,ru⟩:=rv.get hx;obtain⟨f0,f1,f2,f3,f4,f5⟩:=hf it (by simp);refine wpAny_pyNext_list_item st p.isList (x:=u) (by simpa using hu) λh' st' sb=>?_
  have I1:Inv X pins σ H {s with heap:=h'}:=I.turned (t':=s.toks) (λb o hb e=>(sb.2 b hb).trans e) f0 f1 f3 f4 f5;obtain⟨o,e,c,d⟩:=id st';exact⟨u,rfl,FW (s:={s with heap:=h'}) e c d (by decide) ⟨x,H,I1,ru,⟨rfl,λys hy=>by rw[I.FN hy hq];exact hx⟩,st',λb hb=>(hf b hb).1⟩⟩
 done:=by
  intro X hP hw hK hc i pins s σ H E I hf st hg;subst hP hw hK;obtain⟨xs,hq,hx⟩:=hg;obtain⟨its,rv,p,hz⟩:=I.list hq;obtain⟨f0,f1,f2,f3,f4,f5⟩:=hf it (by simp);have hl:=rv.length;exact wpAny_pyNext_list_end (I.ok.hd hc) st p.isList (by simp;omega) λh' eb=>⟨rfl,I.turned (t':=s.toks) (λb o hb e=>eb b o hb e) f0 f1 f3 f4 f5⟩
 self:=λ_ _ _ _ _ st h=>wpAny_pyIter_listiter st h
theorem Bs{P:Program}{w:World}{K:aH}{tg:Expr}(a it:Addr):Turn P w K tg (VD K a) [it] it (λi h=>h.IsTupleIter it a i) where
 mem:=by simp
 obj:=λi h st b hb=>by
  have e:b=it:=by simpa using hb
  subst e;obtain⟨o,e,c,d⟩:=st;exact⟨o,e,λv z=>by rw[d]at z;cases z⟩
 keep:=λi h h' st k=>st.at λo e=>k it (by simp) o e
 item:=by
  intro X hP hw hK hc i pins s σ H E I hf st hg;subst hP hw hK;obtain⟨xs,x,hq,hx⟩:=hg;obtain⟨its,rv,p,hz⟩:=I.tuple hq;obtain⟨u,hu,ru⟩:=rv.get hx;obtain⟨f0,f1,f2,f3,f4,f5⟩:=hf it (by simp);refine wpAny_pyNext_tuple_item st (show s.heap.IsTuple a its.toArray from p) (x:=u) (by simpa using hu) λh' st' sb=>?_
  have I1:Inv X pins σ H {s with heap:=h'}:=I.turned (t':=s.toks) (λb o hb e=>(sb.2 b hb).trans e) f0 f1 f3 f4 f5;obtain⟨o,e,c,d⟩:=id st';exact⟨u,rfl,FW (s:={s with heap:=h'}) e c d (by decide) ⟨x,H,I1,ru,⟨rfl,λys hy=>by rw[I.DZ hy hq];exact hx⟩,st',λb hb=>(hf b hb).1⟩⟩
 done:=by
  intro X hP hw hK hc i pins s σ H E I hf st hg;subst hP hw hK;obtain⟨xs,hq,hx⟩:=hg;obtain⟨its,rv,p,hz⟩:=I.tuple hq;obtain⟨f0,f1,f2,f3,f4,f5⟩:=hf it (by simp);have hl:=rv.length;exact wpAny_pyNext_tuple_end (I.ok.hd hc) st (show s.heap.IsTuple a its.toArray from p) (by simp;omega) λh' eb=>⟨rfl,I.turned (t':=s.toks) (λb o hb e=>eb b o hb e) f0 f1 f3 f4 f5⟩
 self:=λ_ _ _ _ _ st h=>wpAny_pyIter_tupleiter st h
theorem Bt{P:Program}{w:World}{K:aH}{tg:Expr}(it:Addr)(lo:Int)(n:Nat):Turn P w K tg (Nn lo n) [it] it (λi h=>IsRangeIter h it (lo + (i:Nat) * 1) ((n:Int) - (i:Nat)) 1) where
 mem:=by simp
 obj:=λi h st b hb=>by
  have e:b=it:=by simpa using hb
  subst e
  exact⟨_,st,λv z=>by
   have z':Data.fields _=Data.cell v:=z;cases z'⟩
 keep:=λi h h' st k=>k it (by simp) _ st
 item:=by
  intro X hP hw hK hc i pins s σ H E I hf st hg;subst hP hw hK;obtain⟨f0,f1,f2,f3,f4,f5⟩:=hf it (by simp);have W:=Walks.range (prog:=X.prog) (w:=X.w) (I.ok.hd hc) it lo 1 n;refine W.item i s _ _ hg st λv h' tk hv st' kk=>?_
  obtain⟨t,rfl⟩:=hv;have I1:Inv X pins σ H {s with heap:=h',toks:=tk}:=I.turned (λb o hb e=>kk b o (by simpa using hb) e) f0 f1 f3 f4 f5;refine⟨_,rfl,FW (s:={s with heap:=h',toks:=tk}) (n:="range_iterator") st' rfl rfl (by decide) ⟨.int (lo + i),H,I1,⟨t,?_⟩,⟨rfl,rfl⟩,st',λb hb=>(hf b hb).1⟩⟩;rw[Int.mul_one]
 done:=by
  intro X hP hw hK hc i pins s σ H E I hf st hg;subst hP hw hK;obtain⟨f0,f1,f2,f3,f4,f5⟩:=hf it (by simp);exact wpAny_pyNext_range_end (I.ok.hd hc) st (by have:n<=i:=hg;omega) λh' eb=>⟨rfl,I.turned (t':=s.toks) (λb o hb e=>eb b o hb e) f0 f1 f3 f4 f5⟩
 self:=λ_ _ _ _ _ st h=>wpAny_pyIter_rangeiter st h
section
variable {X:Cx} {tg:Expr}
def Sv(K:aH)(tl:TE):TI:=λσ H R=>tl σ H λx H1=>∃a,x=.ref a/\(∃xs,dC K H1 a xs)/\R (Nl K a) H1
theorem xU{l:Expr}{tl:TE}(hl:PE X l tl):PI X tg l (Sv X.K tl):=by
 intro pins s σ H R I h;refine bU (hl pins s σ H _ I h) λv s1 ⟨x,H1,I1,r1,q1⟩=>?_
 obtain⟨a,e,⟨xs,hq⟩,q⟩:=q1;subst e;cases r1;obtain⟨its,rv,p,hz⟩:=I1.list hq;refine wpAny_pyIter_list p.isList ?_;refine⟨s1.heap.objs.size,[s1.heap.objs.size],_,_,H1,rfl,I1.kept (t':=s1.toks) λb o e=>Heap.get?_push_of_some _ e,wN a _,⟨_,Heap.get?_push_size _ rfl,rfl,rfl⟩,λb hb=>?_,q⟩;have e:b=s1.heap.objs.size:=by simpa using hb
 subst e;exact I1.FV (aaj _) (I1.hok.fresh (aaj _))
theorem zy{pins:List (Addr×Obj)}{σ:St}{H:Hp}{s:Shared}{R:It->Hp->Prop}{E:Value->Shared->Prop}{lo hi:Int}{t u v:Tok}{tk:Nat}(I:Inv X pins σ H s)(h1:-(2 ^ 62)<=lo)(h2:lo < 2 ^ 62)(h3:-(2 ^ 62)<=hi)(h4:hi < 2 ^ 62)
  (q:R (Nn lo (hi - lo).toNat) H):wpAny (model X.prog X.w) X.A (pyIter (.ref s.heap.objs.size)) (Ye X pins σ tg R) E {s with heap:=s.heap.push {cls:=.type "range",data:=.fields #[.int lo t,.int hi u,.int 1 v]},toks:=tk}:=by
 refine wpAny_pyIter_range (IsRange.new ..) (small_one h1 h2 h3 h4) ?_;have I1:Inv X pins σ H {s with heap:=s.heap.push {cls:=.type "range",data:=.fields #[.int lo t,.int hi u,.int 1 v]},toks:=tk}:=I.kept λb o e=>aab _ e
 refine⟨(s.heap.push {cls:=.type "range",data:=.fields #[.int lo t,.int hi u,.int 1 v]}).objs.size,[(s.heap.push {cls:=.type "range",data:=.fields #[.int lo t,.int hi u,.int 1 v]}).objs.size],_,_,H,rfl,
  I1.kept (t':=tk) λb o e=>aab _ e,Bt _ lo (hi - lo).toNat,?_,λb hb=>?_,q⟩
 ·have e1:lo + ((0:Nat):Int) * 1=lo:=by simp
  have e2:(((hi - lo).toNat:Nat):Int) - ((0:Nat):Int)=Builtin.Range.rangeSize lo hi 1:=by rw[rangeSize_one];split<;>omega
  show IsRangeIter _ _ (lo + ((0:Nat):Int) * 1) ((((hi - lo).toNat:Nat):Int) - ((0:Nat):Int)) 1;rw[e1,e2];exact aaz _ rfl
 ·have e:b=(s.heap.push {cls:=.type "range",data:=.fields #[.int lo t,.int hi u,.int 1 v]}).objs.size:=by simpa using hb
  subst e;exact I1.FV (aaj _) (I1.hok.fresh (aaj _))
def Sw(ta:TA):TI:=λσ H R=>ta σ H λvs H1=>∃j:Int,vs=[.int j]/\-(2 ^ 62)<=j/\j < 2 ^ 62/\R (Nn 0 j.toNat) H1
def Sx(ta:TA):TI:=λσ H R=>ta σ H λvs H1=>∃i j:Int,vs=[.int i,.int j]/\(-(2 ^ 62)<=i/\i < 2 ^ 62/\-(2 ^ 62)<=j/\j < 2 ^ 62)/\R (Nn i (j - i).toNat) H1
theorem wO{a:Expr}{ta:TA}{p pos:Pos}(hg:Gl X "range")(hm:X.mg "range"=none)(ha:PA X [a] ta)(hs:starEach [a] X.env=[(false,eval a X.env)]:=by rfl):PI X tg (.Call (.Name "range" p) [a] [] pos) (Sw ta):=by
 intro pins s σ H R I h;refine Call_ (kL I hg hm boot_range (aaZ (bU (ha pos pins s σ H _ I h) λus s1 ⟨vs,H1,I1,r1,q1⟩=>?_) hs rfl));obtain⟨j,e,q1,q2,q⟩:=q1;subst e
 cases r1 with
 | cons r rr =>
  cases rr;obtain⟨t,rfl⟩:=r;exact call_range_1 (zy I1 (by omega) (by omega) q1 q2 (by simpa using q))
theorem D3{a b:Expr}{ta:TA}{p pos:Pos}(hg:Gl X "range")(hm:X.mg "range"=none)(ha:PA X [a,b] ta)(hs:starEach [a,b] X.env=[(false,eval a X.env),(false,eval b X.env)]:=by rfl)(FX:starEach [b] X.env=[(false,eval b X.env)]:=by rfl):
  PI X tg (.Call (.Name "range" p) [a,b] [] pos) (Sx ta):=by
 intro pins s σ H R I h;refine Call_ (kL I hg hm boot_range (aaZ (bU (ha pos pins s σ H _ I h) λus s1 ⟨vs,H1,I1,r1,q1⟩=>?_) (by rw[hs,FX]) (by rw[FX];rfl)));obtain⟨i,j,e,⟨q1,q2,q3,q4⟩,q⟩:=q1;subst e
 cases r1 with
 | cons r rr =>
  cases rr with
  | cons r' rr =>
   cases rr;obtain⟨t,rfl⟩:=r;obtain⟨t',rfl⟩:=r';exact call_range_2 (zy I1 q1 q2 q3 q4 q)
def VE(wi:TI)(g:TG)(tb:TS):TS:=λD σ H=>wi σ H λJ H1=>∃W:Nat->Nat->St->Hp->Prop,(∃m,W 0 m σ H1)/\∀i m σ H,W i m σ H ->
 (J.stop i H/\D.nx σ H)∨(J.go i H/\∃N:St->Hp->Prop,(∀σ' H',N σ' H'->∃m',m' < m/\W (i + 1) m' σ' H')/\∀x H',J.yld i H x H'->g x σ H' λσ2 H2=>tb {D with nx:=N,ct:=N,bk:=D.nx} σ2 H2)
def uH(fp:List Addr)(h:Heap):List (Addr×Obj):=fp.filterMap λb=>(h.get? b).map λo=>(b,o)
theorem jt{fp:List Addr}{h:Heap}{b:Addr}{o:Obj}(hb:b∈fp)(e:h.get? b=some o):(b,o)∈uH fp h:=acp.mpr ⟨b,hb,by rw[e];rfl⟩
theorem D4{fp:List Addr}{h:Heap}{p:Addr×Obj}(hp:p∈uH fp h):p.1∈fp/\h.get? p.1=some p.2:=by
 obtain⟨b,hb,e⟩:=acp.mp hp
 cases q:h.get? b with
 | none=>rw[q]at e;cases e
 | some o =>
  rw[q]at e;have e':(b,o)=p:=aaJ e;subst e';exact⟨hb,q⟩
theorem Inv.pinned{pins:List (Addr×Obj)}{σ:St}{H:Hp}{s:Shared}{fp:List Addr}(I:Inv X pins σ H s)(hf:∀b∈fp,qu X pins H b)(ho:∀b∈fp,∃o,s.heap.get? b=some o/\∀v,o.data≠.cell v):Inv X (pins++uH fp s.heap) σ H s :=
 I.CM λp hp=>(aaN.mp hp).elim (λz=>I.pin p (aaO _ z)) λz=>by
  obtain⟨hb,e⟩:=D4 z;obtain⟨f0,f1,f2,_⟩:=hf p.1 hb;obtain⟨o,e',d⟩:=ho p.1 hb;rw[e]at e';cases e';exact⟨e,f0,f1,f2,d⟩
theorem Inv.qv{pins pl:List (Addr×Obj)}{σ:St}{H:Hp}{s:Shared}(I:Inv X (pins++pl) σ H s):Inv X pins σ H s:=I.CM λp hp=>I.pin p (aaO _ (List.mem_append_left _ hp))
theorem Bu{iter:Expr}{body:List Stmt}{wi:TI}{g:TG}{tb:TS}{pos:Pos}(hp:PassesOwn (model X.prog X.w) X.A X.env X.xe)(hc:X.calm=true)(hi:PI X tg iter wi)(hg:PG X tg g)(hb:qo X body tb)
  (hs:∀x,foldedSetIterable iter X.env x=pure x:=by intro _;rfl):PS X (.For tg iter body [] pos) (VE wi g tb):=by
 intro pins s σ H D I h;refine wpAny_For (bU (hi pins s σ H _ I h) λv s1 h1=>bU h1 λitv s2 h2=>?_) hs;obtain⟨it,fp,tn,J,H2,e,I2,T,bp,f2,W,⟨m0,w0⟩,turn⟩:=h2;subst e;have stat:∀{H':Hp},(∀b∈fp,H' b=none)->∀b∈fp,qu X pins H' b:=λhn b hb=>⟨hn b hb,(f2 b hb).2⟩
 refine codeAny_forLoop_any (λn s'=>∃i σ' H',Inv X pins σ' H' s'/\tn i s'.heap/\(∀b∈fp,H' b=none)/\W i n σ' H') ?_ m0 ⟨0,σ,H2,I2,bp,λb hb=>(f2 b hb).1,w0⟩;rintro n s3 ⟨i,σ3,H3,I3,iS,Yg,w3⟩;rcases turn i n σ3 H3 w3 with⟨stop,qn⟩ | ⟨go,N,hN,step⟩
 ·refine abl hp (bU (T.done X rfl rfl rfl hc i pins s3 σ3 H3 X.xe I3 (stat Yg) iS stop) λr s4 ⟨hr,I4⟩=>?_);subst hr;exact abu ⟨σ3,H3,I4,qn⟩
 ·refine abl hp (bU (T.item X rfl rfl rfl hc i pins s3 σ3 H3 X.xe I3 (stat Yg) iS go) λr s4 ⟨u,hr,h4⟩=>?_);subst hr;refine abl hp (bU h4 λ_ s5 ⟨x,H5,I5,r5,y5,Bv,U8⟩=>?_);have I5':=I5.pinned (stat U8) (T.obj _ _ Bv);refine abl hp (bU (hg _ s5 σ3 H5 x u _ I5' r5 (step x H5 y5)) λ_ s6 ⟨σ6,H6,I6,q6⟩=>?_);refine abl hp (bU (hb _ s6 σ6 H6 _ I6 q6) λf s7 q7=>?_)
  have again:∀{σ7:St} {H7:Hp},Inv X (pins++uH fp s5.heap) σ7 H7 s7->N σ7 H7->∃m,m < n/\∃i σ' H',Inv X pins σ' H' s7/\tn i s7.heap/\(∀b∈fp,H' b=none)/\W i m σ' H':=λ{σ7 H7} I7 n7=>by
   obtain⟨m',hm,w7⟩:=hN σ7 H7 n7;refine⟨m',hm,i + 1,σ7,H7,I7.qv,T.keep _ _ _ Bv λb hb o e=>(I7.pin (b,o) (aaO _ (aaO _ (jt hb e)))).1,λb hb=>?_,w7⟩;obtain⟨o,e,d⟩:=T.obj _ _ Bv b hb;exact(I7.pin (b,o) (aaO _ (aaO _ (jt hb e)))).2.1
  cases f with
  | next=>obtain⟨σ7,H7,I7,n7⟩:=q7;exact again I7 n7
  | cont=>obtain⟨σ7,H7,I7,n7⟩:=q7;exact again I7 n7
  | brk=>obtain⟨σ7,H7,I7,q7⟩:=q7;exact⟨σ7,H7,I7.qv,q7⟩
  | ret v=>obtain⟨x7,σ7,H7,I7,r7,q7⟩:=q7;exact⟨x7,σ7,H7,I7.qv,r7,q7⟩
end
theorem FY{K:aH}{a:Addr}{xs:List V}{g:TG}{tb:TS}{D:Ends}{σ:St}{H:Hp}(Pv:Nat->St->Hp->Prop)(h0:Pv 0 σ H)(hl:∀i σ H,i<=xs.length->Pv i σ H->dC K H a xs)
  (hs:∀i x σ H,xs[i]?=some x->Pv i σ H->g x σ H λσ2 H2=>tb {D with nx:=Pv (i + 1),ct:=Pv (i + 1),bk:=D.nx} σ2 H2) (hd:∀σ H,Pv xs.length σ H->D.nx σ H) :
  ∃W:Nat->Nat->St->Hp->Prop,(∃m,W 0 m σ H)/\∀i m σ H,W i m σ H ->
   ((Nl K a).stop i H/\D.nx σ H)∨((Nl K a).go i H/\∃N:St->Hp->Prop,(∀σ' H',N σ' H'->∃m',m' < m/\W (i + 1) m' σ' H')/\∀x H',(Nl K a).yld i H x H'->g x σ H' λσ2 H2=>tb {D with nx:=N,ct:=N,bk:=D.nx} σ2 H2):=by
 refine⟨λi m σ H=>m=xs.length - i/\i<=xs.length/\Pv i σ H,⟨xs.length,by simp,Nat.zero_le _,h0⟩,?_⟩;rintro i m σ H ⟨rfl,hi,p⟩;have q:=hl i σ H hi p;by_cases hlt:i < xs.length
 ·refine .inr ⟨⟨xs,xs[i],q,by simp[hlt]⟩,Pv (i + 1),λσ' H' p'=>⟨xs.length - (i + 1),by omega,rfl,hlt,p'⟩,λx H' y=>?_⟩;obtain⟨e,y⟩:=y;subst e;exact hs i x σ _ (y xs q) p
 ·have e:i=xs.length:=by omega
  subst e;exact .inl ⟨⟨xs,q,aaj _⟩,hd σ H p⟩
theorem D5{lo:Int}{n:Nat}{g:TG}{tb:TS}{D:Ends}{σ:St}{H:Hp}(Pv:Nat->St->Hp->Prop)(h0:Pv 0 σ H)
  (hs:∀i σ H,i < n->Pv i σ H->g (.int (lo + i)) σ H λσ2 H2=>tb {D with nx:=Pv (i + 1),ct:=Pv (i + 1),bk:=D.nx} σ2 H2) (hd:∀σ H,Pv n σ H->D.nx σ H) :
  ∃W:Nat->Nat->St->Hp->Prop,(∃m,W 0 m σ H)/\∀i m σ H,W i m σ H ->
   ((Nn lo n).stop i H/\D.nx σ H)∨((Nn lo n).go i H/\∃N:St->Hp->Prop,(∀σ' H',N σ' H'->∃m',m' < m/\W (i + 1) m' σ' H')/\∀x H',(Nn lo n).yld i H x H'->g x σ H' λσ2 H2=>tb {D with nx:=N,ct:=N,bk:=D.nx} σ2 H2):=by
 refine⟨λi m σ H=>m=n - i/\i<=n/\Pv i σ H,⟨n,by simp,Nat.zero_le _,h0⟩,?_⟩;rintro i m σ H ⟨rfl,hi,p⟩;by_cases hlt:i < n
 ·refine .inr ⟨hlt,Pv (i + 1),λσ' H' p'=>⟨n - (i + 1),by omega,rfl,hlt,p'⟩,λx H' y=>?_⟩;obtain⟨e,y⟩:=y;subst e y;exact hs i σ _ hlt p
 ·have e:i=n:=by omega
  subst e;exact .inl ⟨aaj _,hd σ H p⟩
abbrev R2:=V->V->Hp->VK->Prop
def gQ(X:Cx)(f:Value->Value->Sem Value)(r:R2):Prop :=
 ∀(pins:List (Addr×Obj)) (s:Shared) (σ:St) (H:Hp) (x y:V) (v u:Value) (Q:VK),Inv X pins σ H s->RelV x v->RelV y u->r x y H Q ->
  wpAny (model X.prog X.w) X.A (f v u) (EP X pins σ Q) X.xe s
def VF(X:Cx)(f:Value->Sem Value)(r:V->Hp->VK->Prop):Prop :=
 ∀(pins:List (Addr×Obj)) (s:Shared) (σ:St) (H:Hp) (x:V) (v:Value) (Q:VK),Inv X pins σ H s->RelV x v->r x H Q ->
  wpAny (model X.prog X.w) X.A (f v) (EP X pins σ Q) X.xe s
def eh(X:Cx)(f:Value)(r:List V->Hp->VK->Prop):Prop :=
 ∀(pins:List (Addr×Obj)) (s:Shared) (σ:St) (H:Hp) (xs:List V) (us:List Value) (Q:VK),Inv X pins σ H s->Vals xs us->r xs H Q ->
  wpAny (model X.prog X.w) X.A (call f us) (EP X pins σ Q) X.xe s
def Sy(r:R2)(ta tb:TE):TE:=λσ H Q=>ta σ H λx H1=>tb σ H1 λy H2=>r x y H2 Q
def YW(r:V->Hp->VK->Prop)(ta:TE):TE:=λσ H Q=>ta σ H λx H1=>r x H1 Q
inductive RI(C:Int->Int->Prop)(g:Int->Int->V)(x y:V)(H:Hp)(Q:VK):Prop where
 | mk (i j:Int) (e:x=.int i) (f:y=.int j) (c:C i j) (q:Q (g i j) H):RI C g x y H Q
def rI(C:Int->Int->Prop)(g:Int->Int->V):R2:=λx y H Q=>RI C g x y H Q
inductive Yh(g:Int->Int->V)(x y:V)(H:Hp)(Q:VK):Prop where
 | mk (i j:Int) (e:x=.int i) (f:y=.int j) (q:Q (g i j) H):Yh g x y H Q
def JJ(g:Int->Int->V):R2:=λx y H Q=>Yh g x y H Q
def rU(g:Int->V):V->Hp->VK->Prop:=λx H Q=>∃i,x=.int i/\Q (g i) H
section
variable {X:Cx} {a b c:Expr} {ta tb tc:TE} {pos:Pos}
theorem ON(ha:PE X a ta)(hb:PE X b tb){pins:List (Addr×Obj)}{s:Shared}{σ:St}{H:Hp}{R:V->V->Hp->Prop}(I:Inv X pins σ H s)
  (h:ta σ H λx H1=>tb σ H1 λy H2=>R x y H2) {Q:Value->Shared->Prop} {f:Value->Value->Sem Value}
  (hf:∀v u s2 x y H2,Inv X pins σ H2 s2->RelV x v->RelV y u->R x y H2->wpAny (model X.prog X.w) X.A (f v u) Q X.xe s2) :
  wpAny (model X.prog X.w) X.A (eval a X.env) (λv s₁=>wpAny (model X.prog X.w) X.A (eval b X.env) (λu s₂=>wpAny (model X.prog X.w) X.A (f v u) Q X.xe s₂) X.xe s₁) X.xe s:=by
 refine bU (ha pins s σ H _ I h) λv s1 ⟨x,H1,I1,r1,q1⟩=>?_
 refine bU (hb pins s1 σ H1 _ I1 q1) λu s2 ⟨y,H2,I2,r2,q2⟩=>?_
 exact hf v u s2 x y H2 I2 r1 r2 q2
theorem wQ{op:Operator}{r:R2}(ho:gQ X (binaryOp op) r)(ha:PE X a ta)(hb:PE X b tb):PE X (.BinOp a op b pos) (Sy r ta tb):=by
 intro pins s σ H Q I h;exact wpAny_BinOp (ON ha hb I h λv u s2 x y H2 I2 rx ry q=>ho pins s2 σ H2 x y v u Q I2 rx ry q)
theorem Sz{op:UnaryOp}{r:V->Hp->VK->Prop}(ho:VF X (unaryOp op) r)(ha:PE X a ta):PE X (.UnaryOp op a pos) (YW r ta):=by
 intro pins s σ H Q I h;exact UnaryOp_ (bU (ha pins s σ H _ I h) λv s1 ⟨x,H1,I1,r1,q1⟩=>ho pins s1 σ H1 x v Q I1 r1 q1)
theorem SA{f:Value->Value->Sem Value}{C:Int->Int->Prop}{g:Int->Int->Int}
  (rule:∀(i j:Int) (t u:Tok) (s:Shared) (Q:Value->Shared->Prop) (E:Value->Shared->Prop),C i j->Q (.int (g i j) s.toks) {s with toks:=s.toks + 1}->wpAny (model X.prog X.w) X.A (f (.int i t) (.int j u)) Q E s) :
  gQ X f (rI C λi j=>.int (g i j)):=by
 intro pins s σ H x y v u Q I rx ry h;obtain⟨i,j,rfl,rfl,hc,q⟩:=h;obtain⟨t,rfl⟩:=rx;obtain⟨t',rfl⟩:=ry;exact rule i j t t' s _ _ hc ⟨.int (g i j),H,I.tok _,⟨_,rfl⟩,q⟩
theorem OO{f:Value->Value->Sem Value}{g:Int->Int->Int}
  (rule:∀(i j:Int) (t u:Tok) (s:Shared) (Q:Value->Shared->Prop) (E:Value->Shared->Prop),Q (.int (g i j) s.toks) {s with toks:=s.toks + 1}->wpAny (model X.prog X.w) X.A (f (.int i t) (.int j u)) Q E s) :
  gQ X f (JJ λi j=>.int (g i j)):=by
 intro pins s σ H x y v u Q I rx ry h;obtain⟨i,j,rfl,rfl,q⟩:=h;obtain⟨t,rfl⟩:=rx;obtain⟨t',rfl⟩:=ry;exact rule i j t t' s _ _ ⟨.int (g i j),H,I.tok _,⟨_,rfl⟩,q⟩
theorem OP{f:Value->Value->Sem Value}{g:Int->Int->Bool}
  (rule:∀(i j:Int) (t u:Tok) (s:Shared) (Q:Value->Shared->Prop) (E:Value->Shared->Prop),Q (.bool (g i j)) s->wpAny (model X.prog X.w) X.A (f (.int i t) (.int j u)) Q E s) :
  gQ X f (JJ λi j=>.bl (g i j)):=by
 intro pins s σ H x y v u Q I rx ry h;obtain⟨i,j,rfl,rfl,q⟩:=h;obtain⟨t,rfl⟩:=rx;obtain⟨t',rfl⟩:=ry;exact rule i j t t' s _ _ ⟨.bl (g i j),H,I,rfl,q⟩
def Kj(i j:Int):Prop:=0<=j/\j<=1000000/\i.natAbs < 2 ^ 64
def OQ(i j:Int):Prop:=(-(2 ^ 64) < i/\i < 2 ^ 64)∨(-(2 ^ 64) < j/\j < 2 ^ 64)
theorem OQ.ok{i j:Int}(h:OQ i j):IntMulOk i j:=by
 rcases h with⟨h1,h2⟩ | ⟨h1,h2⟩
 ·exact .of_left (intBits_le_64 h1 h2)
 ·exact .of_right (intBits_le_64 h1 h2)
theorem OR:gQ X (binaryOp .Add) (JJ λi j=>.int (i + j)):=OO λ_ _ _ _ _ _ _ q=>add_int q
theorem FZ:gQ X (binaryOp .Sub) (JJ λi j=>.int (i - j)):=OO λ_ _ _ _ _ _ _ q=>sub_int q
theorem uI:gQ X (binaryOp .Mod) (rI (λ_ j=>0 < j) λi j=>.int (i % j)):=SA λi j _ _ _ _ _ hc q=>by
 have h1:(0:Int) < j:=hc;exact mod_int' (by omega) (by rw[Int.fmod_eq_emod_of_nonneg i (by omega)];exact q)
theorem OS:gQ X (binaryOp .Pow) (rI Kj λi j=>.int (i ^ j.toNat)):=SA λ_ _ _ _ _ _ _ hc q=>pow_int_small hc.1 hc.2.1 hc.2.2 q
theorem OT:gQ X (binaryOp .LShift) (rI Kj λi j=>.int (i * 2 ^ j.toNat)):=SA λ_ _ _ _ _ _ _ hc q=>lshift_int_small hc.1 hc.2.1 hc.2.2 q
theorem OU:gQ X (binaryOp .BitAnd) (JJ λi j=>.int (Builtin.bitAnd i j)):=OO λ_ _ _ _ _ _ _ q=>and_int q
theorem YX{f:Value->Sem Value}{g:Int->Int}
  (rule:∀(i:Int) (t:Tok) (s:Shared) (Q:Value->Shared->Prop) (E:Value->Shared->Prop),Q (.int (g i) s.toks) {s with toks:=s.toks + 1}->wpAny (model X.prog X.w) X.A (f (.int i t)) Q E s) :
  VF X f (rU λi=>.int (g i)):=by
 intro pins s σ H x v Q I rx h;obtain⟨i,rfl,q⟩:=h;obtain⟨t,rfl⟩:=rx;exact rule i t s _ _ ⟨.int (g i),H,I.tok _,⟨_,rfl⟩,q⟩
theorem OV:VF X (unaryOp .USub) (rU λi=>.int (-i)):=YX λ_ _ _ _ _ q=>neg_int q
end
def SD:V->V->Bool
 | .non,.non=>true | .non,.int _=>true | .int _,.non=>true | .non,.bl _=>true | .bl _,.non=>true | .non,.str _=>true | .str _,.non=>true
 | .int _,.int _=>true | .bl _,.bl _=>true | .str _,.str _=>true | .byt _,.byt _=>true
 | .int _,.str _=>true | .str _,.int _=>true | .bl _,.str _=>true | .str _,.bl _=>true
 | _,_=>false
def Yi:R2:=λx y H Q=>SD x y=true/\Q (.bl (decide (x=y))) H
def Yj:R2:=λx y H Q=>SD x y=true/\Q (.bl (!decide (x=y))) H
theorem CO{i j:Int}:decide (V.int i=V.int j)=(i == j):=by
 rw[Bool.eq_iff_iff];simp
theorem Ga{i j:Bool}:decide (V.bl i=V.bl j)=(i == j):=by
 rw[Bool.eq_iff_iff];simp
theorem CP{i j:Str}:decide (V.str i=V.str j)=(i == j):=by
 rw[Bool.eq_iff_iff];simp
theorem CQ{i j:Array UInt8}:decide (V.byt i=V.byt j)=(i.toList == j.toList):=by
 rw[Bool.eq_iff_iff];cases i;cases j;simp
section
variable {X:Cx} {a b c:Expr} {ta tb tc:TE} {pos:Pos}
theorem bh{pins:List (Addr×Obj)}{σ:St}{H:Hp}{s:Shared}{Q:VK}{k k':Bool}(I:Inv X pins σ H s)(q:Q (.bl k) H)(e:k=k'):EP X pins σ Q (.bool k') s:=by
 subst e;exact⟨.bl k,H,I,rfl,q⟩
theorem Gb:gQ X (compareOp .Eq) Yi:=by
 intro pins s σ H x y v u Q I rx ry h;obtain⟨hs,q⟩:=h
 cases x with
 | non =>
  cases rx
  cases y with
  | non=>cases ry;exact PySem.EqNone.eq_none_none (bh I q (by simp))
  | bl j=>cases ry;exact PySem.EqNone.eq_none_bool (bh I q (by simp))
  | int j=>obtain⟨t',rfl⟩:=ry;exact PySem.EqNone.eq_none_int (bh I q (by simp))
  | str j=>obtain⟨t',rfl⟩:=ry;exact PySem.EqNone.eq_none_str (bh I q (by simp))
  | _=>exact absurd (show false=true from hs) aai
 | bl i =>
  cases rx
  cases y with
  | non=>cases ry;exact PySem.EqNone.eq_bool_none (bh I q (by simp))
  | bl j=>cases ry;exact eq_bool (bh I q Ga)
  | str j=>obtain⟨t',rfl⟩:=ry;exact PySem.EqMixed.eq_bool_str (bh I q (by simp))
  | _=>exact absurd (show false=true from hs) aai
 | int i =>
  obtain⟨t,rfl⟩:=rx
  cases y with
  | non=>cases ry;exact PySem.EqNone.eq_int_none (bh I q (by simp))
  | int j=>obtain⟨t',rfl⟩:=ry;exact eq_int (bh I q CO)
  | str j=>obtain⟨t',rfl⟩:=ry;exact PySem.EqMixed.eq_int_str (bh I q (by simp))
  | _=>exact absurd (show false=true from hs) aai
 | str i =>
  obtain⟨t,rfl⟩:=rx
  cases y with
  | non=>cases ry;exact PySem.EqNone.eq_str_none (bh I q (by simp))
  | bl j=>cases ry;exact PySem.EqMixed.eq_str_bool (bh I q (by simp))
  | int j=>obtain⟨t',rfl⟩:=ry;exact PySem.EqMixed.eq_str_int (bh I q (by simp))
  | str j=>obtain⟨t',rfl⟩:=ry;exact eq_str (bh I q CP)
  | _=>exact absurd (show false=true from hs) aai
 | byt i =>
  obtain⟨t,rfl⟩:=rx
  cases y with
  | byt j=>obtain⟨t',rfl⟩:=ry;exact PySem.W.eq_bytes (bh I q CQ)
  | _=>exact absurd (show false=true from hs) aai
 | _=>cases y<;>exact absurd (show false=true from hs) aai
theorem SE:gQ X (compareOp .NotEq) Yj:=by
 intro pins s σ H x y v u Q I rx ry h;obtain⟨hs,q⟩:=h
 cases x with
 | non =>
  cases rx
  cases y with
  | non=>cases ry;exact PySem.EqNone.ne_none_none (bh I q (by simp))
  | bl j=>cases ry;exact PySem.EqNone.ne_none_bool (bh I q (by simp))
  | int j=>obtain⟨t',rfl⟩:=ry;exact PySem.EqNone.ne_none_int (bh I q (by simp))
  | str j=>obtain⟨t',rfl⟩:=ry;exact PySem.EqNone.ne_none_str (bh I q (by simp))
  | _=>exact absurd (show false=true from hs) aai
 | bl i =>
  cases rx
  cases y with
  | non=>cases ry;exact PySem.EqNone.ne_bool_none (bh I q (by simp))
  | bl j=>cases ry;exact ne_bool (bh I q (ab6 not Ga))
  | str j=>obtain⟨t',rfl⟩:=ry;exact PySem.EqMixed.ne_bool_str (bh I q (by simp))
  | _=>exact absurd (show false=true from hs) aai
 | int i =>
  obtain⟨t,rfl⟩:=rx
  cases y with
  | non=>cases ry;exact PySem.EqNone.ne_int_none (bh I q (by simp))
  | int j=>obtain⟨t',rfl⟩:=ry;exact ne_int (bh I q (ab6 not CO))
  | str j=>obtain⟨t',rfl⟩:=ry;exact PySem.EqMixed.ne_int_str (bh I q (by simp))
  | _=>exact absurd (show false=true from hs) aai
 | str i =>
  obtain⟨t,rfl⟩:=rx
  cases y with
  | non=>cases ry;exact PySem.EqNone.ne_str_none (bh I q (by simp))
  | bl j=>cases ry;exact PySem.EqMixed.ne_str_bool (bh I q (by simp))
  | int j=>obtain⟨t',rfl⟩:=ry;exact PySem.EqMixed.ne_str_int (bh I q (by simp))
  | str j=>obtain⟨t',rfl⟩:=ry;exact ne_str (bh I q (ab6 not CP))
  | _=>exact absurd (show false=true from hs) aai
 | byt i =>
  obtain⟨t,rfl⟩:=rx
  cases y with
  | byt j=>obtain⟨t',rfl⟩:=ry;exact PySem.W.ne_bytes (bh I q (ab6 not CQ))
  | _=>exact absurd (show false=true from hs) aai
 | _=>cases y<;>exact absurd (show false=true from hs) aai
theorem qw:gQ X (compareOp .Lt) (JJ λi j=>.bl (decide (i < j))):=OP λ_ _ _ _ _ _ _ q=>lt_int q
theorem oN:gQ X (compareOp .LtE) (JJ λi j=>.bl (decide (i<=j))):=OP λ_ _ _ _ _ _ _ q=>le_int q
theorem Ge:gQ X (compareOp .Gt) (JJ λi j=>.bl (decide (j < i))):=OP λ_ _ _ _ _ _ _ q=>gt_int q
theorem Gf:gQ X (compareOp .Is) (λx y H Q=>y=.non/\Q (.bl (decide (x=.non))) H):=by
 intro pins s σ H x y v u Q I rx ry h;obtain⟨rfl,q⟩:=h;cases ry;refine is_none_gen (bh I q ?_);cases x<;>first
  | (cases rx;rfl)
  | (obtain⟨t,rfl⟩:=rx;rfl)
theorem qx:gQ X (compareOp .IsNot) (λx y H Q=>y=.non/\Q (.bl (!decide (x=.non))) H):=by
 intro pins s σ H x y v u Q I rx ry h;obtain⟨rfl,q⟩:=h;cases ry;refine isnot_none_gen (bh I q ?_);cases x<;>first
  | (cases rx;rfl)
  | (obtain⟨t,rfl⟩:=rx;rfl)
theorem dX(b:Expr){op:CmpOp}(h:op≠.In:=by decide)(h2:op≠.NotIn:=by decide):behindInMarks op b=false:=by
 have e1:(op == CmpOp.In)=false:=by cases op<;>first | rfl | exact absurd rfl h
 have e2:(op == CmpOp.NotIn)=false:=by cases op<;>first | rfl | exact absurd rfl h2
 cases b<;>simp[behindInMarks,e1,e2]
theorem Kk{op:CmpOp}{r:R2}(ho:gQ X (compareOp op) r)(ha:PE X a ta)(hb:PE X b tb)(hm:behindInMarks op b=false):PE X (.Compare a [op] [b] pos) (Sy r ta tb):=by
 intro pins s σ H Q I h;exact wpAny_Compare1 (ON ha hb I h λv u s2 x y H2 I2 rx ry q=>ho pins s2 σ H2 x y v u Q I2 rx ry q) hm
def Gg(t:TE):TT:=λσ H Q=>t σ H λx H'=>Vx x H' Q
theorem tR{op:CmpOp}{r:R2}(ho:gQ X (compareOp op) r)(ha:PE X a ta)(hb:PE X b tb)(hm:behindInMarks op b=false):PT X (.Compare a [op] [b] pos) (Gg (Sy r ta tb)):=by
 intro pins s σ H Q I h
 refine wpAny_isTrue_Compare1 (bU (ha pins s σ H _ I h) λv s1 ⟨x,H1,I1,r1,q1⟩=>bU (hb pins s1 σ H1 _ I1 q1) λu s2 ⟨y,H2,I2,r2,q2⟩ =>
  bU (ho pins s2 σ H2 x y v u _ I2 r1 r2 q2) λc s3 ⟨z,H3,I3,r3,k,e,q3⟩=>?_) hm
 subst e;cases r3;exact aaX ⟨H3,I3,q3⟩
def Bw(r r':R2)(ta tb tc:TE):TE:=λσ H Q=>ta σ H λx H1=>tb σ H1 λy H2=>r x y H2 λz H3=>∃k,z=.bl k /\
 (if k=true then tc σ H3 λw' H4=>r' y w' H4 Q else Q (.bl false) H3)
theorem Gh{op op':CmpOp}{r r':R2}(ho:gQ X (compareOp op) r)(ho':gQ X (compareOp op') r')(ha:PE X a ta)(hb:PE X b tb)(hc:PE X c tc)
  (hm:lastMarks [op,op'] [b,c]=false:=by with_unfolding_all rfl):PE X (.Compare a [op,op'] [b,c] pos) (Bw r r' ta tb tc):=by
 intro pins s σ H Q I h
 refine Compare_chain (bU (ha pins s σ H _ I h) λv s1 ⟨x,H1,I1,r1,q1⟩=>chain_link (bU (hb pins s1 σ H1 _ I1 q1) λu s2 ⟨y,H2,I2,r2,q2⟩ =>
  bU (ho pins s2 σ H2 x y v u _ I2 r1 r2 q2) λd s3 ⟨z,H3,I3,r3,k,e,q3⟩=>?_)) hm
 subst e;cases r3;refine aaX ?_
 cases k with
 | false=>exact ite_ff ⟨.bl false,H3,I3,rfl,q3⟩
 | true=>exact ite_tt (chain_last (bU (hc pins s3 σ H3 _ I3 q3) λw' s4 ⟨z',H4,I4,r4,q4⟩=>ho' pins s4 σ H4 y z' u w' Q I4 r2 r4 q4))
theorem Gi{op op':CmpOp}{r r':R2}(ho:gQ X (compareOp op) r)(ho':gQ X (compareOp op') r')(ha:PE X a ta)(hb:PE X b tb)(hc:PE X c tc)
  (hm:lastMarks [op,op'] [b,c]=false:=by with_unfolding_all rfl):PT X (.Compare a [op,op'] [b,c] pos) (Gg (Bw r r' ta tb tc)):=by
 intro pins s σ H Q I h
 refine isTrue_chain (bU (ha pins s σ H _ I h) λv s1 ⟨x,H1,I1,r1,q1⟩=>test_link (bU (hb pins s1 σ H1 _ I1 q1) λu s2 ⟨y,H2,I2,r2,q2⟩ =>
  bU (ho pins s2 σ H2 x y v u _ I2 r1 r2 q2) λd s3 ⟨z,H3,I3,r3,k,e,q3⟩=>?_)) hm
 subst e;cases r3;refine aaX ?_
 cases k with
 | false =>
  obtain⟨k',e',q'⟩:=q3;cases e';exact ite_ff ⟨H3,I3,q'⟩
 | true =>
  refine ite_tt (test_last (bU (hc pins s3 σ H3 _ I3 q3) λw' s4 ⟨z',H4,I4,r4,q4⟩=>bU (ho' pins s4 σ H4 y z' u w' _ I4 r2 r4 q4) λd' s5 ⟨z2,H5,I5,r5,k2,e2,q5⟩=>?_));subst e2;cases r5;exact aaX ⟨H5,I5,q5⟩
theorem rP:(sizeLine:Nat) < 2 ^ 63:=by rw[sizeLine_eq];decide
theorem Bx:gQ X (binaryOp .Add) (λx y H Q=>∃i j,x=.str i/\y=.str j/\i.length + j.length<=sizeLine/\Q (.str (i++j)) H):=by
 intro pins s σ H x y v u Q I rx ry h;obtain⟨i,j,rfl,rfl,hz,q⟩:=h;obtain⟨t,rfl⟩:=rx;obtain⟨t',rfl⟩:=ry;exact add_str (λt' tk=>⟨.str (i++j),H,I.tok _,⟨_,rfl⟩,q⟩) hz
theorem vals1{x:V}{us:List Value}(r:Vals [x] us):∃u,us=[u]/\RelV x u:=by
 cases r with
 | cons r1 r2=>cases r2;exact⟨_,rfl,r1⟩
theorem vals2{x y:V}{us:List Value}(r:Vals [x,y] us):∃u w',us=[u,w']/\RelV x u/\RelV y w':=by
 cases r with
 | cons r1 r2 =>
  cases r2 with
  | cons r3 r4=>cases r4;exact⟨_,_,rfl,r1,r3⟩
theorem D6(hc:X.calm=true):eh X (.builtin "max") (λxs H Q=>∃i j,xs=[.int i,.int j]/\Q (.int (if j > i then j else i)) H):=by
 intro pins s σ H xs us Q I r h;obtain⟨i,j,rfl,q⟩:=h;obtain⟨u,w',rfl,⟨t,rfl⟩,⟨t',rfl⟩⟩:=vals2 r;refine max_two_ints (I.ok.hd hc) λh' tk k=>⟨_,H,I.kept k,?_,q⟩
 by_cases hj:j > i
 ·rw[aaD hj,aaD hj];exact⟨_,rfl⟩
 ·rw[aaF hj,aaF hj];exact⟨_,rfl⟩
theorem D7(hc:X.calm=true):eh X (.builtin "min") (λxs H Q=>∃i j,xs=[.int i,.int j]/\Q (.int (if j < i then j else i)) H):=by
 intro pins s σ H xs us Q I r h;obtain⟨i,j,rfl,q⟩:=h;obtain⟨u,w',rfl,⟨t,rfl⟩,⟨t',rfl⟩⟩:=vals2 r;refine min_two_ints (I.ok.hd hc) λh' tk k=>⟨_,H,I.kept k,?_,q⟩
 by_cases hj:j < i
 ·rw[aaD hj,aaD hj];exact⟨_,rfl⟩
 ·rw[aaF hj,aaF hj];exact⟨_,rfl⟩
theorem D8:eh X (.type "int") (λxs H Q=>(∃i,xs=[.int i]/\Q (.int i) H)∨∃k,xs=[.bl k]/\Q (.int (if k then 1 else 0)) H):=by
 intro pins s σ H xs us Q I r h;rcases h with⟨i,rfl,q⟩ | ⟨k,rfl,q⟩
 ·obtain⟨u,rfl,t,rfl⟩:=vals1 r;exact call_int_int ⟨.int i,H,I,⟨_,rfl⟩,q⟩
 ·obtain⟨u,rfl,r1⟩:=vals1 r;cases r1;exact call_int_bool ⟨.int (if k then 1 else 0),H,I.tok _,⟨_,rfl⟩,q⟩
end
structure YY(h:Heap)(x dx C:Addr)(mA:Str->Option Value):Prop where
 obj:h.get? x=some (PySem.W.instObj C dx)
 ns:h.Ns1 dx mA
 ne:dx≠x
theorem D9{h:Heap}{dx:Addr}{mA:Str->Option Value}(n:h.Ns1 dx mA):∃od,h.get? dx=some od/\∀name,PySem.W.lookIn name od=some (mA name):=by
 obtain⟨o,es,ep,ho,hd,hk,_,hm⟩:=n;refine⟨o,ho,λname=>?_⟩;have e:=hm name;unfold nsFind findBy at e;rw[← Array.find?_toList]at e;unfold PySem.W.lookIn;rw[hd];dsimp only;split
 ·rename_i y q;rw[q]at e;exact ab6 some e
 ·rename_i q;rw[q]at e
  have a:es.toList.any (·.refKey)=false:=by
   rw[List.any_eq_false];intro y hy;obtain⟨z,t,hkey⟩:=hk y (Array.mem_toList_iff.mp hy);simp[DictEntry.refKey,hkey]
  have a':¬ es.toList.any (·.refKey)=true:=by rw[a];exact aai
  rw[aaF a'];exact ab6 some e
section
variable {prog:Program} {w:World} {A:Around} {E:Value->Shared->Prop} {s:Shared} {K:aH} {x dx C f:Addr} {mA:Str->Option Value} {name:Str} {v:Value}
end
def oF(f:Str)(v:V):List (Str×V)->List (Str×V)
 | []=>[(f,v)]
 | (g,x)::r=>if g=f then(g,v)::r else(g,x)::oF f v r
theorem sL(f g:Str)(v:V):∀fs:List (Str×V),(oF f v fs).lookup g=if g=f then some v else fs.lookup g
 | []=>by
  show List.lookup g [(f,v)]=_;by_cases h:g=f
  ·have hb:(g == f)=true:=beq_iff_eq.mpr h;simp only[List.lookup,hb,if_pos h]
  ·have hb:(g == f)=false:=beq_eq_false_iff_ne.mpr h;simp only[List.lookup,hb,if_neg h]
 | (k,x)::r=>by
  have ih:=sL f g v r;rw[show oF f v ((k,x)::r)=(if k=f then(k,v)::r else(k,x)::oF f v r)from rfl];by_cases hk:k=f
  ·rw[aaD hk];by_cases h:g=k
   ·have hb:(g == k)=true:=beq_iff_eq.mpr h;simp only[List.lookup,hb,if_pos (h.trans hk)]
   ·have hb:(g == k)=false:=beq_eq_false_iff_ne.mpr h;simp only[List.lookup,hb,if_neg (λe:g=f=>h (e.trans hk.symm))]
  ·rw[aaF hk];by_cases h:g=k
   ·have hb:(g == k)=true:=beq_iff_eq.mpr h;simp only[List.lookup,hb,if_neg (λe:g=f=>hk (h.symm.trans e))]
   ·have hb:(g == k)=false:=beq_eq_false_iff_ne.mpr h;simp only[List.lookup,hb];exact ih
theorem rQ(f:Str)(v:V):∀fs:List (Str×V),f∈(oF f v fs).map (·.1)/\∀g,g∈fs.map (·.1)->g∈(oF f v fs).map (·.1)
 | []=>⟨by simp[oF],λg h=>by simp at h⟩
 | (k,x)::r=>by
  obtain⟨i1,i2⟩:=rQ f v r;rw[show oF f v ((k,x)::r)=(if k=f then(k,v)::r else(k,x)::oF f v r)from rfl];by_cases hk:k=f
  ·rw[if_pos hk];subst hk;exact⟨by simp,λg h=>by simpa using h⟩
  ·rw[aaF hk];refine⟨?_,λg h=>?_⟩
   ·rw[abn];exact aaL _ i1
   ·rw[abn]at h ⊢;rcases aay.mp h with e | e
    ·exact aay.mpr (.inl e)
    ·exact aaL _ (i2 g e)
theorem sM(f:Str)(v:V):∀fs:List (Str×V),(oF f v fs).length<=fs.length + 1
 | []=>by simp[oF]
 | (k,x)::r=>by
  have ih:=sM f v r;rw[show oF f v ((k,x)::r)=(if k=f then(k,v)::r else(k,x)::oF f v r)from rfl];by_cases hk:k=f
  ·rw[aaD hk,abo,abo];omega
  ·rw[aaF hk,abo,abo];omega
theorem qi.some_of{v:V}{o:Option Value}(r:qi (some v) o):∃u,o=some u/\RelV v u:=by
 cases o with
 | none=>exact(show False from r).elim
 | some u=>exact⟨u,rfl,r⟩
theorem Ea{v:V}{u:Value}(r:RelV v u):PySem.W.handedIn u=true:=by
 cases v with
 | non=>cases (show u=Value.none from r);rfl
 | bl b=>cases (show u=Value.bool b from r);rfl
 | int i=>obtain⟨t,e⟩:=(show ∃t,u=Value.int i t from r);cases e;rfl
 | str x=>obtain⟨t,e⟩:=(show ∃t,u=Value.str x t from r);cases e;rfl
 | byt b=>obtain⟨t,e⟩:=(show ∃t,u=Value.bytes b t from r);cases e;rfl
 | flt b=>obtain⟨t,e⟩:=(show ∃t,u=Value.float b t from r);cases e;rfl
 | ref a=>cases (show u=Value.ref a from r);rfl
 | ty n=>cases (show u=Value.type n from r);rfl
section
variable {P:Program} {w:World} {H H':Hp} {h h':Heap} {a C dx:Addr} {fs fs':List (Str×V)}
end
structure Yk(K:aH)(C:Addr):Prop where
 pg:PySem.W.plainGet K C Str.empty=true
 hd:PySem.W.hasDictIn K C=true
 po:PySem.W.plainOver K C=true
 sa:PySem.W.findIn K (.ref C) "__setattr__"=some (some (.builtin "object.__setattr__"))
def fR(K:aH)(C:Addr)(f:Str):Prop:=PySem.W.findIn K (.ref C) f=some none
structure Con(K:aH)(C:Addr)(f:Str)(v:V)(u:Value):Prop where
 at_:PySem.W.findIn K (.ref C) f=some (some u)
 rel:RelV v u
 get:PySem.W.specialIn K u "__get__"=some none
 cp:PySem.W.copiedNames.contains f=false
structure Meth(K:aH)(C:Addr)(m:Str)(f:Addr):Prop where
 at_:PySem.W.findIn K (.ref C) m=some (some (.ref f))
 fn:PySem.W.isFn K (.ref f)=true
 kp:PySem.W.keepIn K (.ref f)=true
section
variable {X:Cx} {pins:List (Addr×Obj)} {σ:St} {H:Hp} {s:Shared} {a C dx:Addr} {fs:List (Str×V)} {f:Str} {v:V} {A:Around} {E:Value->Shared->Prop}
theorem Kl{prog:Program}{w:World}{env:Env}{e:Expr}{f:Str}{pos:Pos}{s:Shared}{Q:Value->Shared->Prop}(hb:attributeBase e f env (eval e env)=eval e env)
  (h:wpAny (model prog w) A (eval e env) (λo s₁=>wpAny (model prog w) A (getAttr o f true) Q E s₁) E s):wpAny (model prog w) A (eval (.Attribute e f pos) env) Q E s :=
 Attribute_any_ h (by rw[arm_eval_Attribute,hb])
end
inductive VG(K:aH)(f:Str)(x:V)(H:Hp)(Q:VK):Prop where
 | mk (a C dx:Addr) (fs:List (Str×V)) (v:V) (e:x=.ref a) (h:H a=some (.ins C dx fs)) (c:Yk K C) (n:fR K C f) (l:fs.lookup f=some v) (q:Q v H):VG K f x H Q
section
variable {X:Cx} {o e value:Expr} {f:Str} {pos pos' tpos:Pos} {ta tv:TE}
end
section
variable {X:Cx} {pins:List (Addr×Obj)} {σ:St} {H:Hp} {s:Shared} {A:Around} {E:Value->Shared->Prop} {Q:Value->Shared->Prop} {c:Value} {b:Bool}
inductive uJ(K:aH)(H:Hp):V->Value->Prop where
 | non:uJ K H .non (.type "NoneType")
 | bl (x:Bool):uJ K H (.bl x) (.type "bool")
 | int (i:Int):uJ K H (.int i) (.type "int")
 | str (x:Str):uJ K H (.str x) (.type "str")
 | flt (x:UInt64):uJ K H (.flt x) (.type "float")
 | lst {a:Addr} {xs:List V} (e:H a=some (.lst xs)):uJ K H (.ref a) (.type "list")
 | oY {a:Addr} {o:Obj} {xs:List V} (e:H a=some (.oY o (.lst xs))):uJ K H (.ref a) (.type "list")
 | tup {a:Addr} {xs:List V} (e:H a=some (.tup xs)):uJ K H (.ref a) (.type "tuple")
 | dK {a:Addr} {kvs:List (Key×V)} (e:H a=some (.dK kvs)):uJ K H (.ref a) (.type "dict")
 | dT {a:Addr} {kvs:List (List Key×V)} (e:H a=some (.dT kvs)):uJ K H (.ref a) (.type "dict")
 | ins {a C dx:Addr} {fs:List (Str×V)} (e:H a=some (.ins C dx fs)) (cl:Yk K C) (ha:PySem.W.findIn K (.ref C) "__class__"=some (some (.builtin "object.__class__")))
   (hn:PySem.W.specialIn K (.builtin "object.__class__") "__get__"=some (some (.builtin "getset_descriptor.__get__"))) (htk:PySem.W.takesIn K (.builtin "object.__class__")=some true)
   (hm:PySem.W.mroIn K C (.type "object")=some true):uJ K H (.ref a) (.ref C)
end
structure cX(k:Nat)(A:Around)(cm:Bool:=true):Prop where
 hd:cm=true->A.handled=none
 dp:A.depth + 2 * k + 5 < recursionLimit
 un:A.units + 16 * k + 200 < cLine
 gd:A.guards=some []
theorem cX.mono{j k:Nat}{A:Around}{cm:Bool}(r:cX k A cm)(h:j<=k):cX j A cm:=⟨r.hd,by have:=r.dp;omega,by have:=r.un;omega,r.gd⟩
theorem cX.low{k:Nat}{A:Around}{cm:Bool}(r:cX k A cm):cX k A false:=⟨(λz=>nomatch z),r.dp,r.un,r.gd⟩
theorem cX.deeper{k:Nat}{A:Around}{cm:Bool}(r:cX (k + 1) A cm)(env:Env):cX k (A.deeper env) cm :=
 ⟨r.hd,by have:=r.dp;show A.depth + 1 + 2 * k + 5 < _;omega,by have:=r.un;show A.units + 3 + 16 * k + 200 < _;omega,r.gd⟩
theorem By{A:Around}{C:Addr}{us:List Value}{kw:List (Str×Value)}:(A.under (.builtin "type.__call__" ⟨.ref C::us,kw⟩)).depth=A.depth + 1:=by
 first | rfl | simp[Around.under,Code.weight,Code.isCreation,Code.isGuard,Code.isCaller,Code.frames,Code.isFrame,guardIds]
theorem Bz{A:Around}{C:Addr}{us:List Value}{kw:List (Str×Value)}:(A.under (.builtin "type.__call__" ⟨.ref C::us,kw⟩)).units=A.units + 1:=by
 first | rfl | simp[Around.under,Code.cUnits,Code.frames,Code.isFrame]
theorem cX.make{k:Nat}{A:Around}{cm:Bool}(r:cX (k + 1) A cm)(C:Addr)(us:List Value)(kw:List (Str×Value)):cX k (A.under (.builtin "type.__call__" ⟨.ref C::us,kw⟩)) cm :=
 ⟨r.hd,by have:=r.dp;rw[By];omega,by have:=r.un;rw[Bz];omega,r.gd⟩
theorem cX.depth{k:Nat}{A:Around}{cm:Bool}(r:cX k A cm):A.depth < recursionLimit:=by have:=r.dp;omega
theorem cX.units{k:Nat}{A:Around}{cm:Bool}(r:cX k A cm):A.units + 64 < cLine:=by have:=r.un;omega
def SG:TA:=λ_ H Q=>Q [] H
def Np(ta:TE)(tr:TA):TA:=λσ H Q=>ta σ H λx H1=>tr σ H1 λxs H2=>Q (x::xs) H2
section
variable {X:Cx} {e:Expr} {es:List Expr} {te:TE} {t:TA} {pos:Pos}
theorem pN:PA X [] SG:=λ_ _ _ _ H Q I h=>Calls.spliced_nil ⟨[],H,I,.nil,h⟩
theorem pK(ha:PE X e te)(hr:PA X es t)(hs:starEach (e::es) X.env=(false,eval e X.env)::starEach es X.env:=by rfl):PA X (e::es) (Np te t):=by
 intro pos pins s σ H Q I h;rw[hs];show wpAny _ _ (spliced ((false,eval e X.env)::backTo pos (starEach es X.env))) _ _ s;refine Calls.spliced_cons (bU (ha pins s σ H _ I h) λu s1 ⟨x,H1,I1,r1,q1⟩=>?_);exact bU (hr pos pins s1 σ H1 _ I1 q1) λus s2 ⟨xs,H2,I2,r2,q2⟩=>⟨x::xs,H2,I2,.cons r1 r2,q2⟩
def SJ(t:TA):TE:=λσ H Q=>t σ H λxs H1=>xs.length<=sizeLine/\∀p,H1 p=none->Q (.ref p) (upd H1 p (.tup xs))
def OW(t:TA):TE:=λσ H Q=>t σ H λxs H1=>xs.length<=sizeLine/\∀p,H1 p=none->Q (.ref p) (upd H1 p (.lst xs))
theorem ju{x1}(h:PA X es t):PE X (.Tuple es x1 pos) (SJ t):=by
 intro pins s σ H Q I hq;refine wpAny_Tuple_spliced (bU (h pos pins s σ H _ I hq) λus s1 ⟨xs,H1,I1,r,z,q⟩=>⟨by rw[← r.length];exact z,?_⟩);have hf:H1 s1.heap.objs.size=none:=I1.hok.fresh (aaj _);refine⟨.ref s1.heap.objs.size,upd H1 s1.heap.objs.size (.tup xs),I1.laid (t':=s1.toks) (λb u e=>aab _ e) (aaj _) ?_,rfl,q _ hf⟩;exact⟨z,us,r,⟨_,aaz _ rfl,rfl,_,rfl⟩⟩
theorem BA(h:PA X es t):PE X (.List es pos) (OW t):=by
 intro pins s σ H Q I hq;refine wpAny_List_spliced (bU (h pos pins s σ H _ I hq) λus s1 ⟨xs,H1,I1,r,z,q⟩=>⟨by rw[← r.length];exact z,?_⟩);have hf:H1 s1.heap.objs.size=none:=I1.hok.fresh (aaj _);refine⟨.ref s1.heap.objs.size,upd H1 s1.heap.objs.size (.lst xs),I1.laid (t':=s1.toks) (λb u e=>aab _ e) (aaj _) ?_,rfl,q _ hf⟩;exact⟨z,us,0,r,aaz _ rfl⟩
end
abbrev Sp:=List V->Hp->VK->XK->Prop
abbrev CS:=List Env->Hp->Shared->XK->Value->Shared->Prop
structure BB(P:Program)(w:World)(K:aH)(mg:Str->Option Value)(base:Heap)(A:Around)(outer:List Env)(s:Shared)(H:Hp):Prop where
 frames:A.frames=some outer
 mod:Mod K mg base
 bs:∀b o,base.get? b=some o->s.heap.get? b=some o/\H b=none
 bsz:base.objs.size<=s.heap.objs.size
 rL:s.heap.FunFrames base outer
 frf:∀b∈qk outer,H b=none
 hok:qj P w H s.heap
 bare:AllBare s.gens
def CE(outer:List Env)(P:Program)(w:World)(H:Hp)(s:Shared)(Q:VK)(u:Value)(s':Shared):Prop :=
 ∃v H',s'.os=s.os/\AllBare s'.gens/\Un (qk outer) [] H H' s.heap s'.heap/\qj P w H' s'.heap/\RelV v u/\Q v H'
def CR(CX:CS)(outer:List Env)(P:Program)(w:World)(H:Hp)(s:Shared)(Q:VK)(E:XK)(r:Result)(s':Shared):Prop :=
 match r with
 | .ok (.ret u)=>CE outer P w H s Q u s'
 | .ok _=>False
 | .error e=>CX outer H s E e s'
structure bB(P:Program)(w:World)(K:aH)(mg:Str->Option Value)(base:Heap)(CX:CS)(k:Nat)(f:Addr)(fd:FuncData)(ps:List Str)(sp:Sp)(cm:Bool:=true):Prop where
 len:∀vs H Q E,sp vs H Q E->vs.length=ps.length
 run:∀(A:Around) (outer:List Env) (s:Shared) (H:Hp) (args:Args) (us:List Value) (vs:List V) (Q:VK) (E:XK),cX k A cm->BB P w K mg base A outer s H->BindsTo s fd args (ps.zip us)->Vals vs us->sp vs H Q E ->
  codeAny (model P w) A (.call (.ref f) args) (CR CX outer P w H s Q E) s
theorem BB.make{P:Program}{w:World}{K:aH}{mg:Str->Option Value}{base:Heap}{A:Around}{outer:List Env}{s:Shared}{H:Hp}(e:BB P w K mg base A outer s H)(C:Addr)(us:List Value)(kw:List (Str×Value)):
  BB P w K mg base (A.under (.builtin "type.__call__" ⟨.ref C::us,kw⟩)) outer s H:=⟨by first | exact e.frames | (simpa [Around.under,Code.envs,Code.isFrame,pushEnvs]using e.frames),e.mod,e.bs,e.bsz,e.rL,e.frf,e.hok,e.bare⟩
section
variable {X:Cx} {pins:List (Addr×Obj)} {σ:St} {H:Hp} {s s':Shared}
theorem Inv.OX(I:Inv X pins σ H s):BB X.prog X.w X.K X.mg X.base X.A X.stack s H :=
 ⟨I.ok.frames,I.ok.mod,I.bs,aaB I.ok.bsz I.sz,I.stack,I.uq,I.hok,I.bare⟩
theorem Inv.after{Q:VK}{u:Value}(I:Inv X pins σ H s)(h:CE X.stack X.prog X.w H s Q u s'):EP X pins σ Q u s':=by
 obtain⟨v,H',os,bare,un,hok,r,q⟩:=h;obtain⟨hh,g,d,t,os'⟩:=s';obtain rfl:os'=s.os:=os;exact⟨v,H',I.call (h':=hh) (g':=g) (d':=d) (t':=t) (ch:=[]) un hok bare (λb z=>absurd z (by simp)),r,q⟩
end
def zz(sp:Sp)(dvs:List V)(E:XK)(t:TA):TE:=λσ H Q=>t σ H λvs H1=>sp (vs++dvs) H1 Q E
inductive SK(C:Addr)(m:Str)(x:V)(H:Hp)(R:Prop):Prop where
 | mk (a dx:Addr) (fs:List (Str×V)) (e:x=.ref a) (h:H a=some (.ins C dx fs)) (l:fs.lookup m=none) (r:R):SK C m x H R
def Binds(K:aH)(fd:FuncData)(ps:List Str)(ds:List Value):Prop :=
 ∀(s:Shared) (us:List Value),K.In s.heap->(us++ds).length=ps.length->BindsTo s fd ⟨us,[]⟩ (ps.zip (us++ds))
theorem Binds.all{K:aH}{fd:FuncData}{ps:List Str}(h:∀us:List Value,us.length=ps.length->bindArgs fd ⟨us,[]⟩=pure (ps.zip us)):Binds K fd ps []:=λs us _ hl=>by
 rw[abb]at hl ⊢;exact .of_eq (h us hl)
def Passes(CX:CS)(X:Cx)(E:XK):Prop:=∀(pins:List (Addr×Obj)) (σ:St) (H:Hp) (s:Shared) (e:Value) (s':Shared),Inv X pins σ H s->CX X.stack H s E e s'->X.xe e s'
section
variable {X:Cx} {CX:CS} {k:Nat} {f C:Addr} {fd:FuncData} {ps:List Str} {sp:Sp} {dvs:List V} {ds:List Value} {E:XK} {x m:Str} {p pos apos:Pos} {e o:Expr} {es:List Expr} {ta:TE} {t:TA}
theorem OY{pins:List (Addr×Obj)}{σ:St}{H:Hp}{s:Shared}{Q:VK}{us:List Value}{vs:List V}(F:bB X.prog X.w X.K X.mg X.base CX k f fd ps sp)(hr:cX k X.A)(hb:Binds X.K fd ps ds)(hd:Vals dvs ds)(hx:Passes CX X E)
  (I:Inv X pins σ H s) (r:Vals vs us) (h:sp (vs++dvs) H Q E):wpAny (model X.prog X.w) X.A (call (.ref f) us) (EP X pins σ Q) X.xe s:=by
 have r2:Vals (vs++dvs) (us++ds):=r.append hd;have hl:(us++ds).length=ps.length:=by rw[← r2.length];exact F.len _ _ _ _ h
 refine acY (acE (F.run X.A X.stack s H ⟨us,[]⟩ (us++ds) (vs++dvs) Q E hr I.OX (hb s us I.ql hl) r2 h) λr s' hq=>?_)
 cases r with
 | error e=>exact hx pins σ H s e s' I hq
 | ok fl =>
  cases fl with
  | ret u=>exact I.after hq
  | next=>exact False.elim hq
  | brk=>exact False.elim hq
  | cont=>exact False.elim hq
theorem CT(F:bB X.prog X.w X.K X.mg X.base CX k f fd ps sp)(hr:cX k X.A)(hg:Gl X x)(hm:X.mg x=some (.ref f))(hk:PySem.W.keepIn X.K (.ref f)=true)(hb:Binds X.K fd ps ds)(hd:Vals dvs ds)(hx:Passes CX X E)
  (ha:PA X (e::es) t) (hdb:(x == ("__debug__" : Str))=false:=by decide) (he:starEach (e::es) X.env=(false,eval e X.env)::starEach es X.env:=by rfl) (hpl:(backTo pos (starEach es X.env)).any (·.1)=false:=by rfl) :
  PE X (.Call (.Name x p) (e::es) [] pos) (zz sp dvs E t):=by
 intro pins s σ H Q I h;refine abw (qp I hg hm ?_ hdb);refine acq (h₀:=X.base) I.ok.mod.kin hk (bU (ha pos pins s σ H _ I h) λus s1 ⟨vs,H1,I1,r,q⟩=>⟨I1.ql,?_⟩) he hpl;exact OY F hr hb hd hx I1 r q
structure Mk(K:aH)(C f:Addr):Prop where
 makes:PySem.W.makesIn K C=true
 init:PySem.W.findIn K (.ref C) "__init__"=some (some (.ref f))
 fn:PySem.W.isFn K (.ref f)=true
 kp:PySem.W.keepIn K (.ref C)=true
end
section
variable {X:Cx} {CX:CS} {k:Nat} {f C:Addr} {fd:FuncData} {ps ks:List Str} {sp:Sp} {E:XK} {x m:Str} {p pos apos kpos:Pos} {e o:Expr} {es:List Expr} {kws:List Keyword} {te ta:TE} {t tk:TA} {nm:Option Str}
structure VH(K:aH)(fd:FuncData)(ps ks:List Str)(g:List Value->List Value->List Value)(gV:List V->List V->List V):Prop where
 to:∀(s:Shared) (us ws:List Value),K.In s.heap->(g us ws).length=ps.length->BindsTo s fd ⟨us,ks.zip ws⟩ (ps.zip (g us ws))
 rel:∀{vs:List V} {us:List Value} {zs:List V} {ws:List Value},Vals vs us->Vals zs ws->Vals (gV vs zs) (g us ws)
variable {g:List Value->List Value->List Value} {gV:List V->List V->List V}
end
structure aI(N P:List Str)(sc:Scope):Prop where
 kind:sc.kind=.function
 co:sc.isCoroutine=false
 gen:sc.isGenerator=false
 nd:N.Nodup
 pre:N.take P.length=P
 par:∀x∈P,sc.names.lookup x=some .local∨sc.names.lookup x=some .cell
 nofree:∀y∈sc.names,y.2≠.free
theorem wR{kindOf:Str->Option NameKind}{x:Str}:∀{binds:List (Str×Value)} {m:Str->Option Value},(∀v,(x,v)∉binds)->bindL kindOf binds m x=m x
 | [],_,_=>rfl
 | (n,v)::r,m,h=>by
  unfold bindL;rw[wR λw hw=>h w (List.mem_cons_of_mem _ hw)];split
  ·have:x≠n:=by rintro rfl;exact h v aaC
   simp[this]
  ·rfl
theorem wU{kindOf:Str->Option NameKind}{x:Str}:∀{binds:List (Str×Value)} {m:Str->Option Value},(∀v,(x,v)∉binds)->bindC kindOf binds m x=m x
 | [],_,_=>rfl
 | (n,v)::r,m,h=>by
  unfold bindC;rw[wU λw hw=>h w (List.mem_cons_of_mem _ hw)];split
  ·rfl
  ·have:x≠n:=by rintro rfl;exact h v aaC
   simp[this]
theorem wV{kindOf:Str->Option NameKind}{x:Str}{v:Value}:∀{P:List Str} {vs:List Value} {i:Nat} {m:Str->Option Value},P.Nodup->P[i]?=some x->vs[i]?=some v->kindOf x=some .local ->
  bindL kindOf (P.zip vs) m x=some v
 | [],_,_,_,_,h,_,_=>by simp at h
 | _::_,[],_,_,_,_,h,_=>by simp at h
 | p::P,w::vs,0,m,nd,h1,h2,hk=>by
  simp at h1 h2;subst h1;subst h2;show bindL kindOf ((p,w)::P.zip vs) m p=_;unfold bindL;rw[wR λv hv=>(List.nodup_cons.mp nd).1 (List.of_mem_zip hv).1,if_pos hk];simp
 | p::P,w::vs,i + 1,m,nd,h1,h2,hk=>by
  show bindL kindOf ((p,w)::P.zip vs) m x=_;unfold bindL;exact wV (i:=i) (List.nodup_cons.mp nd).2 (by simpa using h1) (by simpa using h2) hk
theorem wW{kindOf:Str->Option NameKind}{x:Str}{v:Value}:∀{P:List Str} {vs:List Value} {i:Nat} {m:Str->Option Value},P.Nodup->P[i]?=some x->vs[i]?=some v->kindOf x≠some .local ->
  bindC kindOf (P.zip vs) m x=some v
 | [],_,_,_,_,h,_,_=>by simp at h
 | _::_,[],_,_,_,_,h,_=>by simp at h
 | p::P,w::vs,0,m,nd,h1,h2,hk=>by
  simp at h1 h2;subst h1;subst h2;show bindC kindOf ((p,w)::P.zip vs) m p=_;unfold bindC;rw[wU λv hv=>(List.nodup_cons.mp nd).1 (List.of_mem_zip hv).1,if_neg hk];simp
 | p::P,w::vs,i + 1,m,nd,h1,h2,hk=>by
  show bindC kindOf ((p,w)::P.zip vs) m x=_;unfold bindC;exact wW (i:=i) (List.nodup_cons.mp nd).2 (by simpa using h1) (by simpa using h2) hk
def start(N:List Str)(vs:List V):St:=vs.map some++List.replicate (N.length - vs.length) none
def uK(CX:CS)(P:Program)(w:World)(K:aH)(mg:Str->Option Value)(base:Heap)(N:List Str)(qual:Str)(scope:Scope)(f:Addr)(cd:Value)(A:Around)(outer:List Env)(s:Shared)(H:Hp)(E:XK)(cm:Bool:=true):Cx where
 prog:=P
 w:=w
 K:=K
 mg:=mg
 base:=base
 A:=A.deeper (envOfC qual scope s.heap.objs.size f cd)
 N:=N
 s₀:=s
 H₀:=H
 env:=envOfC qual scope s.heap.objs.size f cd
 outer:=outer
 stack:=envOfC qual scope s.heap.objs.size f cd::outer
 ex:=[]
 calm:=cm
 fn:=λ_=>true
 pn:=[]
 xe:=λe s'=>wpAny (model P w) (A.deeper (envOfC qual scope s.heap.objs.size f cd)) (leaving (envOfC qual scope s.heap.objs.size f cd) e) (λ_ s''=>CX outer H s E e s'') (λe' s''=>CX outer H s E e' s'') s'
theorem zA{sc:Scope}{n:Nat}{x:Str}(h:sc.names.lookup x=some .cell):∃c,(cellsFrom n sc.names []).lookup x=some c:=by
 have q:=acO sc.names n [] (.inl h);exact Option.isSome_iff_exists.mp q
theorem Eb{cm:Bool}{CX:CS}{P:Program}{w:World}{K:aH}{mg:Str->Option Value}{base:Heap}{N ps:List Str}{qual:Str}{scope:Scope}{f:Addr}{cd:Value}{A:Around}{outer:List Env}{s s1:Shared}{H:Hp}{E:XK}{us:List Value}{vs:List V}
  (S:aI N ps scope) (hd:cm=true->A.handled=none) (e0:BB P w K mg base A outer s H) (hl:vs.length=ps.length) (r:Vals vs us)
  (x:InCallC s s.heap.objs.size (bindL (envOfC qual scope s.heap.objs.size f cd).kindOf (ps.zip us) λ_=>none) (cellsFrom (s.heap.objs.size + 1) scope.names []) (bindC (envOfC qual scope s.heap.objs.size f cd).kindOf (ps.zip us) λ_=>none) s1) :
  Inv (uK CX P w K mg base N qual scope f cd A outer s H E cm) [] (start N vs) H s1:=by
 have hpl:ps.length<=N.length:=by have:=ab6 List.length S.pre;rw[abR]at this;omega
 obtain⟨h1,tk,rfl,hk⟩:=x.done;have noA:∀b:Addr,b∉(uK CX P w K mg base N qual scope f cd A outer s H E cm).ex:=λb z=>absurd (show b∈([]:List Addr)from z) (by simp)
 refine⟨⟨e0.mod,S.kind,rfl,rfl,aaj _,λy z c h1 h2=>?_,λy hy=>?_,λy c _ h=>?_,hd,Around.frames_deeper e0.frames,.inr ⟨rfl,rfl⟩,λb z=>absurd z (noA b),e0.bs,e0.bsz,λb _ _=>noA b,λb z=>absurd z (noA b),e0.rL,e0.frf⟩,
  rfl,e0.bare,Un.kept hk,⟨_,x.toInCall.ns,λi y v h1 h2 h3=>?_⟩,λy c h=>⟨_,x.cell y c h⟩,e0.hok.fresh (Nat.le_refl _),λy c h=>?_,λp hp=>absurd (show p∈([]:List (Addr×Obj))from hp) (by simp),e0.hok.kept hk,?_⟩
 ·exact name_of_addr x.apart (abr h1) (abr h2)
 ·have hy:scope.names.lookup y=some .cell∨scope.names.lookup y=some .free:=hy;rcases hy with hy | hy
  ·exact zA hy
  ·exact absurd rfl (S.nofree _ (abr hy))
 ·exact acC (x.above y c (abr h))
 ·have hi:i < vs.length:=by
   unfold start at h2;by_cases hi:i < vs.length
   ·exact hi
   ·rw[List.getElem?_append_right (by simpa using hi)]at h2;rw[List.getElem?_replicate]at h2;split at h2<;>cases h2
  have ha:vs[i]?=some v:=by
   unfold start at h2;rw[List.getElem?_append_left (by simpa using hi),List.getElem?_map]at h2
   cases e:vs[i]? with
   | none=>rw[e]at h2;cases h2
   | some a=>rw[e]at h2;cases h2;rfl
  obtain⟨u,hu,rv⟩:=r.get ha
  have hp:ps[i]?=some y:=by
   rw[← S.pre,acF (by omega)];exact h1
  have ndP:ps.Nodup:=by rw[← S.pre];exact S.nd.sublist (List.take_sublist _ _)
  refine⟨u,rv,?_⟩;rcases S.par y (aan hp)with k | k
  ·exact .inl ⟨k,wV ndP hp hu k⟩
  ·obtain⟨c,e⟩:=zA (n:=s.heap.objs.size + 1) k;refine .inr ⟨.inl k,c,e,?_⟩;have q:=x.cell y c e;rw[wW ndP hp hu (by show scope.names.lookup y≠_;rw[k];decide)]at q;exact q
 ·exact e0.hok.fresh (acC (x.above y c (abr h)))
 ·unfold start;show _=N.length;rw[List.length_append,List.length_map,List.length_replicate];omega
theorem Nq{cm:Bool}{CX:CS}{P:Program}{w:World}{K:aH}{mg:Str->Option Value}{base:Heap}{k:Nat}{f:Addr}{name qual:Str}{params:Arguments}{body:List Stmt}{scope:Scope}{dV kV doc pm cdv ct oc:Value}{an od:Option Addr}
  {osl:Array (Option Value)} {N ps:List Str} {sp:Sp} (lk:K.lookup f=some ⟨oc,od,.func (PySem.W.fnOf name qual params body scope dV kV doc pm an cdv ct),osl⟩) (hcd:PySem.W.codeIn K cdv qual=true) (S:aI N ps scope)
  (len:∀vs H Q E,sp vs H Q E->vs.length=ps.length)
  (hbody:∀(A:Around) (outer:List Env) (s:Shared) (H:Hp) (vs:List V) (Q:VK) (E:XK),cX k (A.deeper (envOfC qual scope s.heap.objs.size f cdv)) cm->sp vs H Q E ->
   ∃t,qo (uK CX P w K mg base N qual scope f cdv A outer s H E cm) body t/\t {nx:=λ_ H'=>Q .non H',rt:=Q} (start N vs) H) :
  bB P w K mg base CX (k + 1) f (PySem.W.fnOf name qual params body scope dV kV doc pm an cdv ct) ps sp cm:=by
 refine⟨len,λA outer s H args us vs Q E hr e0 hb r hsp=>?_⟩;have hl:=len _ _ _ _ hsp;have KX:K.In s.heap:=e0.mod.kin.keeps λb o e=>(e0.bs b o e).1
 have lim:s.heap.NoLimit:=e0.mod.nolimit.keeps λb o e=>(e0.bs b o e).1
 have hkind:∀y∈ps.zip us,scope.names.lookup y.1=some .local∨(scope.names.lookup y.1=some .cell/\((cellsFrom (s.heap.objs.size + 1) scope.names []).lookup y.1).isSome=true):=λ⟨n,v⟩ hy=>by
  rcases S.par n (List.of_mem_zip hy).1 with q | q
  ·exact .inl q
  ·exact .inr ⟨q,acO _ _ _ (.inl q)⟩
 refine codeAny_call_function hr.depth (KX _ _ lk) rfl S.co S.gen rfl (PySem.W.codeRec_of KX hcd) (hb _ _ _ _ ?_);refine wpAny_newFunctionEnv_cells S.kind hkind λenv he s1 x=>?_
 subst he;refine⟨lim.keeps x.toInCall.keep,codeAny_func ?_⟩;obtain⟨t,ht,hq⟩:=hbody A outer s H vs Q E (hr.deeper _) hsp;have I:Inv (uK CX P w K mg base N qual scope f cdv A outer s H E cm) [] (start N vs) H s1:=Eb S hr.hd e0 hl r x;refine aaS (ht [] s1 (start N vs) H _ I hq) (λfl s' hs=>?_) λe s' hs=>hs
 have fin:∀{σ':St} {H':Hp} {v:V} {u:Value},Inv (uK CX P w K mg base N qual scope f cdv A outer s H E cm) [] σ' H' s'->RelV v u->Q v H'->CE outer P w H s Q u s' :=
  λ{σ' H' v u} J rv q=>⟨v,H',J.os,J.bare,J.base,J.hok,rv,q⟩
 cases fl with
 | ret u =>
  obtain⟨v,σ',H',J,rv,q⟩:=hs;exact fin J rv q
 | next =>
  obtain⟨σ',H',J,q⟩:=hs;exact fin (v:=V.non) (u:=Value.none) J rfl q
 | brk =>
  obtain⟨_,_,_,q⟩:=hs;exact False.elim q
 | cont =>
  obtain⟨_,_,_,q⟩:=hs;exact False.elim q
section
variable {X:Cx} {x:Str} {p pos:Pos} {e:Expr} {es:List Expr} {t:TA} {id T:String} {r:List V->Hp->VK->Prop}
def VI(r:List V->Hp->VK->Prop)(t:TA):TE:=λσ H Q=>t σ H λvs H1=>r vs H1 Q
theorem gR(hc:eh X (.builtin id) r)(hg:Gl X x)(hm:X.mg x=none)(hv:bootBuiltins x=some (.builtin id))(ha:PA X (e::es) t)(hn:x≠"__name__":=by decide)(hdb:(x == ("__debug__" : Str))=false:=by decide)
  (he:starEach (e::es) X.env=(false,eval e X.env)::starEach es X.env:=by rfl) (hpl:(backTo pos (starEach es X.env)).any (·.1)=false:=by rfl):PE X (.Call (.Name x p) (e::es) [] pos) (VI r t):=by
 intro pins s σ H Q I h;refine abw (kL I hg hm hv ?_ hn hdb);exact PyProof.Rows.callWith_builtin1 (bU (ha pos pins s σ H _ I h) λus s1 ⟨vs,H1,I1,r1,q1⟩=>hc pins s1 σ H1 vs us Q I1 r1 q1) he hpl
theorem gK(hc:eh X (.type T) r)(hg:Gl X x)(hm:X.mg x=none)(hv:bootBuiltins x=some (.type T))(ha:PA X (e::es) t)(hn:x≠"__name__":=by decide)(hdb:(x == ("__debug__" : Str))=false:=by decide)
  (he:starEach (e::es) X.env=(false,eval e X.env)::starEach es X.env:=by rfl) (hpl:(backTo pos (starEach es X.env)).any (·.1)=false:=by rfl):PE X (.Call (.Name x p) (e::es) [] pos) (VI r t):=by
 intro pins s σ H Q I h;refine abw (kL I hg hm hv ?_ hn hdb);exact aaZ (bU (ha pos pins s σ H _ I h) λus s1 ⟨vs,H1,I1,r1,q1⟩=>hc pins s1 σ H1 vs us Q I1 r1 q1) he hpl
end
end L2
namespace HT
open PySem PyProof.Rows
section
open PySem.SeqAt
open PySem.AutoSeq1 (wpAny_loadPart')
open PySem.MeetsSeq PySem.MeetsSeq2 PySem.MeetsSeq3
end
section
variable {prog:Program} {w:World} {A:Around} {E:Value->Shared->Prop} {s:Shared}
theorem Km{t b:Addr}{vs ws:List Value}{Q:Value->Shared->Prop}(ht:IsTup s.heap t vs.toArray)(hb:IsTup s.heap b ws.toArray)(hv:vs≠[])
  (h1:ws=[]->Q (.ref t) s) (h2:ws≠[]->Q (.ref s.heap.objs.size) {s with heap:=s.heap.push {cls:=.type "tuple",data:=.seq (vs++ws).toArray}})
  (hsz:vs.length + ws.length<=sizeLine):wpAny (model prog w) A (binaryOp .Add (.ref t) (.ref b)) Q E s:=by
 obtain⟨⟨cls,dd,data,sl⟩,ho,hc,n,hd⟩:=id ht;obtain⟨⟨YZ,Yl,data2,OZ⟩,JK,O0,n2,hd2⟩:=id hb;simp only at hc hd O0 hd2;subst hc hd O0 hd2;have e:vs.toArray++ws.toArray=(vs++ws).toArray:=by simp
 by_cases hw:ws=[]
 ·exact concat_meets ⟨_,ho,rfl⟩ ⟨_,JK,rfl⟩ noFill_tuple_add seq_tuple_add acP acL (acG _ _)
   (tuple_addW1 t b vs.toArray ws.toArray n n2 dd Yl sl OZ (by simpa using hv) (by simp[hw])) ⟨ho,JK,h1 hw⟩
 ·refine concat_meets ⟨_,ho,rfl⟩ ⟨_,JK,rfl⟩ noFill_tuple_add seq_tuple_add acP acL (acG _ _)
   (tuple_addW2 t b vs.toArray ws.toArray n n2 dd Yl sl OZ (by simpa using hv) (by simpa using hw) (by rw[List.size_toArray,List.size_toArray];exact hsz)) ⟨ho,JK,?_⟩
  rw[e];exact h2 hw
def dY(n d:Nat):Option Int->Nat
 | none=>d
 | some v=>if v < 0 then(v + (n:Int)).toNat else min v.toNat n
theorem zB(n d:Nat):dY n d none=d:=rfl
theorem CU(n d k:Nat):dY n d (some (k:Int))=min k n:=by
 show(if (k:Int) < 0 then((k:Int) + (n:Int)).toNat else min (k:Int).toNat n)=min k n;rw[aaF (by omega),acv]
theorem O1(n d:Nat)(hd:d<=n)(o:Option Int):dY n d o<=n:=by
 cases o with
 | none=>exact hd
 | some v =>
  show(if v < 0 then(v + (n:Int)).toNat else min v.toNat n)<=n;by_cases hv:v < 0
  ·rw[aaD hv];omega
  ·rw[aaF hv];exact Nat.min_le_right _ _
theorem CV(v:Int)(n d:Nat):(if v < 0 then max (v + (n:Int)) 0 else min v (n:Int))=((dY n d (some v):Nat):Int):=by
 show(if v < 0 then max (v + (n:Int)) 0 else min v (n:Int))=(((if v < 0 then(v + (n:Int)).toNat else min v.toNat n):Nat):Int);by_cases hv:v < 0
 ·simp only[if_pos hv];omega
 ·simp only[if_neg hv];omega
theorem BC(lo hi:Option Int)(n:Nat):Builtin.Slice.sliceAdjust lo hi 1 (n:Int)=(((dY n 0 lo:Nat):Int),((dY n n hi:Nat):Int)):=by
 have h1:¬ ((1:Int) < 0):=by omega
 unfold Builtin.Slice.sliceAdjust;simp only[h1,if_false];refine Prod.ext ?_ ?_
 ·cases lo with
  | none=>rfl
  | some v=>exact CV v n 0
 ·cases hi with
  | none=>rfl
  | some v=>exact CV v n n
theorem BD(i j:Nat):Builtin.Slice.slicePlaces (i:Int) (j:Int) 1=j - i:=by
 unfold Builtin.Slice.slicePlaces;have h1:(1:Int) > 0:=by omega
 simp only[h1,if_true,Int.ediv_one];split<;>omega
theorem uL{v:Value}{o:Option Int}{Q:Option Int->Shared->Prop}(p:IsPart v o)(h:Q o s):wpAny (model prog w) A (Builtin.Slice.slicePartIndex v) Q E s:=by
 cases p with
 | none=>exact slicePart_none h
 | int i t=>exact slicePart_int h
theorem i9{sl:Addr}{vl vu:Value}{lo hi:Option Int}{n:Nat}{Q:Int×Int×Nat->Shared->Prop}(hs:s.heap.IsSliceOf sl vl vu .none)(pl:IsPart vl lo)(pu:IsPart vu hi)
  (h:Q (((dY n 0 lo:Nat):Int),1,dY n n hi - dY n 0 lo) s):wpAny (model prog w) A (Builtin.Slice.sliceApplied (.ref sl) (pure (n:Int))) Q E s:=by
 obtain⟨os,hos,hcs,hds⟩:=id hs;unfold Builtin.Slice.sliceApplied Builtin.Slice.sliceFields;refine wpAny_bind (wpAny_bind (wpAny_field hos hds (x:=vl) rfl (wpAny_bind (wpAny_field hos hds (x:=vu) rfl (wpAny_bind (wpAny_field hos hds (x:=.none) rfl (wpAny_pure ?_)))))));refine wpAny_bind (slicePart_none ?_);show wpAny _ _ (if ((1:Int) == 0)=true then _ else _) _ _ s;rw[if_neg (by decide)];refine wpAny_bind (uL pl (wpAny_bind (uL pu (wpAny_bind (wpAny_pure ?_)))));show wpAny _ _ (match Builtin.Slice.sliceAdjust lo hi 1 (n:Int)with | (lo,hi)=>pure (lo,(1:Int),Builtin.Slice.slicePlaces lo hi 1)) _ _ s;rw[BC lo hi n];show wpAny _ _ (pure (((dY n 0 lo:Nat):Int),(1:Int),Builtin.Slice.slicePlaces ((dY n 0 lo:Nat):Int) ((dY n n hi:Nat):Int) 1)) _ _ s;rw[BD];exact wpAny_pure h
theorem Gj(xs:Array Value)(i k:Nat):((List.range k).filterMap λ(m:Nat)=>xs[((i:Int) + (m:Int) * 1).toNat]?).toArray=((xs.toList.drop i).take k).toArray:=by
 have e:(λ(m:Nat)=>xs[((i:Int) + (m:Int) * 1).toNat]?)=λm=>xs[i + m]?:=by
  funext m
  have:((i:Int) + (m:Int) * 1).toNat=i + m:=by omega
  rw[this]
 rw[e];have:=pick_run xs i k;rw[List.filterMap_map]at this;have e2:((λx=>xs[x]?) ∘ λx=>i + x)=λm=>xs[i + m]?:=rfl
 rw[e2]at this;rw[this]
theorem qy{t sl:Addr}{items:Array Value}{vl vu:Value}{lo hi:Option Int}{Q:Value->Shared->Prop}(ht:IsTup s.heap t items)(hs:s.heap.IsSliceOf sl vl vu .none)(pl:IsPart vl lo)(pu:IsPart vu hi)
  (hw:¬ (dY items.size 0 lo=0/\dY items.size items.size hi=items.size))
  (h:Q (.ref s.heap.objs.size) {s with heap:=s.heap.push {cls:=.type "tuple",data:=.seq ((items.toList.drop (dY items.size 0 lo)).take (dY items.size items.size hi - dY items.size 0 lo)).toArray}})
  (hsz:items.size<=sizeLine):wpAny (model prog w) A (getItem (.ref t) (.ref sl)) Q E s:=by
 have htake:sizeOk (.seq ((items.toList.drop (dY items.size 0 lo)).take (dY items.size items.size hi - dY items.size 0 lo)).toArray):=by
  show((items.toList.drop (dY items.size 0 lo)).take (dY items.size items.size hi - dY items.size 0 lo)).toArray.size<=sizeLine;rw[aaV,abR,abS,ack];omega
 have hj:dY items.size items.size hi<=items.size:=O1 _ _ (Nat.le_refl _) hi;obtain⟨os,hos,hcs,hds⟩:=id hs;have hTs:s.TypeIs (.ref sl) "slice":=⟨os,hos,hcs⟩;unfold getItem
 try with_reducible refine abW ?_
 first | refine aaf (aat ?_) | skip
 refine aaf (wpAny_sequenceKey ht.typeIs (by decide) ?_);refine aaf (wpAny_callSpecial?_slot (name:=Str.ofString "__getitem__") ht.typeIs abt
  (wpAny_call_entry abt ht.typeIs entry_tuple_getitem ?_ (args_tuple_getitem _ _)))
 show wpAny _ _ (Builtin.Tuple.tupleItemsOf (.ref t) >>= _) _ _ s;refine aaf (tupleItemsOf_ ht ?_);refine aaf (wpAny_typeOf hTs ?_);rw[aaD (by decide)];refine aaf (i9 hs pl pu ?_)
 have hno:¬ ((((dY items.size 0 lo:Nat):Int) == 0&&(1:Int) == 1&&(dY items.size items.size hi - dY items.size 0 lo) == items.size)=true):=by
  intro q;rw[abU,abU]at q;have q1:((dY items.size 0 lo:Nat):Int)=0:=eq_of_beq q.1.1;have q2:dY items.size items.size hi - dY items.size 0 lo=items.size:=eq_of_beq q.2;exact hw ⟨by omega,by omega⟩
 show wpAny _ _ (if (((dY items.size 0 lo:Nat):Int) == 0&&(1:Int) == 1&&(dY items.size items.size hi - dY items.size 0 lo) == items.size)=true then _ else _) _ _ s;rw[aaF hno,Gj]
 first
  | exact aaf (m:=Builtin.Tuple.tupleExact _) (abE (aat ⟨_,rfl,aat h⟩) htake)
  | exact aaf (m:=Builtin.Tuple.tupleExact _) (abE (aaf (aat (aat ⟨_,rfl,aat h⟩))) htake)
  | exact aaf (aaf (m:=Builtin.Tuple.tupleExact _) (abE (aat (aat ⟨_,rfl,aat h⟩)) htake))
  | exact aaf (aaf (m:=Builtin.Tuple.tupleExact _) (abE (aat ⟨_,rfl,aat h⟩) htake))
end
end HT
namespace L2
open PySem PySem.Spec PyProof.Rows
abbrev TO:=St->Hp->(Option Int->Hp->Prop)->Prop
def PO(X:Cx)(e:Option Expr)(t:TO):Prop :=
 ∀(pins:List (Addr×Obj)) (s:Shared) (σ:St) (H:Hp) (Q:Option Int->Hp->Prop),Inv X pins σ H s->t σ H Q ->
  wpAny (model X.prog X.w) X.A (evalPart e X.env) (λu s'=>∃o H',Inv X pins σ H' s'/\IsPart u o/\Q o H') X.xe s
def Ko:TO:=λ_ H Q=>Q none H
def SM(t:TE):TO:=λσ H Q=>t σ H λx H1=>∃i,x=.int i/\Q (some i) H1
theorem intsAre_of{ns:List Int}:∀{us:List Value},Vals (ns.map V.int) us->IntsAre us ns:=by
 induction ns with
 | nil=>intro us r;rw[ac4]at r;cases r;exact .nil
 | cons n ns ih =>
  intro us r;rw[abn]at r
  cases r with
  | cons r1 r2 =>
   obtain⟨t,e⟩:=r1;subst e;exact .cons n t (ih r2)
section
variable {X:Cx} {e:Expr} {te:TE} {lo hi:Option Expr} {tl th:TO} {pos p2:Pos}
theorem Kp:PO X none Ko:=by
 intro pins s σ H Q I h;rw[evalPart_none];exact aat ⟨none,H,I,.none,h⟩
theorem Kq(h:PE X e te):PO X (some e) (SM te):=by
 intro pins s σ H Q I hw;rw[evalPart_some];refine bU (h pins s σ H _ I hw) λu s1 ⟨x,H1,I1,r1,q1⟩=>?_
 obtain⟨i,rfl,q⟩:=q1;obtain⟨t,rfl⟩:=r1;exact⟨some i,H1,I1,.int i t,q⟩
def JL(X:Cx)(r:V->Option Int->Option Int->Hp->VK->Prop):Prop :=
 ∀(pins:List (Addr×Obj)) (s:Shared) (σ:St) (H:Hp) (x:V) (v vl vu:Value) (lo hi:Option Int) (sl:Addr) (Q:VK),Inv X pins σ H s->RelV x v->s.heap.IsSliceOf sl vl vu .none->IsPart vl lo->IsPart vu hi->r x lo hi H Q ->
  ∃T id,typeLookup (.type T) "__getitem__"=pure (some (.builtin id))/\s.TypeIs v T/\wpAny (model X.prog X.w) X.A (getItem v (.ref sl)) (EP X pins σ Q) X.xe s
def Y0(r:V->Option Int->Option Int->Hp->VK->Prop)(te:TE)(tl th:TO):TE:=λσ H Q=>te σ H λx H1=>tl σ H1 λl H2=>th σ H2 λu H3=>r x l u H3 Q
theorem Gk{r:V->Option Int->Option Int->Hp->VK->Prop}(hr:JL X r)(he:PE X e te)(hl:PO X lo tl)(hu:PO X hi th):PE X (.Subscript e (.Slice lo hi none p2) pos) (Y0 r te tl th):=by
 intro pins s σ H Q I h;refine Subscript_ (bU (he pins s σ H _ I h) λv s1 ⟨x,H1,I1,r1,q1⟩=>?_);refine wpAny_Slice (bU (hl pins s1 σ H1 _ I1 q1) λvl s2 ⟨l,H2,I2,pl,q2⟩=>bU (hu pins s2 σ H2 _ I2 q2) λvu s3 ⟨u,H3,I3,pu,q3⟩=>?_);rw[evalPart_none];refine aat ?_;have I4:Inv X pins σ H3 {s3 with heap:=s3.heap.push {cls:=.type "slice",data:=.fields #[vl,vu,.none]}}:=I3.kept (t':=s3.toks) λb ob q=>aab _ q
 obtain⟨T,id,hT,ht,hg⟩:=hr pins {s3 with heap:=s3.heap.push {cls:=.type "slice",data:=.fields #[vl,vu,.none]}} σ H3 x v vl vu l u s3.heap.objs.size Q I4 r1 (Heap.IsSliceOf.new ..) pl pu q3;show wpAny (model X.prog X.w) X.A (subscriptTail e (.Slice lo hi none p2) v (.ref s3.heap.objs.size)) (EP X pins σ Q) X.xe {s3 with heap:=s3.heap.push {cls:=.type "slice",data:=.fields #[vl,vu,.none]}};exact tail_any (ops:=[.ref s3.heap.objs.size,v]) ht hT hg (by with_unfolding_all rfl)
def uM(xs:List V)(lo hi:Option Int):List V:=(xs.drop (HT.dY xs.length 0 lo)).take (HT.dY xs.length xs.length hi - HT.dY xs.length 0 lo)
theorem sO(xs:List V)(lo hi:Option Int):(uM xs lo hi).length<=xs.length:=by
 unfold uM;rw[List.length_take,List.length_drop];omega
def VJ(K:aH):V->Option Int->Option Int->Hp->VK->Prop:=λx lo hi H Q=>∃a xs,x=.ref a/\dG K H a xs /\
 ¬ (HT.dY xs.length 0 lo=0/\HT.dY xs.length xs.length hi=xs.length)/\∀p,H p=none->Q (.ref p) (upd H p (.tup (uM xs lo hi)))
theorem O2:JL X (VJ X.K):=by
 intro pins s σ H x v vl vu lo hi sl Q I rx hs pl pu h;obtain⟨a,xs,rfl,hx,hw,q⟩:=h;cases rx;obtain⟨its,r,ht,hz⟩:=I.tuple hx;have hlen:its.toArray.size=xs.length:=by rw[aaV];exact r.length.symm
 refine⟨"tuple",_,abt.lookup,ht.typeIs,?_⟩;refine HT.qy ht hs pl pu (by rw[hlen];exact hw) ?_ (by rw[hlen];exact hz);rw[hlen];refine⟨.ref s.heap.objs.size,_,I.laid (t':=s.toks) (o:=.tup (uM xs lo hi)) (λb ob q=>aab _ q) (aaj _) ?_,rfl,q _ (I.hok.fresh (aaj _))⟩;exact⟨aaB (sO xs lo hi) hz,_,(r.drop (HT.dY xs.length 0 lo)).take (HT.dY xs.length xs.length hi - HT.dY xs.length 0 lo),IsTup.new _ _⟩
def SN(K:aH):R2:=λx y H Q=>∃a b xs ys,x=.ref a/\y=.ref b/\dG K H a xs/\dG K H b ys/\xs≠[]/\xs.length + ys.length<=sizeLine /\
 (ys=[]->Q (.ref a) H)/\(ys≠[]->∀p,H p=none->Q (.ref p) (upd H p (.tup (xs++ys))))
theorem Vals.xV{xs:List V}{us:List Value}(r:Vals xs us):us=[]↔xs=[]:=by
 cases r with
 | nil=>simp
 | cons _ _=>simp
theorem Kr:gQ X (binaryOp .Add) (SN X.K):=by
 intro pins s σ H x y v u Q I rx ry h;obtain⟨a,b,xs,ys,rfl,rfl,ha,hb,hx,hz,q1,q2⟩:=h;cases rx;cases ry;obtain⟨its,r1,p1,_⟩:=I.tuple ha;obtain⟨Ec,r2,p2,_⟩:=I.tuple hb;refine HT.Km p1 p2 (λz=>hx (r1.xV.mp z)) (λz=>⟨.ref a,H,I,rfl,q1 (r2.xV.mp z)⟩) (λz=>?_) (by rw[← r1.length,← r2.length];exact hz);refine⟨.ref s.heap.objs.size,_,I.laid (t':=s.toks) (o:=.tup (xs++ys)) (λb ob q=>aab _ q) (aaj _) ?_,rfl,q2 (λw=>z (r2.xV.mpr w)) _ (I.hok.fresh (aaj _))⟩;exact⟨by rw[abd];exact hz,_,r1.append r2,IsTup.new _ _⟩
end
def FC(n:Nat)(i:Int):Option Nat:=if 0<=i then(if i < n then some i.toNat else none)else if -(n:Int)<=i then some (i + n).toNat else none
def sP{α:Type}(xs:List α)(i:Int):Option α:=(FC xs.length i).bind λj=>xs[j]?
theorem CY{n:Nat}{i:Int}{j:Nat}(h:FC n i=some j):seqIndex? i n=some j/\j < n/\-(n:Int)<=i/\i < n:=by
 unfold FC at h;by_cases h0:0<=i
 ·rw[aaD h0]at h;by_cases h1:i < n
  ·rw[aaD h1]at h;have e:i.toNat=j:=aaJ h;exact⟨by rw[seqIndex_of h0 h1,e],by omega,by omega,h1⟩
  ·rw[aaF h1]at h;cases h
 ·rw[aaF h0]at h;by_cases h1:-(n:Int)<=i
  ·rw[aaD h1]at h;have e:(i + n).toNat=j:=aaJ h;exact⟨by rw[seqIndex_neg (by omega) h1,e],by omega,h1,by omega⟩
  ·rw[aaF h1]at h;cases h
theorem xW{α:Type}{xs:List α}{i:Int}{v:α}(h:sP xs i=some v):∃j,seqIndex? i xs.length=some j/\xs[j]?=some v/\j < xs.length/\-(xs.length:Int)<=i/\i < xs.length:=by
 unfold sP at h
 cases e:FC xs.length i with
 | none=>rw[e]at h;cases h
 | some j =>
  rw[e]at h;obtain⟨h1,h2,h3,h4⟩:=CY e;exact⟨j,h1,h,h2,h3,h4⟩
theorem aN{α:Type}{xs:List α}{j:Nat}{v:α}(h:xs[j]?=some v):sP xs (j:Int)=some v:=by
 have hj:j < xs.length:=(bz h).1
 have e:FC xs.length (j:Int)=some j:=by
  unfold FC;rw[if_pos (by omega),if_pos (by omega)];simp
 unfold sP;rw[e];exact h
def xX(b:Expr):Prop:=∀o i,subscripted b false o i=operate [o,i] (getItem o i)
def JM(X:Cx)(r:R2):Prop :=
 ∀(value slice:Expr) (pins:List (Addr×Obj)) (s:Shared) (σ:St) (H:Hp) (x y:V) (v u:Value) (Q:VK),Inv X pins σ H s->RelV x v->RelV y u->r x y H Q ->
  subscripted slice false v u=operate [v,u] (getItem v u)->wpAny (model X.prog X.w) X.A (subscriptTail value slice v u) (EP X pins σ Q) X.xe s
def Y1(X:Cx)(id:String)(r:V->List V->Hp->VK->Prop):Prop :=
 ∀(pins:List (Addr×Obj)) (s:Shared) (σ:St) (H:Hp) (x:V) (xs:List V) (v:Value) (us:List Value) (Q:VK),Inv X pins σ H s->RelV x v->Vals xs us->r x xs H Q ->
  wpAny (model X.prog X.w) X.A (call (.builtin id) (v::us)) (EP X pins σ Q) X.xe s
section
variable {X:Cx} {a b:Expr} {ta tb:TE} {pos:Pos}
theorem JM.or{r r':R2}(h:JM X r)(h':JM X r'):JM X (λx y H Q=>r x y H Q∨r' x y H Q):=by
 intro value slice pins s σ H x y v u Q I rx ry q hs;rcases q with q | q
 ·exact h value slice pins s σ H x y v u Q I rx ry q hs
 ·exact h' value slice pins s σ H x y v u Q I rx ry q hs
theorem cY{r:R2}(hr:JM X r)(ha:PE X a ta)(hb:PE X b tb)(hs:xX b):PE X (.Subscript a b pos) (Sy r ta tb):=by
 intro pins s σ H Q I h;exact Subscript_ (ON ha hb I h λv u s2 x y H2 I2 rx ry q=>hr a b pins s2 σ H2 x y v u Q I2 rx ry q (hs _ _))
inductive SO(K:aH)(x y:V)(H:Hp)(Q:VK):Prop where
 | mk (p:Addr) (xs:List V) (i:Int) (v:V) (e:x=.ref p) (f:y=.int i) (s:dC K H p xs) (a:sP xs i=some v) (q:Q v H):SO K x y H Q
def SQ(K:aH):R2:=λx y H Q=>SO K x y H Q
inductive SR(K:aH)(x y:V)(H:Hp)(Q:VK):Prop where
 | mk (p:Addr) (xs:List V) (i:Int) (v:V) (e:x=.ref p) (f:y=.int i) (s:dG K H p xs) (a:sP xs i=some v) (q:Q v H):SR K x y H Q
def zC(K:aH):R2:=λx y H Q=>SR K x y H Q
def SS:R2:=λx y H Q=>∃z i c,x=.str z/\y=.int i/\z.length<=sizeLine/\sP z.cps.toList i=some c/\Q (.str ⟨#[c]⟩) H
theorem ur:JM X (SQ X.K):=by
 intro value slice pins s σ H x y v u Q I rx ry h hs;obtain⟨p,xs,i,z,rfl,rfl,hq,he,q⟩:=h;cases rx;obtain⟨t,rfl⟩:=ry;obtain⟨its,r,pl,hz⟩:=I.list hq;obtain⟨j,h1,h2,h3,h4,h5⟩:=xW he;obtain⟨w,ew,rw'⟩:=r.get h2;have hl:=r.length;have hn:=rP;have fin:EP X pins σ Q w s:=⟨z,H,I,rw',q⟩;by_cases h0:0<=i
 ·have hj:i.toNat=j:=by
   rw[seqIndex_of h0 h5]at h1;exact aaJ h1
  exact item_listR pl.isList h0 (by omega) (by rw[hj];simpa using ew) fin hs
 ·have hj:(i + (its.toArray.size:Int)).toNat=j:=by
   rw[seqIndex_neg (by omega) h4]at h1;rw[aaV,← hl];exact aaJ h1
  exact ab3 (x:=w) pl.isList.typeIs slot_list_getitem.lookup
   (wpAny_getItem_list_neg (Q:=λr s'=>r=w/\EP X pins σ Q r s') pl.isList (by omega) (by rw[List.size_toArray]<;>omega) (by omega) (by rw[hj];simpa using ew) ⟨rfl,fin⟩) hs
theorem cM:JM X (zC X.K):=by
 intro value slice pins s σ H x y v u Q I rx ry h hs;obtain⟨p,xs,i,z,rfl,rfl,hq,he,q⟩:=h;cases rx;obtain⟨t,rfl⟩:=ry;obtain⟨its,r,pl,hz⟩:=I.tuple hq;obtain⟨j,h1,h2,h3,h4,h5⟩:=xW he;obtain⟨w,ew,rw'⟩:=r.get h2;have hl:=r.length;have hn:=rP;have fin:EP X pins σ Q w s:=⟨z,H,I,rw',q⟩;exact ab3 (x:=w) pl.typeIs slot_tuple_getitem.lookup
  (getItem_tuple (j:=j) (Q:=λr s'=>r=w/\EP X pins σ Q r s') pl (by omega) (by omega) (by rw[List.size_toArray,← hl];exact h1) (by simpa using ew) ⟨rfl,fin⟩) hs
theorem O3:JM X SS:=by
 intro value slice pins s σ H x y v u Q I rx ry h hs;obtain⟨z,i,c,rfl,rfl,hz,he,q⟩:=h;obtain⟨t,rfl⟩:=rx;obtain⟨t',rfl⟩:=ry;obtain⟨j,h1,h2,h3,h4,h5⟩:=xW he;have hl:z.cps.toList.length=z.length:=by simp[Str.length]
 rw[hl]at h1 h4 h5;have hn:=rP
 exact tail_any (typeIs_str s z t) slot_str_getitem.lookup (getItem_str (c:=c) (by
  have e1:decide (i < -(2 ^ 63:Int))=false:=decide_eq_false (by omega);have e2:decide (i ≥ 2 ^ 63)=false:=decide_eq_false (by omega);rw[e1,e2,Bool.or_false]) (by rw[h1];simpa using h2) ⟨.str ⟨#[c]⟩,H,I.tok _,⟨_,rfl⟩,q⟩) hs
def Ym(K:aH):R2:=λx y H Q=>SQ K x y H Q∨zC K x y H Q∨SS x y H Q
theorem Gm:JM X (Ym X.K):=ur.or (cM.or O3)
theorem BE(its:List Value)(n j:Nat)(u:Value):Obj.mapSeq (·.setIfInBounds j u) {cls:=.type "list",data:=.seq its.toArray n}={cls:=.type "list",data:=.seq (its.set j u).toArray n}:=by
 simp[Obj.mapSeq]
theorem Inv.lst{pins:List (Addr×Obj)}{σ:St}{H:Hp}{s:Shared}{p:Addr}{xs:List V}(I:Inv X pins σ H s)(h:H p=some (.lst xs)):
  ∃(its:List Value) (n:Nat),Vals xs its/\s.heap.get? p=some {cls:=.type "list",data:=.seq its.toArray n}/\xs.length<=sizeLine:=by
 obtain⟨z,its,n,r,e⟩:=I.hok p _ h;exact⟨its,n,r,e,z⟩
theorem Inv.O4{pins:List (Addr×Obj)}{σ:St}{H:Hp}{s:Shared}{p:Addr}{xs ys:List V}{its its':List Value}{n n':Nat}{f:Obj->Obj}(I:Inv X pins σ H s)(h:H p=some (.lst xs))
  (ho:s.heap.get? p=some {cls:=.type "list",data:=.seq its.toArray n}) (hf:f {cls:=.type "list",data:=.seq its.toArray n}={cls:=.type "list",data:=.seq its'.toArray n'}) (r:Vals ys its') (hz:ys.length<=sizeLine) (t:Nat) :
  Inv X pins σ (upd H p (.lst ys)) {s with heap:=s.heap.update p f,toks:=t}:=by
 have e:(s.heap.update p f).get? p=some {cls:=.type "list",data:=.seq its'.toArray n'}:=by
  rw[acb f ho (by rw[hf]<;>rfl),hf]
 refine I.write (x:=p) (e:=p) (by rw[h];trivial) (.inl rfl) (λb u hb q=>(ab4 _ _ (acn hb)).trans q) ⟨_,e⟩ ?_;exact⟨hz,its',n',r,e⟩
def Nr:V->V->V->Hp->(Hp->Prop)->Prop:=λo i v H Q=>∃p xs k j,o=.ref p/\i=.int k/\H p=some (.lst xs)/\FC xs.length k=some j/\Q (upd H p (.lst (xs.set j v)))
theorem set_list:Ss X Nr:=by
 intro pins s σ H o i v ov iv u Q I ro ri rv h;obtain⟨p,xs,k,j,rfl,rfl,hp,hj,q⟩:=h;cases ro;obtain⟨t,rfl⟩:=ri;obtain⟨its,n,r,ho,hz⟩:=I.lst hp;obtain⟨h1,h2,h3,h4⟩:=CY hj;have hl:=r.length;have hn:=rP
 have I':Inv X pins σ (upd H p (.lst (xs.set j v))) {s with heap:=s.heap.update p (Obj.mapSeq (·.setIfInBounds j u))} :=
  I.O4 hp ho (BE its n j u) (r.set rv j) (by rw[aaH];exact hz) s.toks
 by_cases h0:0<=k
 ·have hk:k.toNat=j:=by
   rw[seqIndex_of h0 h4]at h1;exact aaJ h1
  exact PySem.W.ki_setAt ho h0 (by omega) (by rw[aaV,← hl];exact h4) (by rw[hk];exact⟨_,I',q⟩)
 ·have hk:(k + (its.toArray.size:Int)).toNat=j:=by
   rw[seqIndex_neg (by omega) h3]at h1;rw[aaV,← hl];exact aaJ h1
  exact PySem.W.ki_setBack ho (by omega) (by rw[aaV,← hl];exact h3) (by omega) (by rw[hk];exact⟨_,I',q⟩)
theorem xY(lo hi:Option Int)(n:Nat):(sliceBounds lo hi none n).1=((HT.dY n 0 lo:Nat):Int)/\(sliceBounds lo hi none n).2.1=((HT.dY n n hi:Nat):Int)/\(sliceBounds lo hi none n).2.2=1:=by
 refine⟨?_,?_,rfl⟩
 ·cases lo with
  | none=>simp[sliceBounds,HT.dY]
  | some i =>
   simp only[sliceBounds,HT.dY,Option.getD_none,show(1:Int) > 0 by decide,if_true];by_cases h:i < 0
   ·simp only[h,if_true]<;>omega
   ·simp only[h,if_false]<;>omega
 ·cases hi with
  | none=>simp[sliceBounds,HT.dY]
  | some i =>
   simp only[sliceBounds,HT.dY,Option.getD_none,show(1:Int) > 0 by decide,if_true];by_cases h:i < 0
   ·simp only[h,if_true]<;>omega
   ·simp only[h,if_false]<;>omega
theorem wb(its:List Value)(lo hi:Option Int):slicePick its.toArray lo hi none=((its.drop (HT.dY its.length 0 lo)).take (HT.dY its.length its.length hi - HT.dY its.length 0 lo)).toArray:=by
 obtain⟨h1,h2,h3⟩:=xY lo hi its.toArray.size;unfold slicePick;rw[h1,h2,h3];simp only[sliceRange_one,pick_run,List.size_toArray]<;>rfl
def SU(K:aH):V->Option Int->Option Int->Hp->VK->Prop:=λx lo hi H Q=>∃a xs,x=.ref a/\dC K H a xs/\∀p,H p=none->Q (.ref p) (upd H p (.lst (uM xs lo hi)))
theorem Ks:JL X (SU X.K):=by
 intro pins s σ H x v vl vu lo hi sl Q I rx hs pl pu h;obtain⟨a,xs,rfl,hx,q⟩:=h;cases rx;obtain⟨its,r,ht,hz⟩:=I.list hx;have hlen:=r.length;refine⟨"list",_,slot_list_getitem.lookup,ht.isList.typeIs,?_⟩;refine wpAny_getItem_list_slice ht.isList hs pl pu .none (by simp) ?_ (by rw[List.size_toArray]<;>omega)
 rw[wb,← hlen];refine⟨.ref s.heap.objs.size,_,I.laid (t':=s.toks) (o:=.lst (uM xs lo hi)) (λb ob q=>aab _ q) (aaj _) ?_,rfl,q _ (I.hok.fresh (aaj _))⟩;exact⟨aaB (sO xs lo hi) hz,_,0,(r.drop (HT.dY xs.length 0 lo)).take (HT.dY xs.length xs.length hi - HT.dY xs.length 0 lo),aaz _ rfl⟩
def oO:V->Bool
 | .non=>true
 | .bl _=>true
 | .int _=>true
 | .str _=>true
 | _=>false
def Kt:V->V->Bool
 | .non,.non=>true
 | .bl a,.bl b=>a == b
 | .bl a,.int b=>(if a then 1 else 0) == b
 | .int a,.bl b=>a == (if b then 1 else 0)
 | .int a,.int b=>a == b
 | .str a,.str b=>a == b
 | _,_=>false
theorem O5{A:Around}{s:Shared}{y x:V}{u v:Value}(ry:RelV y u)(rx:RelV x v)(fy:oO y=true)(fx:oO x=true):SeqAt.EqAt A s u v (Kt y x):=by
 cases y with
 | non =>
  cases ry
  cases x with
  | non=>cases rx;exact SeqAt.EqAt.same _
  | bl b=>cases rx;exact SeqAt.EqAt.none_bool b
  | int b=>obtain⟨t,rfl⟩:=rx;exact SeqAt.EqAt.none_int b t
  | str b=>obtain⟨t,rfl⟩:=rx;exact SeqAt.EqAt.none_str b t
  | _=>exact absurd (show false=true from fx) aai
 | bl a =>
  cases ry
  cases x with
  | non=>cases rx;exact SeqAt.EqAt.bool_none a
  | bl b=>cases rx;exact SeqAt.EqAt.bool_bool a b
  | int b=>obtain⟨t,rfl⟩:=rx;exact SeqAt.EqAt.bool_int a b t
  | str b=>obtain⟨t,rfl⟩:=rx;exact SeqAt.EqAt.bool_str a b t
  | _=>exact absurd (show false=true from fx) aai
 | int a =>
  obtain⟨t',rfl⟩:=ry
  cases x with
  | non=>cases rx;exact SeqAt.EqAt.int_none a t'
  | bl b=>cases rx;exact SeqAt.EqAt.int_bool a t' b
  | int b=>obtain⟨t,rfl⟩:=rx;exact SeqAt.EqAt.int_int a t' b t
  | str b=>obtain⟨t,rfl⟩:=rx;exact SeqAt.EqAt.int_str a t' b t
  | _=>exact absurd (show false=true from fx) aai
 | str a =>
  obtain⟨t',rfl⟩:=ry
  cases x with
  | non=>cases rx;exact SeqAt.EqAt.str_none a t'
  | bl b=>cases rx;exact SeqAt.EqAt.str_bool a t' b
  | int b=>obtain⟨t,rfl⟩:=rx;exact SeqAt.EqAt.str_int a t' b t
  | str b=>obtain⟨t,rfl⟩:=rx;exact SeqAt.EqAt.str_str a t' b t
  | _=>exact absurd (show false=true from fx) aai
 | _=>exact absurd (show false=true from fy) aai
def BG(x:V)(u:Value):Bool:=match u with
 | .none=>Kt .non x
 | .bool b=>Kt (.bl b) x
 | .int i _=>Kt (.int i) x
 | .str z _=>Kt (.str z) x
 | _=>false
theorem Gn{x y:V}{u:Value}(r:RelV y u)(f:oO y=true):BG x u=Kt y x:=by
 cases y with
 | non=>cases r;rfl
 | bl b=>cases r;rfl
 | int i=>obtain⟨t,rfl⟩:=r;rfl
 | str z=>obtain⟨t,rfl⟩:=r;rfl
 | _=>exact absurd (show false=true from f) aai
theorem qz{x:V}:∀{xs:List V} {us:List Value},Vals xs us->xs.all oO=true->us.any (BG x)=xs.any λy=>Kt y x
 | _,_,.nil,_=>rfl
 | y::xs,u::us,.cons r t,f=>by
  rw[List.all_cons,abU]at f;rw[List.any_cons,List.any_cons,Gn r f.1,qz t f.2]
theorem kN{A:Around}{s:Shared}{x:V}{v:Value}(rx:RelV x v)(fx:oO x=true):∀{xs:List V} {us:List Value},Vals xs us->xs.all oO=true->∀u∈us,SeqAt.EqAt A s u v (BG x u)
 | _,_,.nil,_=>λu hu=>by cases hu
 | y::xs,u::us,.cons r t,f=>λu' hu=>by
  rw[List.all_cons,abU]at f;rcases aay.mp hu with rfl | hu
  ·rw[Gn r f.1];exact O5 r rx f.1 fx
  ·exact kN rx fx t f.2 u' hu
def U9(x:V)(xs:List V):Bool:=xs.any λy=>Kt y x
def VL(K:aH)(neg:Bool):R2:=λx y H Q=>∃p xs,y=.ref p/\(dC K H p xs∨dG K H p xs)/\oO x=true/\xs.all oO=true/\Q (.bl (if neg then !U9 x xs else U9 x xs)) H
theorem wX:gQ X (compareOp .In) (VL X.K false):=by
 intro pins s σ H x y v u Q I rx ry h;obtain⟨p,xs,rfl,hq,fx,fs,q⟩:=h;cases ry;rcases hq with hq | hq
 ·obtain⟨its,r,pl,hz⟩:=I.list hq;refine SeqAt.in_listAt (BG x) pl.isList (λw hw=>kN rx fx r fs w (by simpa using hw)) ⟨.bl _,H,I,rfl,?_⟩;rw[show its.toArray.any (BG x)=its.any (BG x)by simp,qz r fs];exact q
 ·obtain⟨its,r,pl,hz⟩:=I.tuple hq;refine SeqAt.in_tupleAt (BG x) pl (λw hw=>kN rx fx r fs w (by simpa using hw)) ⟨.bl _,H,I,rfl,?_⟩;rw[show its.toArray.any (BG x)=its.any (BG x)by simp,qz r fs];exact q
theorem xZ:gQ X (compareOp .NotIn) (VL X.K true):=by
 intro pins s σ H x y v u Q I rx ry h;obtain⟨p,xs,rfl,hq,fx,fs,q⟩:=h;cases ry;rcases hq with hq | hq
 ·obtain⟨its,r,pl,hz⟩:=I.list hq;refine SeqAt.notIn_listAt (BG x) pl.isList (λw hw=>kN rx fx r fs w (by simpa using hw)) ⟨.bl _,H,I,rfl,?_⟩;rw[show its.toArray.any (BG x)=its.any (BG x)by simp,qz r fs];exact q
 ·obtain⟨its,r,pl,hz⟩:=I.tuple hq;refine SeqAt.notIn_tupleAt (BG x) pl (λw hw=>kN rx fx r fs w (by simpa using hw)) ⟨.bl _,H,I,rfl,?_⟩;rw[show its.toArray.any (BG x)=its.any (BG x)by simp,qz r fs];exact q
theorem gp:eh X (.builtin "len") (λxs H Q=>∃p ys,xs=[.ref p]/\(dC X.K H p ys∨dG X.K H p ys)/\Q (.int ys.length) H):=by
 intro pins s σ H xs us Q I r h;obtain⟨p,ys,rfl,hq,q⟩:=h;obtain⟨u,rfl,rx⟩:=vals1 r;cases rx;have hn:=rP;rcases hq with hq | hq
 ·obtain⟨its,r',pl,hz⟩:=I.list hq;have hlen:=r'.length;exact Calls.call_len_list pl.isList (by simp only[List.size_toArray]<;>omega) ⟨.int ys.length,H,I.tok _,⟨s.toks + 1,by rw[List.size_toArray,hlen]⟩,q⟩
 ·obtain⟨its,r',pl,hz⟩:=I.tuple hq;have hlen:=r'.length;exact len_tuple pl (by simp only[List.size_toArray]<;>omega) ⟨.int ys.length,H,I.tok _,⟨s.toks + 1,by rw[List.size_toArray,hlen]⟩,q⟩
theorem x6:eh X (.builtin "len") (λxs H Q=>∃z,xs=[.str z]/\z.length<=sizeLine/\Q (.int z.length) H):=by
 intro pins s σ H xs us Q I r h;obtain⟨z,rfl,hz,q⟩:=h;obtain⟨u,rfl,t,rfl⟩:=vals1 r;have hn:=rP;exact len_str (by omega) ⟨.int z.length,H,I.tok _,⟨_,rfl⟩,q⟩
theorem cw:eh X (.type "list") (λxs H Q=>∃p ys,xs=[.ref p]/\(dC X.K H p ys∨dG X.K H p ys)/\∀l,H l=none->Q (.ref l) (upd H l (.lst ys))):=by
 intro pins s σ H xs us Q I r h;obtain⟨p,ys,rfl,hq,q⟩:=h;obtain⟨u,rfl,rx⟩:=vals1 r;cases rx;have fin:∀(its:List Value),Vals ys its->ys.length<=sizeLine->∀(h':Heap) (c':Nat),(∀b o',s.heap.get? b=some o'->h'.get? b=some o') ->
   h'.get? s.heap.objs.size=some {cls:=.type "list",dict:=none,data:=.seq its.toArray c',slots:=#[]}->EP X pins σ Q (.ref s.heap.objs.size) {s with heap:=h'}:=λits r' hz h' c' kp e =>
  ⟨.ref s.heap.objs.size,_,I.laid (t':=s.toks) kp (aaj _) (show eg X.prog X.w _ h' _ (.lst ys)from ⟨hz,its,c',r',e⟩),rfl,q _ (I.hok.fresh (aaj _))⟩
 rcases hq with hq | hq
 ·obtain⟨its,r',pl,hz⟩:=I.list hq;have hlen:=r'.length;obtain⟨o,ho,hc,n,hd⟩:=pl.isList;exact call_list_seq p (.inl rfl) ho hc hd (λh' c' kp e=>fin its r' hz h' c' kp e) (by simp only[List.size_toArray]<;>omega)
 ·obtain⟨its,r',pl,hz⟩:=I.tuple hq;have hlen:=r'.length;obtain⟨o,ho,hc,n,hd⟩:=pl;exact call_list_seq p (.inr rfl) ho hc hd (λh' c' kp e=>fin its r' hz h' c' kp e) (by simp only[List.size_toArray]<;>omega)
theorem wc:eh X (.type "tuple") (λxs H Q=>∃p ys,xs=[.ref p]/\((dC X.K H p ys/\∀l,H l=none->Q (.ref l) (upd H l (.tup ys)))∨(dG X.K H p ys/\Q (.ref p) H))):=by
 intro pins s σ H xs us Q I r h;obtain⟨p,ys,rfl,h⟩:=h;obtain⟨u,rfl,rx⟩:=vals1 r;cases rx;rcases h with⟨hq,q⟩ | ⟨hq,q⟩
 ·obtain⟨its,r',pl,hz⟩:=I.list hq;have hlen:=r'.length;refine call_tuple_list pl.isList (λh' kp=>?_) (by simp only[List.size_toArray]<;>omega)
  have I1:Inv X pins σ H {s with heap:=h'}:=I.kept (t':=s.toks) kp
  have I2:Inv X pins σ (upd H h'.objs.size (.tup ys)) {s with heap:=h'.push {cls:=.type "tuple",data:=.seq its.toArray}} :=
   I1.laid (t':=s.toks) (λb o e=>aab _ e) (aaj _) (show eg X.prog X.w _ _ _ (.tup ys)from ⟨hz,its,r',IsTup.new _ _⟩)
  exact⟨.ref h'.objs.size,_,I2,rfl,q _ (I1.hok.fresh (aaj _))⟩
 ·obtain⟨its,r',pl,hz⟩:=I.tuple hq;exact call_tuple_same pl ⟨.ref p,H,I,rfl,q⟩
def VM(K:aH)(T:String)(x:V)(H:Hp):Prop:=match x with
 | .str _=>T="str"
 | .int _=>T="int"
 | .ref p=>(T="list"/\∃xs,dC K H p xs)∨(T="tuple"/\∃o,K.lookup p=some o/\o.cls=.type "tuple"/\o.dict=none) ∨
   (T="dict"/\((∃kvs,H p=some (.dK kvs))∨∃kvs,H p=some (.dT kvs)))∨(T="set"/\∃S n,H p=some (.set S n))
 | _=>False
theorem O6{pins:List (Addr×Obj)}{σ:St}{H:Hp}{s:Shared}{T:String}{x:V}{v:Value}(I:Inv X pins σ H s)(r:RelV x v)(ty:VM X.K T x H):
  s.TypeIs v T/\∀a,v=.ref a->∃ob,s.heap.get? a=some ob/\ob.dict=none:=by
 cases x with
 | str z =>
  obtain⟨t,rfl⟩:=r;cases (show T="str" from ty);exact⟨typeIs_str s z t,λ_ e=>nomatch e⟩
 | int i =>
  obtain⟨t,rfl⟩:=r;cases (show T="int" from ty);exact⟨acy s i t,λ_ e=>nomatch e⟩
 | ref p =>
  cases r;rcases ty with⟨rfl,xs,hq⟩ | ⟨rfl,o,hk,hc,hd⟩ | ⟨rfl,hk⟩ | ⟨rfl,S,n,hk⟩
  ·obtain⟨its,_,pl,_⟩:=I.list hq;refine⟨pl.isList.typeIs,λa e=>?_⟩;cases e;obtain⟨o,n,e,c,hd,_⟩:=pl;exact⟨o,e,hd⟩
  ·refine⟨⟨o,I.ql p o hk,hc⟩,λa e=>?_⟩;cases e;exact⟨o,I.ql _ o hk,hd⟩
  ·have z:∃o,s.heap.get? p=some o/\o.ExactDict:=by
    rcases hk with⟨kvs,hk⟩ | ⟨kvs,hk⟩
    ·obtain⟨_,_,_,_,o,_,_,e,ex,_⟩:=I.hok p _ hk;exact⟨o,e,ex⟩
    ·obtain⟨_,_,_,_,o,_,_,e,ex,_⟩:=I.hok p _ hk;exact⟨o,e,ex⟩
   obtain⟨o,e,ex⟩:=z;refine⟨⟨o,e,ex.1⟩,λa e2=>?_⟩;cases e2;exact⟨o,e,ex.2.1⟩
  ·obtain⟨o,_,_,_,e,ex,_⟩:=I.hok p _ hk;refine⟨⟨o,e,ex.1⟩,λa e2=>?_⟩;cases e2;exact⟨o,e,ex.2.1⟩
 | _=>exact False.elim ty
def Y2(K:aH)(T:String)(r:V->List V->Hp->VK->Prop)(to:TE)(t:TA):TE:=λσ H Q=>to σ H λx H1=>VM K T x H1/\t σ H1 λxs H2=>r x xs H2 Q
variable {o e:Expr} {es:List Expr} {to:TE} {t:TA} {name:Str} {apos cpos:Pos} {T id:String} {r:V->List V->Hp->VK->Prop}
theorem SV(pa:PlainAttrs T)(slot:Slot T name id)(hty:typeOf (.builtin id)=pure (.type "method_descriptor"))(hm:Y1 X id r)(ho:PE X o to)(ha:PA X (e::es) t)
  (hbase:attributeBase o name X.env (eval o X.env)=eval o X.env:=by rfl)
  (hfew:((backTo cpos (starEach (e::es) X.env)).all (λx=>!x.1)&&(backToKw cpos (keywordEach [] X.env)).all (λx=>x.1.isSome)
   && decide ((e::es).length + ([]:List Keyword).length + (if ([]:List Keyword).isEmpty then 0 else 1) < 30))=true:=by rfl)
  (hline:(apos.endLine == cpos.line)=true:=by rfl) (hs:starEach (e::es) X.env=(false,eval e X.env)::starEach es X.env:=by rfl) (hplain:(backTo cpos (starEach es X.env)).any (·.1)=false:=by rfl) :
  PE X (.Call (.Attribute o name apos) (e::es) [] cpos) (Y2 X.K T r to t):=by
 intro pins s σ H Q I h;refine wpAny_Call_method_late hbase hfew hline rfl (bU (ho pins s σ H _ I h) λv s1 ⟨x,H1,I1,r1,ty,q1⟩=>?_);obtain⟨h1,h2⟩:=O6 I1 r1 ty;refine⟨T,id,pa,slot,hty,h1,h2,?_⟩;have hA:=ha cpos pins s1 σ H1 _ I1 q1;rw[hs]at hA ⊢;refine Calls.callWith_builtin (by show(false||(backTo cpos (starEach es X.env)).any (·.1))=false;rw[hplain]<;>rfl) (Calls.evalArgs_plain ?_)
 exact bU hA λus s2 ⟨vs,H2,I2,r2,q2⟩=>hm pins s2 σ H2 x vs v us Q I2 r1 r2 q2
end
def Y3(X:Cx)(id:String)(r:V->List V->Hp->VK->Prop):Prop :=
 ∀(pins:List (Addr×Obj)) (s:Shared) (σ:St) (H:Hp) (x:V) (xs:List V) (v:Value) (us:List Value) (Q:VK),Inv X pins σ H s->RelV x v->Vals xs us->r x xs H Q ->
  wpAny (model X.prog X.w) X.A (call (.builtin id) (v::us)) (EP X pins σ Q) X.xe s
theorem Vals.one:∀{x:V} {us:List Value},Vals [x] us->∃u,us=[u]/\RelV x u
 | _,_,.cons r .nil=>⟨_,rfl,r⟩
theorem Vals.rep{xs:List V}{us:List Value}(h:Vals xs us):∀k:Nat,Vals (List.replicate k xs).flatten (List.replicate k us).flatten
 | 0=>.nil
 | k + 1=>by
  rw[aaT,aaT,aa4,aa4];exact Vals.append h (Vals.rep h k)
theorem foldl_rep(its:List Value):∀(k:Nat) (acc:List Value),
  List.foldl (λx1 x2=>x1++x2) acc.toArray (List.replicate k its.toArray)=(acc++(List.replicate k its).flatten).toArray
 | 0,acc=>by simp
 | k + 1,acc=>by
  have e:acc.toArray++its.toArray=(acc++its).toArray:=by simp
  have e2:(acc++its)++(List.replicate k its).flatten=acc++(List.replicate (k + 1) its).flatten:=by
   rw[aaT,aa4,List.append_assoc]
  rw[← e2,← foldl_rep its k (acc++its),← e,aaT,List.foldl_cons]
section
variable {X:Cx} {pins:List (Addr×Obj)} {σ:St} {H:Hp} {s:Shared} {l b:Addr} {xs ys zs:List V}
theorem Inv.VN{its its':List Value}{n:Nat}{f:Array Value->Array Value}{t':Nat}(I:Inv X pins σ H s)(hH:H l=some (.lst xs))
  (e:s.heap.get? l=some {cls:=.type "list",data:=.seq its.toArray n}) (hf:f its.toArray=its'.toArray) (hv:Vals ys its') (hz:ys.length<=sizeLine) :
  Inv X pins σ (upd H l (.lst ys)) {s with heap:=s.heap.update l (Obj.mapSeq f),toks:=t'}:=by
 have q:=PySem.IsL.update e f;rw[hf]at q;refine I.write (x:=l) (e:=l) (by rw[hH];exact trivial) (.inl rfl) (λb' u hb hu=>(ab4 s.heap (Obj.mapSeq f) (acn hb)).trans hu) ⟨_,q⟩ ?_;exact⟨hz,its',_,hv,q⟩
theorem Inv.O7{its:List Value}{t':Nat}(I:Inv X pins σ H s)(hv:Vals ys its)(hz:ys.length<=sizeLine):
  Inv X pins σ (upd H s.heap.objs.size (.lst ys)) {s with heap:=s.heap.push {cls:=.type "list",data:=.seq its.toArray},toks:=t'} :=
 I.laid (λ_ _ q=>aab _ q) (aaj _) ⟨hz,its,0,hv,aaz _ rfl⟩
theorem Inv.fresh(I:Inv X pins σ H s):H s.heap.objs.size=none:=I.hok.fresh (aaj _)
theorem Inv.VO(I:Inv X pins σ H s)(hH:H l=some (.lst xs)):xs.length<=sizeLine/\∃(its:List Value) (n:Nat),Vals xs its/\xs.length=its.length/\s.heap.get? l=some {cls:=.type "list",data:=.seq its.toArray n}:=by
 obtain⟨z,its,n,r,e⟩:=I.hok l _ hH;exact⟨z,its,n,r,r.length,e⟩
theorem Gp{n:Nat}(h:n<=sizeLine):Builtin.List.listTooLong n=false:=by
 unfold Builtin.List.listTooLong;exact decide_eq_false (by omega)
end
section
variable {X:Cx}
def Ku:V->List V->Hp->VK->Prop:=λx vs H Q=>∃l xs y,x=.ref l/\vs=[y]/\H l=some (.lst xs)/\xs.length < sizeLine/\Q .non (upd H l (.lst (xs++[y])))
theorem wY:Y3 X "list.append" Ku:=by
 intro pins s σ H x vs v us Q I rx rv h;obtain⟨l,xs,y,rfl,rfl,hH,hz,q⟩:=h;cases rx;obtain⟨u,rfl,ru⟩:=rv.one;obtain⟨z,its,n,r,hl,e⟩:=I.VO hH;refine call_meets F.slot_list_append ⟨_,e,rfl⟩ F.entry_list_append (F.args_list_append_2 _ _) (PySem.list_append l its.toArray n u (by rw[List.size_toArray];omega)) ⟨e,?_⟩;refine⟨.non,_,I.VN (its':=its++[u]) hH e (by simp) (r.append (.cons ru .nil)) ?_,rfl,q⟩;rw[List.length_append,List.length_singleton];omega
theorem len_rep{α:Type}(xs:List α)(k:Nat):(List.replicate k xs).flatten.length=k * xs.length:=by
 induction k with
 | zero=>simp
 | succ k ih=>rw[aaT,aa4,abd,ih,Nat.succ_mul,Nat.add_comm]
end
section
variable {prog:Program} {w:World} {A:Around} {E:Value->Shared->Prop} {s:Shared}
set_option maxRecDepth 100000 in
end
section
variable {X:Cx}
end
end L2
namespace Att
open PySem PySem.W PySem.Calls PyProof.Rows
theorem ud{P:Params}{h:Heap}:∀(ns:List Int) (vs:List Value),WellAll P h vs (ns.map WData.int)->IntsAre vs ns:=by
 intro ns
 induction ns with
 | nil =>
  intro vs w;rw[ac4]at w;cases w;exact .nil
 | cons n ns ih =>
  intro vs w;rw[abn]at w
  cases w with
  | cons a b =>
   cases a;exact .cons _ _ (ih _ b)
theorem Ed{l:OpenLaw}{n:Nat}(hn:l.most=some n){P:Params}{h:Heap}{args:List WData}{vals:List Value}
  (hpre:l.row.toRowW.claim.pre args=true) (hwl:WellAll P h vals args) :
  ∃a vs ns,vals=[Value.ref a]/\args=[WData.list (ns.map WData.int)]/\h.get? a=some {cls:=.type "list",data:=.seq vs.toArray}/\IntsAre vs ns/\ns.length<=n:=by
 have hsh:WShape.hasAll [] args [.list .int]=true:=(pre_splitW hpre).1;have hc:l.pre.holds [] {args:=args}=true:=(pre_splitW hpre).2;obtain⟨d,r,rfl,h1,h2⟩:=hasAllW_cons hsh;obtain rfl:=hasAllW_nil h2;obtain⟨xs,rfl,h3⟩:=hasW_list h1;obtain⟨ns,rfl⟩:=items_int h3
 have hlen:ns.length<=n:=by
  unfold OpenLaw.pre at hc
  have h4:(WTm.not (.lt (.lit (.int (n:Int))) (.len (.arg 0)))).holds [] {args:=[.list (ns.map .int)]}=true:=by
   have h4:=(holds_andW hc).1;rw[hn]at h4;exact h4
  have h5:=condW_of h4 (w_not (w_lt w_lit (w_len_list (w_arg rfl))));rw[aaa]at h5;refine Nat.le_of_not_lt λq=>?_
  have q':(n:Int) < ((ns.length:Nat):Int):=by omega
  first
   | (rw[aau q']at h5;exact absurd h5 (by decide))
   | (simp at h5;omega)
 cases hwl with
 | cons w1 w2 =>
  cases w2
  cases w1 with
  | list ho hall=>exact⟨_,_,ns,rfl,rfl,ho,ud ns _ hall,hlen⟩
theorem Ee(l:OpenLaw)(args:List WData):l.row.toRowW.claim.post args (.bool true) args=true :=
 postW_of (r:=l.row.toRowW) (X:=(true == true))
  (show WShape.has [] (.bool true) .bool=true by first | rfl | decide | simp[WShape.has,WShape.arms,WShape.armsAll])
  (show(WTm.eq .res (.lit (.bool true))).value [] {args:=args,res:=some (.bool true),after:=args}=some (.bool (true == true))from w_eq_bool (w_res rfl) w_lit) rfl
theorem zD{l:OpenLaw}{n:Nat}{q:Program}{loose:List Str}{XP:(Str->Option Value)->Heap->Prop}{YP:World->Heap->Prop}{d:DefRec}
  (hn:l.most=some n) (hdf:d.params.defaults=[])
  (call:∀(w:World) (s₀ s₁:Shared) (mg mb:Str->Option Value) (fa:Addr) (o:Obj) (pm cd doc:Value) (a:Addr) (vs:List Value) (ns:List Int),
   Ground q loose [] XP w s₀ mg mb s₁.heap->YP w s₁.heap ->
   s₁.heap.get? fa=some o->o.data=.func (docDef d.name d.params d.body d.scope pm cd doc)->s₁.heap.CodeRec cd d.name->mg d.name=some (.ref fa) ->
   s₁.heap.get? a=some {cls:=.type "list",data:=.seq vs.toArray}->IntsAre vs ns->ns.length<=n->s₁.gens=#[] ->
   codeAny (model l.prog w) callerA (.call (.ref fa) ⟨[.ref a],[]⟩) (λr s'=>r=.ok (.ret (.bool true))/\OldK s₁.heap s'.heap/\s'.os=s₁.os/\AllBare s'.gens) s₁) :
  WalkO q loose XP YP l.row.toRowW d [] (λf vs=>PySem.call f vs):=by
 intro w s₀ s₁ mg mb G Y fa o pm cd doc dV kV ho hd hcd hD hmg hg args vals as hpre hlay hrd hwl hlo;obtain rfl:dV=.none:=Dflts.none hD hdf;obtain rfl:kV=.none:=Dflts.noKw hD;obtain⟨a,vs,ns,rfl,rfl,hobj,hints,hlen⟩:=Ed hn hpre hwl;refine enter_call (acE (call w s₀ s₁ mg mb fa o pm cd doc a vs ns G Y ho (fd_plain hd) hcd hmg hobj hints hlen hg) λr s' hq=>?_);obtain⟨rfl,h2,h3,h4⟩:=hq;exact⟨.inl ⟨.bool true,.bool true,[],rfl,λ_=>rfl,.bool true,Ee l _,λ_=>⟨List.Pairwise.nil,λ_ hm=>(nomatch hm)⟩⟩,h2,h3,h4⟩
section
variable {prog:Program} {w:World} {A:Around} {E:Value->Shared->Prop} {s:Shared} {K:Frag}
end
end Att
namespace L2
open PySem PySem.Spec PyProof.Rows
theorem wZ:∀{vs:List Value} {ns:List Int},IntsAre vs ns->Vals (ns.map V.int) vs
 | _,_,.nil=>.nil
 | _,_,.cons n t h=>.cons ⟨t,rfl⟩ (wZ h)
def O8(H:Hp):Prop:=∀b,H b=none∨∃o xs,H b=some (.oY o (.lst xs))
theorem Gq{P:Program}{w:World}{K:aH}{mg mb:Str->Option Value}{CX:CS}{k:Nat}{fa a:Addr}{fd:FuncData}{x:Str}{sp:Sp}{s₁:Shared}{vs:List Value}{ns:List Int}
  (KX:K.In s₁.heap) (hns:s₁.heap.Ns mainGlobals mg) (hb:s₁.heap.Ns builtinsNs mb) (hbb:∀x:Str,x≠"__name__"->mb x=bootBuiltins x) (hlim:s₁.heap.NoLimit) (hg:s₁.gens=#[])
  (ha:s₁.heap.get? a=some {cls:=.type "list",data:=.seq vs.toArray}) (hi:IntsAre vs ns) (hl:ns.length<=sizeLine) (hr:cX k callerA)
  (F:∀base:Heap,K.In base->base.Ns mainGlobals mg->bB P w K mg base CX k fa fd [x] sp) (hbind:∀(s:Shared) (u:Value),BindsTo s fd ⟨[u],[]⟩ [(x,u)])
  (hsp:∀H:Hp,O8 H->dC K H a (ns.map V.int)->sp [.ref a] H (λv _=>v=.bl true) λ_ _ _=>False)
  (hCX:∀H e s',CX [] H s₁ (λ_ _ _=>False) e s'->False) :
  codeAny (model P w) callerA (.call (.ref fa) ⟨[.ref a],[]⟩) (λr s'=>r=.ok (.ret (.bool true))/\OldK s₁.heap s'.heap/\s'.os=s₁.os/\AllBare s'.gens) s₁:=by
 have rv:=wZ hi;have lenV:=hi.length;have core:∀H:Hp,O8 H->dC K H a (ns.map V.int)->qj P w H s₁.heap->(∀b,H b≠none->b=a)->(H a≠none->K.lookup a=none) ->
   codeAny (model P w) callerA (.call (.ref fa) ⟨[.ref a],[]⟩) (λr s'=>r=.ok (.ret (.bool true))/\OldK s₁.heap s'.heap/\s'.os=s₁.os/\AllBare s'.gens) s₁:=by
  intro H hO hS hok hA hK;have base_of:∀{b:Addr} {o:Obj},s₁.heap.get? b=some o->H b=none->(xT s₁.heap H).get? b=some o:=λe n=>FH e n
  have noA:∀{b:Addr} {o:Obj} {es:Array DictEntry} {ep:Nat},s₁.heap.get? b=some o->o.data=.dict es ep->H b=none:=λ{b o es ep} e d=>by
   cases q:H b with
   | none=>rfl
   | some u =>
    have e':b=a:=hA b (by rw[q];simp);subst e';rw[ha]at e;cases e;have d':Data.seq vs.toArray _=Data.dict es ep:=d;cases d'
  have nsK:∀{b:Addr} {m:Str->Option Value},s₁.heap.Ns b m->(xT s₁.heap H).Ns b m:=λ{b m} ⟨o,es,ep,e,d,r⟩=>⟨o,es,ep,base_of e (noA e d),d,r⟩
  have hKb:K.In (xT s₁.heap H):=λb o e=>base_of (KX b o e) (by
   cases q:H b with
   | none=>rfl
   | some u =>
    have e':b=a:=hA b (by rw[q];simp);subst e';rw[hK (by rw[q];simp)]at e;cases e)
  have hM:Mod K mg (xT s₁.heap H):=⟨hKb,nsK hns,⟨mb,nsK hb,hbb⟩,let ⟨mc,h1,h2⟩:=hlim;⟨mc,nsK h1,h2⟩⟩;have e0:BB P w K mg (xT s₁.heap H) callerA [] s₁ H:=⟨rfl,hM,λb o e=>Kc e,Nat.le_of_eq (DY _ _),trivial,λb hb=>absurd (show b∈([]:List Addr)from hb) (by simp),hok,.of_eq hg⟩;refine codeAny_mono ((F _ hKb (nsK hns)).run callerA [] s₁ H ⟨[.ref a],[]⟩ [.ref a] [.ref a] _ _ hr e0 (hbind s₁ (.ref a)) (.cons rfl .nil) (hsp H hO hS)) λr s' h=>?_
  cases r with
  | error e=>exact(hCX H e s' h).elim
  | ok fl =>
   cases fl with
   | next=>exact False.elim h
   | brk=>exact False.elim h
   | cont=>exact False.elim h
   | ret u =>
    obtain⟨v,H',os,bare,un,hok',r',q⟩:=h;have q':v=.bl true:=q;subst q';obtain rfl:u=Value.bool true:=r';refine⟨rfl,OldK.of_keep λb o e=>?_,os,bare⟩
    cases q:H b with
    | none=>exact un.keep b o e q (by intro z;exact absurd (show b∈([]:List Addr)from z) (by simp)) (by simp)
    | some u =>
     rcases hO b with z | ⟨ob,xs,z⟩
     ·rw[q]at z;cases z
     ·have z2:=un.dz b ob _ z;obtain⟨e1,_⟩:=hok b _ z;obtain⟨e2,_⟩:=hok' b _ z2;rw[e]at e1;cases e1;exact e2
 cases hk:K.lookup a with
 | some o =>
  have e:=KX a o hk;rw[ha]at e;cases e;refine core (λ_=>none) (λ_=>.inl rfl) (.inr ⟨_,vs.toArray,_,hk,rfl,rfl,rfl,by rw[List.size_toArray,lenV];exact hl,by simpa using rv⟩) (λb u z=>by have z':(none:Option HO)=some u:=z;cases z') (λb z=>absurd rfl z) λz=>absurd rfl z
 | none =>
  refine core (λb=>if b=a then some (.oY {cls:=.type "list",data:=.seq vs.toArray} (.lst (ns.map V.int)))else none) (λb=>?_) (.inl (.inr ⟨{cls:=.type "list",data:=.seq vs.toArray},aaD rfl⟩)) (λb u z=>?_) (λb z=>?_) λ_=>hk
  ·by_cases hb:b=a
   ·exact .inr ⟨_,_,aaD hb⟩
   ·exact .inl (aaF hb)
  ·by_cases hb:b=a
   ·have z':=(aaD hb).symm.trans z;cases z';subst hb;exact⟨ha,by rw[aaa];exact hl,vs,_,rv,ha⟩
   ·have z':=(aaF hb).symm.trans z;cases z'
  ·by_cases hb:b=a
   ·exact hb
   ·exact absurd (aaF hb) z
theorem Kv{l:PySem.W.OpenLaw}{n k:Nat}{q:Program}{loose:List Str}{XP:(Str->Option Value)->Heap->Prop}{YP:World->Heap->Prop}{d:DefRec}{K:Params->aH}{CX:World->CS}{sp:World->Sp}{x:Str}
  (hn:l.most=some n) (Y4:n<=sizeLine) (hdf:d.params.defaults=[]) (hr:cX k callerA)
  (hY:∀(w:World) (h:Heap),YP w h->(K w.params).In h)
  (F:∀(w:World) (mg:Str->Option Value) (fa:Addr) (h:Heap),(K w.params).In h->h.Ns mainGlobals mg->mg d.name=some (.ref fa) ->
   ∃fd:FuncData,(∀(s:Shared) (u:Value),BindsTo s fd ⟨[u],[]⟩ [(x,u)]) /\
    ∀base:Heap,(K w.params).In base->base.Ns mainGlobals mg->bB l.prog w (K w.params) mg base (CX w) k fa fd [x] (sp w))
  (hsp:∀(w:World) (H:Hp) (a:Addr) (ns:List Int),ns.length<=n->O8 H->dC (K w.params) H a (ns.map V.int)->sp w [.ref a] H (λv _=>v=.bl true) λ_ _ _=>False)
  (hCX:∀(w:World) (H:Hp) (s:Shared) (e:Value) (s':Shared),CX w [] H s (λ_ _ _=>False) e s'->False) :
  PySem.W.WalkO q loose XP YP l.row.toRowW d [] (λf vs=>PySem.call f vs):=by
 refine Att.zD hn hdf λw s₀ s₁ mg mb fa o pm cd doc a vs ns G Y ho hd hcd hmg hobj hints hlen hg=>?_
 have KX:=hY w _ Y;obtain⟨fd,hb,hF⟩:=F w mg fa _ KX G.T.g hmg;exact Gq KX G.T.g G.T.b G.T.builtins G.T.nolimit hg hobj hints (aaB hlen Y4) hr hF hb (λH hO hS=>hsp w H a ns hlen hO hS) λH e s'=>hCX w H s₁ e s'
def dA(s:Stmt):Arguments:=match s with
 | .FunctionDef _ a _ _ _ _ _ _ _ _=>a
 | _=>{posonlyargs:=[],args:=[],vararg:=none,kwonlyargs:=[],kw_defaults:=[],kwarg:=none,defaults:=[]}
def dB(s:Stmt):List Stmt:=match s with
 | .FunctionDef _ _ b _ _ _ _ _ _ _=>b
 | _=>[]
def dS(s:Stmt):Scope:=match s with
 | .FunctionDef _ _ _ _ _ _ sc _ _ _=>sc
 | _=>{kind:=.function,names:=[],isGenerator:=false,isCoroutine:=false}
abbrev bf:CS:=λ_ _ _ _ _ _=>False
abbrev E0:XK:=λ_ _ _=>False
theorem Nt{X:Cx}:Passes bf X E0:=λ_ _ _ _ _ _ _ h=>h.elim
structure gf(K:aH)(x qual:Str)(st:Stmt)(f:Addr)(fd:FuncData):Prop where
 ex:∃(oc:Value) (od:Option Addr) (kV doc pm:Value) (an:Option Addr) (cdv ct:Value) (osl:Array (Option Value)),
  fd=PySem.W.fnOf x qual (dA st) (dB st) (dS st) .none kV doc pm an cdv ct/\K.lookup f=some ⟨oc,od,.func fd,osl⟩/\PySem.W.codeIn K cdv qual=true
 kp:PySem.W.keepIn K (.ref f)=true
section
variable {P:Program} {w:World} {K:aH} {mg:Str->Option Value} {base:Heap}
theorem gf.ok{cm:Bool}{x qual:Str}{st:Stmt}{f:Addr}{fd:FuncData}{N ps:List Str}{k:Nat}{sp:Sp}(F:gf K x qual st f fd)(S:aI N ps (dS st))(len:∀vs H Q E,sp vs H Q E->vs.length=ps.length)
  (hbody:∀(cdv:Value) (A:Around) (outer:List Env) (s:Shared) (H:Hp) (vs:List V) (Q:VK) (E:XK),cX k (A.deeper (envOfC qual (dS st) s.heap.objs.size f cdv)) cm->sp vs H Q E ->
   ∃t,qo (uK bf P w K mg base N qual (dS st) f cdv A outer s H E cm).U7 (dB st) t/\t {nx:=λ_ H'=>Q .non H',rt:=Q} (start N vs) H):bB P w K mg base bf (k + 1) f fd ps sp cm:=by
 obtain⟨oc,od,kV,doc,pm,an,cdv,ct,osl,rfl,lk,hcd⟩:=F.ex;refine Nq lk hcd S len λA outer s H vs Q E hr hsp=>?_
 obtain⟨t,h,q⟩:=hbody cdv A outer s H vs Q E hr hsp;exact⟨t,h.U7,q⟩
theorem gf.binds{x qual:Str}{st:Stmt}{f:Addr}{fd:FuncData}{ps:List Str}(F:gf K x qual st f fd)
  (h:∀(kV doc pm:Value) (an:Option Addr) (cdv ct:Value) (us:List Value),us.length=ps.length->bindArgs (PySem.W.fnOf x qual (dA st) (dB st) (dS st) .none kV doc pm an cdv ct) ⟨us,[]⟩=pure (ps.zip us)):Binds K fd ps []:=by
 obtain⟨oc,od,kV,doc,pm,an,cdv,ct,osl,rfl,lk,hcd⟩:=F.ex;exact .all (h kV doc pm an cdv ct)
theorem x8{x qual:Str}{st:Stmt}{f:Addr}{oc:Value}{od an:Option Addr}{osl:Array (Option Value)}{kV doc pm cdv ct:Value}(l:K.lookup f=some ⟨oc,od,.func (PySem.W.fnOf x qual (dA st) (dB st) (dS st) .none kV doc pm an cdv ct),osl⟩)
  (c:PySem.W.codeIn K cdv qual=true) (k:PySem.W.keepIn K (.ref f)=true):gf K x qual st f (PySem.W.fnOf x qual (dA st) (dB st) (dS st) .none kV doc pm an cdv ct):=⟨⟨oc,od,kV,doc,pm,an,cdv,ct,osl,rfl,l,c⟩,k⟩
end
theorem Gr{A:Around}{k:Nat}(hr:cX k A):A.units + 1 < cLine:=aa0 (Nat.add_le_add_left (by decide:1<=64) _) hr.units
theorem sK{n:Nat}(h:n<=1000):n < sizeLine:=aa0 h (by decide)
section
variable {X:Cx}
theorem pv(i:Nat){x:Str}{pos:Pos}(hN:X.N[i]?=some x:=by rfl)(hv:U6 X.env.scope x:=by first | exact aad rfl | exact abY (aad rfl) | exact abY (abY rfl))(hd:(x == ("__debug__" : Str))=false:=by decide)
  (hcd:(x == ("__classdict__" : Str))=false:=by decide):PE X (.Name x pos) (OD i):=FI hN hv hd hcd
end
theorem dI{A B:Prop}(h:B):if false=true then A else B:=by
 rw[aaF aai];exact h
theorem cT{A B:Prop}(h:A):if true=true then A else B:=by
 rw[aaD rfl];exact h
theorem VP{c A B:Prop}[Decidable c](h1:c->A)(h2:¬ c->B):if c then A else B:=by
 by_cases h:c
 ·rw[aaD h];exact h1 h
 ·rw[aaF h];exact h2 h
def aS(H H':Hp):Prop:=∀b o,H b=some o->H' b=some o
theorem aS.refl(H:Hp):aS H H:=λ_ _ h=>h
theorem aS.trans{H H1 H2:Hp}(a:aS H H1)(b:aS H1 H2):aS H H2:=λc o h=>b c o (a c o h)
theorem aS.free{H H':Hp}(e:aS H H'){l:Addr}(h:H' l=Option.none):H l=Option.none:=by
 cases q:H l with
 | none=>rfl
 | some o =>
  rw[e l o q]at h;cases h
theorem aS.seq{K:aH}{H H':Hp}{a:Addr}{xs:List V}(e:aS H H')(h:dC K H a xs):dC K H' a xs:=by
 rcases h with(h | ⟨o,h⟩) | h
 ·exact .inl (.inl (e _ _ h))
 ·exact .inl (.inr ⟨o,e _ _ h⟩)
 ·exact .inr h
open PySem PySem.Spec
theorem x9:bootBuiltins "len"=some (.builtin "len"):=by decide +kernel
theorem iT:bootBuiltins "isinstance"=some (.builtin "isinstance"):=by decide +kernel
theorem O9:bootBuiltins "max"=some (.builtin "max"):=by decide +kernel
theorem Pa:bootBuiltins "min"=some (.builtin "min"):=by decide +kernel
theorem Pb:bootBuiltins "all"=some (.builtin "all"):=by decide +kernel
theorem Pc:bootBuiltins "sum"=some (.builtin "sum"):=by decide +kernel
theorem Kw:bootBuiltins "repr"=some (.builtin "repr"):=by decide +kernel
theorem Gs:bootBuiltins "int"=some (.type "int"):=by decide +kernel
theorem Kx:bootBuiltins "bool"=some (.type "bool"):=by decide +kernel
theorem jv:bootBuiltins "list"=some (.type "list"):=by decide +kernel
theorem Gu:bootBuiltins "tuple"=some (.type "tuple"):=by decide +kernel
theorem Pd:bootBuiltins "zip"=some (.type "zip"):=by decide +kernel
theorem ya:bootBuiltins "enumerate"=some (.type "enumerate"):=by decide +kernel
theorem Ky:bootBuiltins "dict"=some (.type "dict"):=by decide +kernel
theorem we:bootBuiltins "ValueError"=some (.type "ValueError"):=by decide +kernel
theorem Y5{c A B:Prop}[Decidable c](h:c)(a:A):if decide c=true then A else B:=by rw[aau h];exact cT a
theorem Y6{b:Bool}{A B:Prop}(h:b=true)(a:A):if b=true then A else B:=by rw[h];exact cT a
structure bM(P:Program)(w:World)(K:aH)(mg:Str->Option Value)(base:Heap)(CX:CS)(x:Str)(k:Nat)(ps:List Str)(sp:Sp):Prop where
 ex:∃(f:Addr) (fd:FuncData),bB P w K mg base CX k f fd ps sp/\Binds K fd ps []/\PySem.W.keepIn K (.ref f)=true/\mg x=some (.ref f)
section
variable {X:Cx} {x:Str} {k:Nat} {ps:List Str} {sp:Sp} {e:Expr} {es:List Expr} {t:TA} {p pos:Pos}
theorem ip(h:bM X.prog X.w X.K X.mg X.base bf x k ps sp)(hr:cX k X.A)(hg:Gl X x)(ha:PA X (e::es) t)(hdb:(x == ("__debug__" : Str))=false:=by decide)
  (he:starEach (e::es) X.env=(false,eval e X.env)::starEach es X.env:=by rfl) (hpl:(backTo pos (starEach es X.env)).any (·.1)=false:=by rfl) :
  PE X (.Call (.Name x p) (e::es) [] pos) (zz sp [] E0 t):=by
 obtain⟨f,fd,F,b,kp,m⟩:=h.ex;exact CT F hr hg m kp b .nil Nt ha hdb he hpl
end
theorem aS.tup{K:aH}{H H':Hp}{a:Addr}{xs:List V}(e:aS H H')(h:dG K H a xs):dG K H' a xs:=by
 rcases h with(h | ⟨o,h⟩) | h
 ·exact .inl (.inl (e _ _ h))
 ·exact .inl (.inr ⟨o,e _ _ h⟩)
 ·exact .inr h
inductive aX(K:aH)(H:Hp):V->PyData->Prop
 | non:aX K H .non .none
 | bl (b:Bool):aX K H (.bl b) (.bool b)
 | int (i:Int):aX K H (.int i) (.int i)
 | str (x:Str):aX K H (.str x) (.str x)
 | lst {a:Addr} {xs:List V} {ds:List PyData} (h:dC K H a xs) (hl:xs.length=ds.length) (hi:∀(i:Nat) (x:V) (d:PyData),xs[i]?=some x->ds[i]?=some d->aX K H x d):aX K H (.ref a) (.list ds)
 | tup {a:Addr} {xs:List V} {ds:List PyData} (h:dG K H a xs) (hl:xs.length=ds.length) (hi:∀(i:Nat) (x:V) (d:PyData),xs[i]?=some x->ds[i]?=some d->aX K H x d):aX K H (.ref a) (.tuple ds)
def bV(K:aH)(H:Hp)(xs:List V)(ds:List PyData):Prop:=xs.length=ds.length/\∀(i:Nat) (x:V) (d:PyData),xs[i]?=some x->ds[i]?=some d->aX K H x d
theorem bV.nil{K:aH}{H:Hp}:bV K H [] []:=⟨rfl,λi x d h=>by simp at h⟩
theorem bV.cons{K:aH}{H:Hp}{x:V}{d:PyData}{xs:List V}{ds:List PyData}(h:aX K H x d)(r:bV K H xs ds):bV K H (x::xs) (d::ds) :=
 ⟨by simp[r.1],λi y e h1 h2=>by
  cases i with
  | zero=>simp at h1 h2;subst h1;subst h2;exact h
  | succ i=>exact r.2 i y e (by simpa using h1) (by simpa using h2)⟩
theorem aX.Pe{K:aH}{H:Hp}{a:Addr}{xs:List V}{ds:List PyData}(h:dC K H a xs)(r:bV K H xs ds):aX K H (.ref a) (.list ds):=.lst h r.1 r.2
theorem aX.wg{K:aH}{H:Hp}{a:Addr}{xs:List V}{ds:List PyData}(h:dG K H a xs)(r:bV K H xs ds):aX K H (.ref a) (.tuple ds):=.tup h r.1 r.2
theorem aX.same{K:aH}{H H':Hp}(e:aS H H'){v:V}{d:PyData}(h:aX K H v d):aX K H' v d:=by
 induction h with
 | non=>exact .non
 | bl b=>exact .bl b
 | int i=>exact .int i
 | str x=>exact .str x
 | lst h hl hi ih=>exact .lst (e.seq h) hl ih
 | tup h hl hi ih=>exact .tup (e.tup h) hl ih
theorem bV.same{K:aH}{H H':Hp}(e:aS H H'){xs:List V}{ds:List PyData}(h:bV K H xs ds):bV K H' xs ds:=⟨h.1,λi x d h1 h2=>(h.2 i x d h1 h2).same e⟩
theorem kO{h:Heap}:∀{xs:List V} {us:List Value} {ds:List PyData},Vals xs us->xs.length=ds.length->(∀(i:Nat) (x:V) (d:PyData) (u:Value),xs[i]?=some x->ds[i]?=some d->RelV x u->∃as,Reads h u d as)->∃as,ReadsAll h us ds as
 | [],_,[],.nil,_,_=>⟨[],.nil⟩
 | [],_,_::_,_,hl,_=>nomatch hl
 | _::_,_,[],_,hl,_=>nomatch hl
 | x::xs,u::us,d::ds,.cons r t,hl,hi=>by
  obtain⟨as,ha⟩:=hi 0 x d u rfl rfl r;obtain⟨bs,hb⟩:=kO t (by simpa using hl) λi y e w h1 h2=>hi (i + 1) y e w (by simpa using h1) (by simpa using h2)
  exact⟨as++bs,.cons ha hb⟩
section
variable {X:Cx} {pins:List (Addr×Obj)} {σ:St} {H:Hp} {s:Shared}
theorem aX.reads(I:Inv X pins σ H s){v:V}{d:PyData}(h:aX X.K H v d):∀{u:Value},RelV v u->∃as,Reads s.heap u d as:=by
 induction h with
 | non=>intro u r;cases r;exact⟨_,.none⟩
 | bl b=>intro u r;cases r;exact⟨_,.bool b⟩
 | int i=>intro u r;obtain⟨t,rfl⟩:=r;exact⟨_,.int i t⟩
 | str x=>intro u r;obtain⟨t,rfl⟩:=r;exact⟨_,.str x t⟩
 | lst h hl hi ih =>
  intro u r;cases r;obtain⟨its,rv,⟨o,n,e,c,_,d⟩,hz⟩:=I.list h;obtain⟨as,ha⟩:=kO (h:=s.heap) rv hl λi x d u h1 h2 r=>ih i x d h1 h2 r
  exact⟨_,.list e c d ha⟩
 | tup h hl hi ih =>
  intro u r;cases r;obtain⟨its,rv,⟨o,e,c,n,d⟩,hz⟩:=I.tuple h;obtain⟨as,ha⟩:=kO (h:=s.heap) rv hl λi x d u h1 h2 r=>ih i x d h1 h2 r
  exact⟨_,.tuple e c d ha⟩
end
section
variable {X:Cx}
def SW(K:aH):R2:=λx y H Q=>∃d d',aX K H x d/\aX K H y d'/\PySem.SeqAt.shaped d=true/\PySem.SeqAt.shaped d'=true/\Q (.bl (PyData.eqv d d')) H
def SX(K:aH):R2:=λx y H Q=>∃d d',aX K H x d/\aX K H y d'/\PySem.SeqAt.shaped d=true/\PySem.SeqAt.shaped d'=true/\Q (.bl (!PyData.eqv d d')) H
theorem Gv(hu:X.A.units + 64 < cLine):gQ X (compareOp .Eq) (SW X.K):=by
 intro pins s σ H x y v u Q I rx ry h;obtain⟨d,d',h1,h2,s1,s2,q⟩:=h;obtain⟨as,r1⟩:=h1.reads I rx;obtain⟨bs,r2⟩:=h2.reads I ry;exact eq_dataH r1 r2 s1 s2 hu ⟨.bl _,H,I,rfl,q⟩
theorem Pf(hu:X.A.units + 64 < cLine):gQ X (compareOp .NotEq) (SX X.K):=by
 intro pins s σ H x y v u Q I rx ry h;obtain⟨d,d',h1,h2,s1,s2,q⟩:=h;obtain⟨as,r1⟩:=h1.reads I rx;obtain⟨bs,r2⟩:=h2.reads I ry;exact ne_dataH r1 r2 s1 s2 hu ⟨.bl _,H,I,rfl,q⟩
def SY(a:Addr):Heap->Prop:=λh=>∃o,h.get? a=some o/\o.cls=.type "dict"
inductive Kz(K:aH)(H:Hp):V->String->Prop
 | non:Kz K H .non "NoneType"
 | bl (b:Bool):Kz K H (.bl b) "bool"
 | int (i:Int):Kz K H (.int i) "int"
 | str (x:Str):Kz K H (.str x) "str"
 | lst {a:Addr} {xs:List V} (h:dC K H a xs):Kz K H (.ref a) "list"
 | tup {a:Addr} {xs:List V} (h:dG K H a xs):Kz K H (.ref a) "tuple"
 | dct {a:Addr} (h:H a=some (.ext (SY a))):Kz K H (.ref a) "dict"
def VQ(K:aH):List V->Hp->VK->Prop:=λvs H Q=>∃x n t b,vs=[x,.ty n]/\Kz K H x t/\PySem.W.kitOne K (.type t) (.type n)=some b/\Q (.bl b) H
theorem Gw:eh X (.builtin "isinstance") (VQ X.K):=by
 intro pins s σ H xs us Q I r h;obtain⟨x,n,t,b,rfl,ty,e,q⟩:=h;obtain⟨u,w',rfl,rx,rw'⟩:=vals2 r;cases rw';have fin:∀tk,EP X pins σ Q (.bool b) {s with toks:=tk}:=λtk=>⟨.bl b,H,I.tok tk,rfl,q⟩
 cases ty with
 | non=>cases rx;exact abg PySem.W.kitx_none I.ql abx e (λz=>nomatch z) fin
 | bl y=>cases rx;exact abg PySem.W.kitx_bool I.ql abx e (λz=>nomatch z) fin
 | int i=>obtain⟨t,rfl⟩:=rx;exact abg PySem.W.kitx_int I.ql abx e (λz=>nomatch z) fin
 | str y=>obtain⟨t,rfl⟩:=rx;exact abg PySem.W.kitx_str I.ql abx e (λz=>nomatch z) fin
 | lst h =>
  cases rx;obtain⟨its,rv,⟨o,n,e1,c,_,d⟩,hz⟩:=I.list h;exact abg PySem.W.kitx_list I.ql ⟨o,e1,c⟩ e (λz=>nomatch z) fin
 | dct h =>
  cases rx;obtain⟨⟨o,e1,c⟩,_⟩:=I.hok _ _ h;exact abg PySem.W.kitx_dict I.ql ⟨o,e1,c⟩ e (λz=>nomatch z) fin
 | tup h =>
  cases rx;obtain⟨its,rv,⟨o,e1,c,n,d⟩,hz⟩:=I.tuple h;exact abg PySem.W.kitx_tuple I.ql ⟨o,e1,c⟩ e (λz=>nomatch z) fin
def uu(K:aH):List V->Hp->VK->Prop:=λxs H Q=>∃p ys,xs=[.ref p]/\(dC K H p ys∨dG K H p ys)/\∀l,H l=none->Q (.ref l) (upd H l (.lst ys))
def Gx(i j:Int):Prop:=(-340282366920938463463374607431768211456 < i/\i < 340282366920938463463374607431768211456)/\(-340282366920938463463374607431768211456 < j/\j < 340282366920938463463374607431768211456)
theorem Gx.ok{i j:Int}(h:Gx i j):IntMulOk i j:=by
 have e:(2:Nat) ^ 128=340282366920938463463374607431768211456:=by decide
 obtain⟨⟨h1,h2⟩,h3,h4⟩:=h;have a:i.natAbs < 2 ^ 128:=by rw[e];omega
 have b:j.natAbs < 2 ^ 128:=by rw[e];omega
 exact IntMulOk.of_bits (aaB (acM a) (by decide)) (aaB (acM b) (by decide))
end
def ue(cells:List (Str×Addr)):List (Str×NameKind)->List (Str×Addr)->List (Str×Addr)
 | [],cs=>cs
 | (n,k)::r,cs=>ue cells r (if k == .free then(match cells.lookup n with | some c=>(n,c)::cs | none=>cs)else cs)
theorem zE{cells:List (Str×Addr)}:∀(names:List (Str×NameKind)) (cs:List (Str×Addr)),(∀x c,cs.lookup x=some c->cells.lookup x=some c)->∀x c,(ue cells names cs).lookup x=some c->cells.lookup x=some c
 | [],_,h=>h
 | (n,k)::r,cs,h=>by
  refine zE r _ λx c e=>?_
  split at e
  ·split at e
   ·rename_i c' hc;rw[acH]at e;by_cases z:(x == n)=true
    ·rw[z]at e;have z':x=n:=by simpa using z
     rw[z'];exact hc.trans e
    ·rw[ab7]at z;rw[z]at e;exact h x c e
   ·exact h x c e
  ·exact h x c e
theorem w4{cells:List (Str×Addr)}{x:Str}{c:Addr}(hx:cells.lookup x=some c):∀(names:List (Str×NameKind)) (cs:List (Str×Addr)),cs.lookup x=some c->(ue cells names cs).lookup x=some c
 | [],_,h=>h
 | (n,k)::r,cs,h=>by
  refine w4 hx r _ ?_;split
  ·split
   ·rename_i c' hc;rw[acH];by_cases z:(x == n)=true
    ·rw[z];have z':x=n:=by simpa using z
     rw[z']at hx;exact hc.symm.trans hx
    ·rw[ab7]at z;rw[z];exact h
   ·exact h
  ·exact h
theorem uO{cells:List (Str×Addr)}{x:Str}{c:Addr}(hx:cells.lookup x=some c):∀(names:List (Str×NameKind)) (cs:List (Str×Addr)),(x,NameKind.free)∈names->(ue cells names cs).lookup x=some c
 | [],_,h=>nomatch h
 | (n,k)::r,cs,h=>by
  rcases aay.mp h with e | h
  ·cases e;refine w4 hx r _ ?_;simp[hx,List.lookup_cons]
  ·exact uO hx r _ h
theorem oP{env:Env}{scope:Scope}(h:∀y∈scope.names,y.2=NameKind.free->∃c,env.cells.lookup y.1=some c):closureFor scope env=pure (ue env.cells scope.names []):=by
 have go:∀(names:List (Str×NameKind)) (cs:List (Str×Addr)),(∀y∈names,y.2=NameKind.free->∃c,env.cells.lookup y.1=some c) ->
   (forIn names cs λx (r:List (Str×Addr))=>if (x.2 == NameKind.free)=true then do let c ← cellOf env x.1;pure (ForInStep.yield ((x.1,c)::r))else pure (ForInStep.yield r):Sem (List (Str×Addr)))=pure (ue env.cells names cs):=by
  intro names
  induction names with
  | nil=>intro cs _;rfl
  | cons y r ih =>
   intro cs hy;obtain⟨n,k⟩:=y;rw[List.forIn_cons];by_cases hk:k=NameKind.free
   ·subst hk;obtain⟨c,hc⟩:=hy _ List.mem_cons_self rfl;have hc':env.cells.lookup n=some c:=hc;have hcell:cellOf env n=pure c:=by simp only[cellOf,hc']
    simp only[hcell,beq_self_eq_true,if_true,pure_bind];rw[ih _ λy hm=>hy y (List.mem_cons_of_mem _ hm)];simp only[ue,beq_self_eq_true,if_true,hc']
   ·have hb:(k == NameKind.free)=false:=by simpa using hk
    simp only[hb,Bool.false_eq_true,if_false,pure_bind];rw[ih _ λy hm=>hy y (List.mem_cons_of_mem _ hm)];simp only[ue,hb,Bool.false_eq_true,if_false]
 have e:=go scope.names [] h;unfold closureFor;simp only[bind_pure]at e ⊢;exact e
theorem uP{scope:Scope}{env:Env}(x:Str):(relabel scope env).names.lookup x=(scope.names.lookup x).map λk=>if (k == NameKind.free&&env.scope.kind == .function&&env.kindOf x == some .cell)=true then .cell else k:=by
 show(scope.names.map λ(n,k)=>if (k == NameKind.free&&env.scope.kind == .function&&env.kindOf n == some .cell)=true then(n,NameKind.cell)else(n,k)).lookup x=_
 induction scope.names with
 | nil=>rfl
 | cons y r ih =>
  obtain⟨n,k⟩:=y;rw[abn];by_cases z:(x == n)=true
  ·have z':x=n:=by simpa using z
   subst z';by_cases hc:(k == NameKind.free&&env.scope.kind == .function&&env.kindOf x == some .cell)=true
   ·simp only[hc,if_true,List.lookup_cons,beq_self_eq_true,Option.map_some]
   ·simp only[hc,if_false,List.lookup_cons,beq_self_eq_true,Option.map_some,Bool.false_eq_true]
  ·rw[ab7]at z;by_cases hc:(k == NameKind.free&&env.scope.kind == .function&&env.kindOf n == some .cell)=true
   ·simp only[hc,if_true,List.lookup_cons,z];exact ih
   ·simp only[hc,if_false,List.lookup_cons,z,Bool.false_eq_true];exact ih
theorem eA{α β:Type}[BEq α][LawfulBEq α]{x:α}{b:β}:∀{l:List (α×β)},l.lookup x=some b->(x,b)∈l
 | [],h=>by simp at h
 | (n,k)::r,h=>by
  rw[acH]at h;by_cases z:(x == n)=true
  ·rw[z]at h;have z':x=n:=by simpa using z
   cases h;rw[z'];exact aaC
  ·rw[ab7]at z;rw[z]at h;exact aaL _ (eA h)
def Cx.oG(X:Cx)(N:List Str)(scope:Scope)(C:Addr)(ex:List Addr)(s:Shared)(H:Hp):Cx where
 prog:=X.prog
 w:=X.w
 K:=X.K
 mg:=X.mg
 base:=X.base
 A:=X.A
 N:=N
 s₀:=s
 H₀:=H
 env:=compEnvC scope (ue X.env.cells scope.names []) C X.env
 outer:=X.stack
 stack:=X.stack
 ex:=ex
 fn:=λ_=>false
 calm:=X.calm
 pn:=[]
 xe:=λ_ _=>False
structure oQ(X:Cx)(own:Nat)(N:List Str)(ix:List Nat)(scope:Scope):Prop where
 kind:scope.kind=.function
 calm:X.calm=true
 free:scope.names.all (λy=>y.2 != .free||X.env.kindOf y.1 == some .cell)=true
 cell:scope.names.all (λy=>y.2 != .cell)=true
 loc:scope.names.all (λy=>y.2 != .local||scope.names.lookup y.1 == some .local)=true
 ixs:(ix.map λi=>X.N[i]?)=(N.drop own).map some
 fr:(N.drop own).all (λx=>scope.names.lookup x == some .free)=true
 len:N.length=own + ix.length
def eJ(own:Nat)(ix:List Nat)(σ:St):St:=List.replicate own none++ix.map λi=>(σ[i]?).getD none
theorem BH(own:Nat)(ix:List Nat)(σ:St):(eJ own ix σ).drop own=ix.map λi=>(σ[i]?).getD none:=by
 unfold eJ;rw[List.drop_left' (by simp)]
theorem w6{own:Nat}{ix:List Nat}{σ:St}{j:Nat}{v:V}(h:(eJ own ix σ)[j]?=some (some v)):∃i,own<=j/\ix[j - own]?=some i/\σ[i]?=some (some v):=by
 unfold eJ at h;by_cases hj:j < own
 ·rw[List.getElem?_append_left (by simpa using hj)]at h;rw[List.getElem?_replicate]at h;simp[hj]at h
 ·rw[List.getElem?_append_right (by simpa using hj)]at h;rw[List.length_replicate,List.getElem?_map]at h
  cases e:ix[j - own]? with
  | none=>rw[e]at h;simp at h
  | some i =>
   rw[e]at h;refine⟨i,by omega,rfl,?_⟩;have h':(σ[i]?).getD none=some v:=by simpa using h
   cases q:σ[i]? with
   | none=>rw[q]at h';simp at h'
   | some o=>rw[q]at h';simp at h';rw[h']
theorem BI{own:Nat}{ix:List Nat}{σ σ2:St}(hd:σ2.drop own=ix.map λi=>(σ[i]?).getD none):∀(j:Nat) v,(eJ own ix σ)[j]?=some (some v)->σ2[j]?=some (some v):=λj v h=>by
 by_cases hj:j < own
 ·obtain⟨i,h1,_⟩:=w6 h;omega
 ·have e:(eJ own ix σ)[j]?=((eJ own ix σ).drop own)[j - own]?:=by rw[aby];congr 1;omega
  have e2:σ2[j]?=(σ2.drop own)[j - own]?:=by rw[aby];congr 1;omega
  rw[e,BH,← hd,← e2]at h;exact h
section
variable {X:Cx} {pins:List (Addr×Obj)} {σ:St} {H:Hp} {s:Shared} {own:Nat} {N:List Str} {ix:List Nat} {scope:Scope}
theorem oQ.has(B:oQ X own N ix scope)(I:Inv X pins σ H s):∀y∈scope.names,y.2=NameKind.free->X.env.kindOf y.1=some .cell/\∃c,X.env.cells.lookup y.1=some c:=λy hy e=>by
 have z:=List.all_eq_true.mp B.free y hy;rw[e]at z;have z':X.env.kindOf y.1=some .cell:=by simpa using z
 exact⟨z',I.ok.has y.1 (.inl z')⟩
theorem Ef{C:Addr}{ex:List Addr}{h':Heap}{tk:Nat}(B:oQ X own N ix scope)(I:Inv X pins σ H s)(hC:C=s.heap.objs.size)(hx:∀b∈ex,qu X pins H b)(hlt:∀b∈ex,b < s.heap.objs.size)
  (hn:h'.Ns C (λ_=>none)) (hk:∀b o,s.heap.get? b=some o->h'.get? b=some o):Inv (X.oG N scope C ex s H) [] (eJ own ix σ) H {s with heap:=h',toks:=tk}:=by
 have sub:∀x c,(ue X.env.cells scope.names []).lookup x=some c->X.env.cells.lookup x=some c:=zE scope.names [] λx c e=>by simp at e
 have nb:∀b o,X.base.get? b=some o->b∉ex:=λb o e hb=>by
  rcases (hx b hb).2.2.2.1 with z | z
  ·exact I.ok.noex b o e z
  ·exact absurd (aap (aal e) (aaB I.ok.bsz z)) (aa8 _)
 have nstk:∀b∈ex,b∉qk X.stack:=λb hb z=>by
  rcases aay.mp (I.Br b z)with e | e
  ·exact(hx b hb).2.1 e
  ·exact(hx b hb).2.2.1 e
 refine⟨⟨I.ok.mod,B.kind,I.ok.glob,I.ok.blt,?_,λx y c e1 e2=>I.ok.inj x y c (sub x c e1) (sub y c e2),λx hk'=>?_,(λ_ _ z=>absurd (show false=true from z) (by decide)),I.ok.hd,I.ok.frames,.inl rfl,λb hb=>⟨?_,λx c e=>(hx b hb).2.2.2.2.1 x c (sub x c e)⟩,
  λb o e=>I.bs b o e,aaB I.ok.bsz I.sz,nb,nstk,I.stack,I.uq⟩,rfl,I.bare,Un.kept hk,⟨_,hn,λj x v e1 e2 e3=>?_⟩,λx c e=>?_,?_,λx c e=>I.freeC x c (sub x c e),(λp hp=>nomatch hp),I.hok.kept hk,?_⟩
 ·show s.heap.objs.size<=C;exact ace hC.symm
 ·have hk'':(relabel scope X.env).names.lookup x=some .cell∨(relabel scope X.env).names.lookup x=some .free:=hk';rw[uP]at hk''
  have hf:scope.names.lookup x=some .free:=by
   cases q:scope.names.lookup x with
   | none=>rw[q]at hk'';rcases hk'' with z | z<;>cases z
   | some k =>
    rw[q]at hk'';by_cases hkf:k=.free
    ·rw[hkf]
    ·exfalso
     have hb:(k == NameKind.free)=false:=by simpa using hkf
     have hm:=List.all_eq_true.mp B.cell (x,k) (eA q);simp only[Option.map_some,hb,Bool.false_and,Bool.false_eq_true,if_false]at hk'';rcases hk'' with z | z
     ·rw[Option.some.inj z]at hm;exact absurd hm (by simp)
     ·exact hkf (aaJ z)
  obtain⟨_,c,hc⟩:=B.has I (x,.free) (eA hf) rfl;exact⟨c,uO hc scope.names [] (eA hf)⟩
 ·show b≠C;rw[hC];exact aav (hlt b hb)
 ·obtain⟨i,h1,h2,h3⟩:=w6 e2;have hN:N[j]?=some x:=e1
  have hxN:X.N[i]?=some x:=by
   have e:(ix.map λi=>X.N[i]?)[j - own]?=((N.drop own).map some)[j - own]?:=by rw[B.ixs]
   rw[aaR,h2,aaR,aby]at e;have hj:own + (j - own)=j:=by omega
   rw[hj,hN]at e;simpa using e
  have hfr:scope.names.lookup x=some .free:=by
   have hm:x∈N.drop own:=by
    refine aan (i:=j - own) ?_;rw[aby,show own + (j - own)=j by omega];exact hN
   have:=List.all_eq_true.mp B.fr x hm;simpa using this
  obtain⟨hkc,c,hc⟩:=B.has I (x,.free) (eA hfr) rfl;obtain⟨m,hm,hl⟩:=I.loc;obtain⟨u,r,l⟩:=hl i x v hxN h3 (.inr (.inl hkc));refine⟨u,r,?_⟩;rcases l with⟨z,_⟩ | ⟨_,c',hc',hz⟩
  ·have z':X.env.kindOf x=some .local:=z;have hkc':X.env.kindOf x=some .cell:=hkc;rw[hkc']at z';cases z'
  ·rw[hc]at hc';cases hc';refine .inr ⟨.inl ?_,c,uO hc scope.names [] (eA hfr),?_⟩
   ·show(relabel scope X.env).names.lookup x=some .cell;rw[uP,hfr];have hkc':X.env.kindOf x=some .cell:=hkc;have hkf:X.env.scope.kind=.function:=I.ok.kind;simp[hkc',hkf]
   ·obtain⟨o,ho,hd⟩:=hz;exact⟨o,hk _ _ ho,hd⟩
 ·obtain⟨v,o,ho,hd⟩:=I.cell x c (sub x c e);exact⟨v,o,hk _ _ ho,hd⟩
 ·show H C=none;exact I.hok.fresh (ace hC.symm)
 ·show(eJ own ix σ).length=N.length;rw[B.len];simp[eJ]
theorem KA{C:Addr}{ex:List Addr}{σ':St}{H':Hp}{s':Shared}(I:Inv X pins σ H s)(hx:∀b∈ex,qu X pins H b)(I':Inv (X.oG N scope C ex s H) [] σ' H' s'):Inv X pins σ H' s' :=
 I.Nk (ch:=ex) I'.os I'.base I'.hok I'.bare λb hb=>⟨(hx b hb).2.2.2.1,(hx b hb).2.1,(hx b hb).2.2.2.2.1,(hx b hb).2.2.2.2.2⟩
def S0(X:Cx)(ifs:List Expr)(tt:TT):Prop:=∀(pins:List (Addr×Obj)) (s:Shared) (σ:St) (H:Hp) (Q:Bool->Hp->Prop),Inv X pins σ H s->tt σ H Q ->
 wpAny (model X.prog X.w) X.A (forIn ifs true λc r=>if r=true then do let ok ← isTrue c X.env (eval c X.env);pure (ForInStep.yield ok)else pure (ForInStep.yield r)) (TP X pins σ Q) X.xe s
def VR:TT:=λ_ H Q=>Q true H
theorem yb{X:Cx}:S0 X [] VR:=λ_ _ _ H _ I h=>wpAny_tests_nil ⟨H,I,h⟩
def VS(J:It)(own:Nat)(ix:List Nat)(σ:St)(g:TG)(tt:TT)(te:TE)(D:Addr)(H1:Hp)(Q:VK):Prop:=∃W:Nat->Nat->List V->Hp->Prop,
 (∃m,W 0 m [] (upd H1 D (.lst [])))/\∀i m ys H2,W i m ys H2->H2 D=some (.lst ys)/\((J.stop i H2/\Q (.ref D) H2)∨(J.go i H2/\ys.length < sizeLine/\∃Nx:List V->Hp->Prop,(∀ys' H',Nx ys' H'->∃m',m' < m/\W (i + 1) m' ys' H')/\∀x H3,J.yld i H2 x H3 ->
  g x (eJ own ix σ) H3 λσ2 H4=>σ2.drop own=(ix.map λi=>(σ[i]?).getD none)/\tt σ2 H4 λb H5=>if b=true then te σ2 H5 λv H6=>H6 D=some (.lst ys)/\Nx (ys++[v]) (upd H6 D (.lst (ys++[v])))else Nx ys H5))
def Va(own:Nat)(ix:List Nat)(wi:TI)(g:TG)(tt:TT)(te:TE):TE:=λσ H Q=>wi σ H λJ H1=>∀D,H1 D=none->VS J own ix σ g tt te D H1 Q
theorem zF{prog:Program}{w:World}{A:Around}{R:Result->Shared->Prop}{s:Shared}{elt target iter:Expr}{ifs:List Expr}{scope:Scope}{pos:Pos}{it acc:Value}{env:Env}(I:Nat->Shared->Prop)
  (turn:∀n s,I n s->wpAny (model prog w) A (pyNext it) (λr s1=>match r with
   | none=>R (.ok .next) s1
   | some v=>wpAny (model prog w) A (letOwnedTupleGo target it v) (λ_ s1'=>wpAny (model prog w) A (assign target env v) (λ_ s2 =>
     wpAny (model prog w) A (forIn ifs true λc r=>if r=true then do let ok ← isTrue c env (eval c env);pure (ForInStep.yield ok)else pure (ForInStep.yield r)) (λok s3 =>
      if ok=true then wpAny (model prog w) A (eval elt env) (λx s4=>wpAny (model prog w) A (call (.builtin "list.append") [acc,x]) (λ_ s5=>∃m,m < n/\I m s5) (λ_ _=>False) s4) (λ_ _=>False) s3
      else ∃m,m < n/\I m s3) (λ_ _=>False) s2) (λ_ _=>False) s1') (λ_ _=>False) s1) (λ_ _=>False) s)
  (n:Nat) (h:I n s):codeAny (model prog w) A (.compLoop (.ListComp elt [⟨target,iter,ifs,0⟩] scope pos) 0 it acc env) R s:=by
 refine codeAny_loop rfl I (λn s hI=>?_) n h;show wpAny _ A ((compTurn (.ListComp elt [⟨target,iter,ifs,0⟩] scope pos) 0 it acc env).onRaise (λx=>do noteFrame x env;theTreesLotGoes x)) _ _ s;refine wpAny_noted ?_;rw[compTurn_list];refine aaf (ab5 (aaf (aaS (turn n s hI) (λr s1 h1=>?_) λ_ _ z=>z.elim)))
 cases r with
 | none=>exact aat h1
 | some v =>
  refine aaf (aaS h1 (λ_ s1' h1'=>?_) λ_ _ z=>z.elim);refine aaf (aaS h1' (λ_ s2 h2=>aaf (aaS h2 (λok s3 h3=>?_) λ_ _ z=>z.elim)) λ_ _ z=>z.elim)
  cases ok with
  | false=>exact aat ⟨rfl,h3⟩
  | true=>exact aaf (aaf (aaS h3 (λx s4 h4=>aaf (aaS h4 (λ_ s5 h5=>aat (aat ⟨rfl,h5⟩)) λ_ _ z=>z.elim)) λ_ _ z=>z.elim))
theorem CZ{elt tg iter:Expr}{ifs:List Expr}{pos:Pos}{g:TG}{tt:TT}{te:TE}{it:Addr}{fp:List Addr}{tn:Nat->Heap->Prop}{J:It}{Q:VK}{E:Value->Shared->Prop}{RR:Value->Addr->Result->Shared->Prop}(B:oQ X own N ix scope)
  (hin:∀(C:Addr) (s:Shared) (H:Hp),PG (X.oG N scope C fp s H) tg g/\S0 (X.oG N scope C fp s H) ifs tt/\PE (X.oG N scope C fp s H) elt te)
  (I:Inv X pins σ H s) (T:Turn X.prog X.w X.K tg J fp it tn) (st:tn 0 s.heap) (hf:∀b∈fp,qu X pins H b)
  (h:∀D,H D=none->VS J own ix σ g tt te D H Q)
  (fin:∀(D C:Addr) (H':Hp) (s':Shared) (m:Str->Option Value),Inv X pins σ H' s'->s'.heap.Ns C m->H' C=none->C≠X.env.locals->(X.s₀.heap.objs.size<=C)->(∀x c,X.env.cells.lookup x=some c->c≠C)->(∀p∈X.pn++pins,p.1≠C)->Q (.ref D) H'->RR (.ref D) C (.ok .next) s') :
  wpAny (model X.prog X.w) X.A (newList []) (λacc s3=>wpAny (model X.prog X.w) X.A (newFunctionEnv scope X.env.globals (ue X.env.cells scope.names []) [] X.env.qual none .none (some X.env)) (λcenv s4 =>
   codeAny (model X.prog X.w) X.A (.compStart (.ListComp elt [⟨tg,iter,ifs,0⟩] scope pos) 0 (.ref it) acc {cenv with scope:=relabel scope X.env}) (RR acc cenv.locals) s4) E s3) E s:=by
 obtain⟨W,⟨m0,w0⟩,turn⟩:=h s.heap.objs.size I.fresh;refine abE ?_;have I3:=I.O7 (its:=[]) (ys:=[]) (t':=s.toks) .nil (aaP _)
 have hcell:∀y∈scope.names,y.2≠NameKind.cell:=λy hy e=>by
  have:=aa1.mp B.cell y hy;rw[e]at this;exact absurd this (by decide)
 refine wpAny_newFunctionEnv hcell (by intro y hy;simp at hy) (λh1 Pg Ph=>?_) B.kind;dsimp only at Pg Ph ⊢;generalize VT:s.heap.push {cls:=.type "list",dict:=none,data:=.seq ([]:List Value).toArray}=h2 at Pg Ph ⊢
 have I3':Inv X pins σ (upd H s.heap.objs.size (.lst [])) {s with heap:=h2}:=by
  have z:({s with heap:=s.heap.push {cls:=.type "list",data:=.seq ([]:List Value).toArray},toks:=s.toks}:Shared)={s with heap:=h2}:=by rw[← VT]
  rw[← z];exact I3
 have sz:h2.objs.size=s.heap.objs.size + 1:=by rw[← VT,abM]
 have VU:∀b o,s.heap.get? b=some o->h2.get? b=some o:=λb o e=>by rw[← VT];exact aab _ e
 have Nu:∀b o,h2.get? b=some o->h1.get? b=some o:=λb o e=>Ph.extBut b o (aav (aal e)) (aab _ e)
 have there:∀b∈fp,b < s.heap.objs.size:=λb hb=>by obtain⟨o,e,_⟩:=T.obj _ _ st b hb;exact aal e
 have VV:∀b∈fp,qu X pins (upd H s.heap.objs.size (.lst [])) b:=λb hb=>⟨by rw[uN (aav (there b hb))];exact(hf b hb).1,(hf b hb).2⟩
 have Y7:h1.Ns h2.objs.size (λ_=>none):=by simpa using Pg
 have I4:=Ef (tk:=s.toks + ([]:List (Str×Value)).length) (own:=own) (N:=N) (ix:=ix) B I3' rfl VV (λb hb=>aap (there b hb) (by show s.heap.objs.size<=h2.objs.size;rw[sz];exact acS _)) Y7 Nu;have uQ:tn 0 h1:=T.keep _ _ _ st λb _ o e=>Nu b o (VU b o e)
 have Bc:(X.oG N scope h2.objs.size fp {s with heap:=h2} (upd H s.heap.objs.size (.lst []))).calm=true:=B.calm;obtain⟨pg,pif,pe⟩:=hin h2.objs.size {s with heap:=h2} (upd H s.heap.objs.size (.lst []))
 have fpb:∀{H':Hp},(∀b∈fp,H' b=none)->∀b∈fp,qu (X.oG N scope h2.objs.size fp {s with heap:=h2} (upd H s.heap.objs.size (.lst []))) [] H' b:=λhz b hb =>
  ⟨hz b hb,aav (aap (there b hb) (by show s.heap.objs.size<=h2.objs.size;rw[sz];exact acS _)),I4.ok.exfs b hb,.inl hb,λx c e=>(I4.ok.exf b hb).2 x c e,(λp hp=>nomatch hp)⟩
 have loop:∀s3:Shared,s3={s with heap:=h1,toks:=s.toks + ([]:List (Str×Value)).length} ->
   codeAny (model X.prog X.w) X.A (.compLoop (.ListComp elt [⟨tg,iter,ifs,0⟩] scope pos) 0 (.ref it) (.ref s.heap.objs.size) (compEnvC scope (ue X.env.cells scope.names []) h2.objs.size X.env)) (RR (.ref s.heap.objs.size) h2.objs.size) s3:=by
  rintro s3 rfl;refine zF (λn s'=>∃i ys H',Inv (X.oG N scope h2.objs.size fp {s with heap:=h2} (upd H s.heap.objs.size (.lst []))) [] (eJ own ix σ) H' s'/\tn i s'.heap/\(∀b∈fp,H' b=none)/\W i n ys H') ?_ m0
   ⟨0,[],_,I4,uQ,λb hb=>(VV b hb).1,w0⟩
  rintro n s5 ⟨i,ys,H5,I5,Bv,U8,w5⟩;obtain⟨hD,t5⟩:=turn i n ys H5 w5;rcases t5 with⟨stop,qn⟩ | ⟨go,hz,Nx,hNx,step⟩
  ·refine bU (T.done (X.oG N scope h2.objs.size fp {s with heap:=h2} (upd H s.heap.objs.size (.lst []))) rfl rfl rfl Bc i [] s5 _ H5 (λ_ _=>False) I5 (fpb U8) Bv stop) λr s6 ⟨hr,I6⟩=>?_
   subst hr;obtain⟨m,hm,_⟩:=I6.loc;refine fin _ _ H5 s6 m (KA I3' VV I6) hm I6.free ?_ ?_ (λx c e z=>?_) (λp hp z=>?_) qn
   ·have:=I3'.lt;exact abk this
   ·exact I3'.sz
   ·obtain⟨v,q⟩:=I3'.cell x c e;have:=q.lt;rw[z]at this;exact absurd this (aa8 _)
   ·have:=aal (I3'.pin p hp).1;rw[z]at this;exact absurd this (aa8 _)
  ·refine bU (T.item (X.oG N scope h2.objs.size fp {s with heap:=h2} (upd H s.heap.objs.size (.lst []))) rfl rfl rfl Bc i [] s5 _ H5 (λ_ _=>False) I5 (fpb U8) Bv go) λr s6 ⟨u,hr,h6⟩=>?_
   subst hr;refine bU h6 λ_ s7 ⟨x,H7,I7,r7,y7,VW,Y8⟩=>?_
   have I7':=I7.pinned (fpb Y8) (T.obj _ _ VW);refine bU (pg _ s7 _ H7 x u _ I7' r7 (step x H7 y7)) λ_ s8 ⟨σ8,H8,I8,Y9,q8⟩=>?_
   refine bU (pif _ s8 σ8 H8 _ I8 q8) λb s9 ⟨H9,I9,q9⟩=>?_
   have again:∀{ys':List V} {H':Hp} {s':Shared},Inv (X.oG N scope h2.objs.size fp {s with heap:=h2} (upd H s.heap.objs.size (.lst []))) ([]++uH fp s7.heap) σ8 H' s'->Nx ys' H' ->
     ∃m,m < n/\∃i ys H',Inv (X.oG N scope h2.objs.size fp {s with heap:=h2} (upd H s.heap.objs.size (.lst []))) [] (eJ own ix σ) H' s'/\tn i s'.heap/\(∀b∈fp,H' b=none)/\W i m ys H':=by
    intro ys' H' s' I' w';obtain⟨m',hm,w'⟩:=hNx _ _ w';refine⟨m',hm,i + 1,ys',H',(I'.qv).weak ?_ (BI Y9),T.keep _ _ _ VW λb hb o e=>(I'.pin (b,o) (aaO _ (aaO _ (jt hb e)))).1,λb hb=>?_,w'⟩
    ·rw[I'.len,← I4.len]
    ·obtain⟨o,e,d⟩:=T.obj _ _ VW b hb;exact(I'.pin (b,o) (aaO _ (aaO _ (jt hb e)))).2.1
   cases b with
   | true =>
    simp only[if_true]at q9 ⊢;refine bU (pe _ s9 σ8 H9 _ I9 q9) λv Za ⟨y,Zb,Zc,Nv,VX,Zd⟩=>?_
    refine bU (wY _ Za σ8 Zb (.ref _) [y] (.ref _) [v] (λ_ H'=>Nx (ys++[y]) H') Zc rfl (.cons Nv .nil) ⟨_,ys,y,rfl,rfl,VX,hz,Zd⟩) λ_ s11 ⟨_,H11,Ze,_,Zf⟩=>?_
    exact again Ze Zf
   | false =>
    simp only[Bool.false_eq_true,if_false]at q9 ⊢;exact again I9 q9
 exact codeAny_compStart_list (loop _ rfl) (T.self _ 0 _ _ _ uQ (loop _ rfl))
theorem C0{K:aH}{a:Addr}{xs:List V}{g:TG}{tt:TT}{te:TE}{H1:Hp}{Q:VK}{D:Addr}(Pv:Nat->List V->Hp->Prop)(hn:xs.length<=sizeLine)(h0:Pv 0 [] (upd H1 D (.lst [])))(hD:∀i ys H,i<=xs.length->Pv i ys H->H D=some (.lst ys)/\ys.length<=i/\dC K H a xs)
  (hs:∀i x ys H2,xs[i]?=some x->Pv i ys H2->g x (eJ own ix σ) H2 λσ2 H4=>σ2.drop own=(ix.map λi=>(σ[i]?).getD none)/\tt σ2 H4 λb H5=>if b=true then te σ2 H5 λv H6=>H6 D=some (.lst ys)/\Pv (i + 1) (ys++[v]) (upd H6 D (.lst (ys++[v])))else Pv (i + 1) ys H5)
  (hd:∀ys H2,Pv xs.length ys H2->Q (.ref D) H2) :
  VS (Nl K a) own ix σ g tt te D H1 Q:=by
 refine⟨λi m ys H=>m=xs.length - i/\i<=xs.length/\Pv i ys H,⟨xs.length,by simp,Nat.zero_le _,h0⟩,?_⟩;rintro i m ys H2 ⟨rfl,hi,p⟩;obtain⟨q1,q2,q3⟩:=hD i ys H2 hi p;refine⟨q1,?_⟩;by_cases hlt:i < xs.length
 ·refine .inr ⟨⟨xs,xs[i],q3,by simp[hlt]⟩,by omega,Pv (i + 1),λys' H' p'=>⟨xs.length - (i + 1),by omega,rfl,hlt,p'⟩,λx H3 y=>?_⟩;obtain⟨e1,e2⟩:=y;subst e1;exact hs i x ys _ (e2 xs q3) p
 ·have e:i=xs.length:=by omega
  subst e;exact .inl ⟨⟨xs,q3,aaj _⟩,hd ys H2 p⟩
theorem Gy{elt tg iter:Expr}{ifs:List Expr}{pos:Pos}{wi:TI}{g:TG}{tt:TT}{te:TE}(own:Nat)(N:List Str)(ix:List Nat)(B:oQ X own N ix scope)(hi:PI X tg iter wi)
  (hin:∀(C:Addr) (fp:List Addr) (s:Shared) (H:Hp),PG (X.oG N scope C fp s H) tg g/\S0 (X.oG N scope C fp s H) ifs tt/\PE (X.oG N scope C fp s H) elt te)
  (hs:∀x,foldedSetIterable iter X.env x=pure x:=by intro _;rfl):PE X (.ListComp elt [⟨tg,iter,ifs,0⟩] scope pos) (Va own ix wi g tt te):=by
 intro pins s σ H Q I h
 have hnames:∀y∈scope.names,y.2=NameKind.local->scope.names.lookup y.1=some .local:=λy hy e=>by
  have:=List.all_eq_true.mp B.loc y hy;rw[e]at this;simpa using this
 rw[eval_ListComp];refine acI (use:=none) rfl hs (oP λy hy e=>(B.has I y hy e).2) B.kind hnames (bU (hi pins s σ H _ I h) λv s1 h1=>bU h1 λitv s2 h2=>?_);obtain⟨it,fp,tn,J,H2,e,I2,T,bp,f2,rd⟩:=h2;subst e;refine CZ (Q:=Q) (RR:=λacc C=>compPost (model X.prog X.w) X.A X.xe none (EP X pins σ Q) acc C) B (λC s H=>hin C fp s H) I2 T bp f2 rd ?_;intro D C H' s' m I' hn hC hL hsz hce hpi q;exact⟨m,hn,λh' sb=>⟨.ref D,H',I'.turned (t':=s'.toks) (λb o hb e=>(sb.2 b hb).trans e) hC hL (.inr hsz) hce hpi,rfl,q⟩⟩
theorem zG{i:Nat}{x:Str}{elt tg iter:Expr}{ifs:List Expr}{pos pos' spos:Pos}{wi:TI}{g:TG}{tt:TT}{te:TE}(hN:X.N.Nodup)(hxi:X.N[i]?=some x)(hx:Loc X.env.scope x)(own:Nat)(N:List Str)(ix:List Nat)(B:oQ X own N ix scope)(hi:PI X tg iter wi)
  (hin:∀(C:Addr) (fp:List Addr) (s:Shared) (H:Hp),PG (X.oG N scope C fp s H) tg g/\S0 (X.oG N scope C fp s H) ifs tt/\PE (X.oG N scope C fp s H) elt te)
  (hsw:swapsWith (.ListComp elt [⟨tg,iter,ifs,0⟩] scope pos) (some (.Name x pos')) spos.line X.env=pure true:=by rfl) (hs:∀x,foldedSetIterable iter X.env x=pure x:=by intro _;rfl)
  (hfn:X.fn x=true∨X.env.scope.names.lookup x=some .local:=by first | exact .inl rfl | exact .inr rfl):PS X (.Assign [.Name x pos'] (.ListComp elt [⟨tg,iter,ifs,0⟩] scope pos) spos) (Ki (Va own ix wi g tt te) (gc i)):=by
 intro pins s σ H D0 I h
 have hnames:∀y∈scope.names,y.2=NameKind.local->scope.names.lookup y.1=some .local:=λy hy e=>by
  have:=List.all_eq_true.mp B.loc y hy;rw[e]at this;simpa using this
 rw[exec_Assign_Name_used _ _ _ _ hsw];refine aaf (ab5 (aaf ?_));show wpAny _ X.A (do let _ ← comprehension (.ListComp elt [⟨tg,iter,ifs,0⟩] scope pos) scope X.env _ (newList []) false (eval iter X.env) (some (assign (.Name x pos') X.env))) _ _ s;refine aaf (bU (acI (use:=some (assign (.Name x pos') X.env)) (Q:=λ_ s'=>SP X pins D0 .next s') rfl hs (oP λy hy e=>(B.has I y hy e).2) B.kind hnames (bU (hi pins s σ H _ I h) λv s1 h1=>bU h1 λitv s2 h2=>?_)) λ_ s' hq=>aat (aat hq));obtain⟨it,fp,tn,J,H2,e,I2,T,bp,f2,rd⟩:=h2;subst e;refine CZ (Q:=λv H'=>gc i v σ H' D0.nx) (RR:=λacc C=>compPost (model X.prog X.w) X.A X.xe (some (assign (.Name x pos') X.env)) (λ_ s'=>SP X pins D0 .next s') acc C) B (λC s H=>hin C fp s H) I2 T bp f2 rd ?_;intro D C H' s' m I' hn hC hL hsz hce hpi q;show wpAny _ X.A (assign (.Name x pos') X.env (.ref D)) _ _ s';refine wpAny_assign_Name (rN I' hN hxi hx (v:=.ref D) rfl (λs'' I'' ⟨a,sb,ha⟩=>?_) hfn);refine⟨m,hn.sameBut sb ?_,λh' sb'=>⟨_,H',I''.turned (t':=s''.toks) (λb o hb e=>(sb'.2 b hb).trans e) hC hL (.inr hsz) hce hpi,q⟩⟩;rcases ha with e | e
 ·rw[e];exact hL
 ·exact acn (hce x a e)
end
theorem range_all(bs:List Bool):(List.range bs.length).all (λi=>(bs[i]?).getD true)=bs.all id:=by
 rw[Bool.eq_iff_iff,aa1,aa1]
 constructor
 ·intro h b hb;obtain⟨i,hi,e⟩:=List.mem_iff_getElem.mp hb;have z:=h i (acU.mpr hi);rw[cW hi,e]at z;exact z
 ·intro h i hi;have hi':=acU.mp hi;rw[cW hi'];exact h _ (ab8 hi')
section
variable {X:Cx}
def S1(K:aH):List V->Hp->VK->Prop:=λxs H Q=>∃(p:Addr) (bs:List Bool),xs=[.ref p]/\dC K H p (bs.map V.bl)/\Q (.bl (bs.all id)) H
theorem Gz(hc:X.calm=true):eh X (.builtin "all") (S1 X.K):=by
 intro pins s σ H xs us Q I r h;obtain⟨p,bs,rfl,hS,q⟩:=h;obtain⟨u,rfl,ru⟩:=vals1 r;cases ru;obtain⟨its,rv,pl,hz⟩:=I.list hS
 have hlen:its.toArray.size=bs.length:=by
  have:=rv.length;simp at this;simp[this]
 have hlt:p < s.heap.objs.size:=by obtain⟨o,n,e,_⟩:=pl;exact aal e
 refine call_all_walk (abF pl.isList ?_);refine⟨s.heap.objs.size,_,_,its.toArray.size,_,_,λi=>(bs[i]?).getD true,rfl,Walks.list (show X.A.in1.handled=none from I.ok.hd hc) _ _ (aav hlt) its.toArray,⟨⟨_,aaz _ rfl,rfl,rfl⟩,pl.isList.push _⟩,?_,λh' tk k=>?_⟩
 ·intro i v s' Q' E' hv hq
  have hi:i < bs.length:=by
   rw[← hlen];exact(acu.mp hv).1
  obtain⟨u',hu',ru'⟩:=rv.get (i:=i) (x:=.bl bs[i]) (by rw[List.getElem?_map,cW hi];rfl);have e:its[i]?=some v:=by simpa using hv
  rw[hu']at e;cases e;cases ru';have hq':Q' ((bs[i]?).getD true) s':=hq;rw[cW hi]at hq';exact aaX hq'
 ·rw[hlen,range_all];exact⟨.bl _,H,I.kept (t':=tk) λb o e=>k b o (by simpa using Nat.ne_of_lt (Heap.lt_size e)) (Heap.get?_push_of_some _ e),rfl,q⟩
def Nw(K:aH):R2:=λx y H Q=>∃l b xs zs,x=.ref l/\y=.ref b/\dC K H l xs/\dC K H b zs/\xs.length + zs.length<=sizeLine/\∀p,H p=none->Q (.ref p) (upd H p (.lst (xs++zs)))
theorem KC:gQ X (binaryOp .Add) (Nw X.K):=by
 intro pins s σ H x y v u Q I rx ry h;obtain⟨l,b,xs,zs,rfl,rfl,hH,hB,hz,q⟩:=h;cases rx;cases ry;obtain⟨its,r,⟨⟨c1,d1,a1,GA⟩,n,e,rfl,rfl,rfl⟩,z⟩:=I.list hH;obtain⟨Ec,r2,⟨⟨c2,d2,a2,OZ⟩,n2,e2,rfl,rfl,rfl⟩,z2⟩:=I.list hB;have hl:=r.length;have JN:=r2.length;refine concat_meets ⟨_,e,rfl⟩ ⟨_,e2,rfl⟩ noFill_list_add seq_list_add PySem.F.slot_list_add PySem.F.entry_list_add (PySem.F.args_list_add_2 _ _)
  (list_addW l b its.toArray Ec.toArray n n2 none none GA OZ (by rw[aaV,aaV];omega)) ⟨e,e2,?_⟩
 rw[show its.toArray++Ec.toArray=(its++Ec).toArray by simp];exact⟨.ref _,_,I.O7 (t':=s.toks) (r.append r2) (by rw[List.length_append];omega),rfl,q _ I.fresh⟩
def Ny(K:aH):List V->Hp->VK->Prop:=λxs H Q=>∃(p:Addr) (ns:List Int),xs=[.ref p]/\dC K H p (ns.map V.int)/\0 < ns.length/\∀m:Int,m∈ns->(∀a∈ns,a<=m)->Q (.int m) H
theorem Eg(hc:X.calm=true):eh X (.builtin "max") (Ny X.K):=by
 intro pins s σ H xs us Q I r h;obtain⟨p,ns,rfl,hS,hne,q⟩:=h;obtain⟨u,rfl,ru⟩:=vals1 r;cases ru;obtain⟨its,rv,pl,hz⟩:=I.list hS;have hi:IntsAre its ns:=intsAre_of rv;obtain⟨zs,e⟩:=hi.allInts.items;have hns:ns=zs.toList.map (·.1):=by rw[← hi.numsOf,← nums_intItems,← e]
 have hz':zs.size=ns.length:=by rw[hns];simp
 have hl:=pl.isList;rw[e]at hl;refine max_intList (I.ok.hd hc) hl (by omega) λv h' tk hv hk=>?_
 obtain⟨t,rfl⟩:=intItems_at hv;have ab:=argBest_gt (numAt zs) (zs.size - 1);refine⟨.int _,H,I.kept hk,⟨t,rfl⟩,q _ ?_ λa ha=>?_⟩
 ·rw[hns,numAt_eq];exact getD_mem (aa0 ab.1 (by rw[aaa,ack,hz'];omega))
 ·rw[hns]at ha;obtain⟨j,hj,rfl⟩:=mem_getD ha;rw[← numAt_eq];exact ab.2 j (by simp at hj;omega)
end
section
variable {X:Cx} {tg:Expr}
end
def JO(K:aH)(w:World)(d:Addr)(kds:List (Str×PyData)):Prop :=
 (d == sysModules)=false/\∃(o:Obj) (vs:List (Str×Value)),K.lookup d=some o/\(∀P:Program,o.IsDictOf (strKind P w) vs) /\
  Paired (λa b=>a.1=b.1/\∃v,RelV v a.2/\∀H:Hp,aX K H v b.2) vs kds
def jw(kds:List (Str×PyData))(k:Str):Option PyData:=(kds.find? λkv=>decide (kv.1=k)).map (·.2)
theorem pd{K:aH}{vs:List (Str×Value)}{kds:List (Str×PyData)}(k:Str)(h:Paired (λa b=>a.1=b.1/\∃v,RelV v a.2/\∀H:Hp,aX K H v b.2) vs kds):
  (valueAt vs k=none/\jw kds k=none)∨∃u d v,valueAt vs k=some u/\jw kds k=some d/\RelV v u/\∀H:Hp,aX K H v d:=by
 induction h with
 | nil=>exact .inl ⟨rfl,rfl⟩
 | @cons a b as bs hab t ih =>
  obtain⟨e,v,h1,h2⟩:=hab;by_cases q:a.1=k
  ·refine .inr ⟨a.2,b.2,v,?_,?_,h1,h2⟩
   ·unfold valueAt;rw[List.find?_cons_of_pos (by simpa using q)];rfl
   ·unfold jw;rw[List.find?_cons_of_pos (by simpa [← e]using q)];rfl
  ·have e1:valueAt (a::as) k=valueAt as k:=by unfold valueAt;rw[List.find?_cons_of_neg (by simpa using q)]
   have e2:jw (b::bs) k=jw bs k:=by unfold jw;rw[List.find?_cons_of_neg (by simpa [← e]using q)]
   rw[e1,e2];exact ih
def S6(w:World)(e:Str×Tok×Value):DictEntry:={hash:=PyData.keyHash w.params e.1,key:=.str e.1 e.2.1,val:=e.2.2}
theorem GC{K:aH}{w:World}{d:Addr}{ep:Nat}{ent:List (Str×Tok×Value)}{kds:List (Str×PyData)}(hd:(d == sysModules)=false)
  (lk:K.lookup d=some {cls:=.type "dict",data:=.dict (ent.map (S6 w)).toArray ep}) (nd:(ent.map (·.1)).Nodup)
  (h:Paired (λ(e:Str×Tok×Value) (kd:Str×PyData)=>e.1=kd.1/\∃v,RelV v e.2.2/\∀H:Hp,aX K H v kd.2) ent kds):JO K w d kds:=by
 refine⟨hd,_,ent.map (λe=>(e.1,e.2.2)),lk,λP=>⟨_,ep,⟨rfl,rfl,rfl⟩,rfl,?_,?_,?_⟩,?_⟩
 ·intro e he;simp at he;obtain⟨a,b,c,_,rfl⟩:=he;exact⟨a,strKind_is _ _ _ _,rfl⟩
 ·show Pairs _ (ent.map (S6 w)) _;clear h nd lk
  induction ent with
  | nil=>exact .nil
  | cons e r ih=>exact .cons (acZ _ _ _ _) rfl ih
 ·rw[abN];exact nd
 ·clear lk nd
  induction h with
  | nil=>exact .nil
  | cons a t ih=>exact .cons a ih
theorem aJ{K:aH}{r:Addr}{its:List Value}{ds:List PyData}(lk:K.lookup r=some {cls:=.type "tuple",data:=.seq its.toArray 0})(hz:its.length<=sizeLine)
  (h:Paired (λu d=>∃v,RelV v u/\∀H:Hp,aX K H v d) its ds):∃v,RelV v (.ref r)/\∀H:Hp,aX K H v (.tuple ds):=by
 have key:∃xs:List V,Vals xs its/\∀H:Hp,bV K H xs ds:=by
  clear lk hz
  induction h with
  | nil=>exact⟨[],.nil,λH=>bV.nil⟩
  | cons a t ih =>
   obtain⟨v,h1,h2⟩:=a;obtain⟨xs,g1,g2⟩:=ih;exact⟨v::xs,.cons h1 g1,λH=>bV.cons (h2 H) (g2 H)⟩
 obtain⟨xs,h1,h2⟩:=key;exact⟨.ref r,rfl,λH=>.wg (.inr ⟨_,its.toArray,0,lk,rfl,rfl,by simpa using hz,h1⟩) (h2 H)⟩
theorem uv{K:aH}{r:Addr}{d:PyData}(h:∃v,RelV v (.ref r)/\∀H:Hp,aX K H v d):∀H:Hp,aX K H (.ref r) d:=by
 obtain⟨v,h1,h2⟩:=h;intro H;cases v<;>simp[RelV]at h1
 subst h1;exact h2 H
theorem aQ{K:aH}{x:Str}{t:Tok}:∃v,RelV v (.str x t)/\∀H:Hp,aX K H v (.str x):=⟨.str x,⟨t,rfl⟩,λ_=>.str x⟩
theorem eK{K:aH}{i:Int}{t:Tok}:∃v,RelV v (.int i t)/\∀H:Hp,aX K H v (.int i):=⟨.int i,⟨t,rfl⟩,λ_=>.int i⟩
section
variable {X:Cx}
theorem JO.at{K:aH}{pins:List (Addr×Obj)}{σ:St}{H:Hp}{s:Shared}{w:World}{d:Addr}{kds:List (Str×PyData)}(hK:X.K=K)(I:Inv X pins σ H s)(h:JO K w d kds):
  (d == sysModules)=false/\∃vs,(∀P,s.heap.DictOf (strKind P w) d vs)/\Paired (λa b=>a.1=b.1/\∃v,RelV v a.2/\∀H:Hp,aX K H v b.2) vs kds:=by
 obtain⟨h0,o,vs,lk,hd,hp⟩:=h;subst hK;exact⟨h0,vs,λP=>Heap.dictOf_iff.mpr ⟨o,I.ql d o lk,hd P⟩,hp⟩
def VY(K:aH)(w:World)(neg:Bool):R2:=λx y H Q=>∃d kds k,y=.ref d/\x=.str k/\JO K w d kds/\Q (.bl (if neg then !(jw kds k).isSome else(jw kds k).isSome)) H
theorem Pj:gQ X (compareOp .In) (VY X.K X.w false):=by
 intro pins s σ H x y v u Q I rx ry h;obtain⟨d,kds,k,rfl,rfl,hd,q⟩:=h;cases ry;obtain⟨t,rfl⟩:=rx;obtain⟨h0,vs,hm,hp⟩:=hd.at rfl I;refine wpAny_in_of (acZ X.prog X.w k t) h0 (hm X.prog).mapOf ⟨.bl _,H,I.tok _,rfl,?_⟩
 have e:(valueAt vs k).isSome=(jw kds k).isSome:=by
  rcases pd k hp with⟨a,b⟩ | ⟨_,_,_,a,b,_⟩<;>rw[a,b]<;>rfl
 rw[e];exact q
def VZ(K:aH)(w:World):R2:=λx y H Q=>∃d kds k dt,x=.ref d/\y=.str k/\JO K w d kds/\jw kds k=some dt/\∀v:V,(∀H:Hp,aX K H v dt)->Q v H
theorem GD:JM X (VZ X.K X.w):=by
 intro value slice pins s σ H x y v u Q I rx ry h hs;obtain⟨d,kds,k,dt,rfl,rfl,hd,hg,q⟩:=h;cases rx;obtain⟨t,rfl⟩:=ry;obtain⟨h0,vs,hm,hp⟩:=hd.at rfl I;rcases pd k hp with⟨a,b⟩ | ⟨u,e,z,a,b,c1,c2⟩
 ·rw[b]at hg;cases hg
 ·rw[b]at hg;cases hg;exact ab3 (x:=u) (hm X.prog).mapOf.typeIs slot_dict_getitem.lookup
   (wpAny_getItem_of (Q:=λr s'=>r=u/\EP X pins σ Q r s') (acZ X.prog X.w k t) (hm X.prog).mapOf a ⟨rfl,⟨z,H,I.tok _,c1,q z c2⟩⟩) hs
def S9(K:aH)(w:World)(to:TE)(t:TA):TE:=λσ H Q=>to σ H λx H1=>∃d kds,x=.ref d/\JO K w d kds/\t σ H1 λxs H2=>∃k z,xs=[.str k,z]/\(jw kds k=none->Q z H2) /\
 ∀dt,jw kds k=some dt->∀v:V,(∀H:Hp,aX K H v dt)->Q v H2
variable {o e:Expr} {es:List Expr} {to:TE} {t:TA} {apos cpos:Pos}
theorem KG(ho:PE X o to)(ha:PA X (e::es) t)
  (hbase:attributeBase o "get" X.env (eval o X.env)=eval o X.env:=by rfl)
  (hfew:((backTo cpos (starEach (e::es) X.env)).all (λx=>!x.1)&&(backToKw cpos (keywordEach [] X.env)).all (λx=>x.1.isSome)
   && decide ((e::es).length + ([]:List Keyword).length + (if ([]:List Keyword).isEmpty then 0 else 1) < 30))=true:=by rfl)
  (hline:(apos.endLine == cpos.line)=true:=by rfl) (hs:starEach (e::es) X.env=(false,eval e X.env)::starEach es X.env:=by rfl) (hplain:(backTo cpos (starEach es X.env)).any (·.1)=false:=by rfl) :
  PE X (.Call (.Attribute o "get" apos) (e::es) [] cpos) (S9 X.K X.w to t):=by
 intro pins s σ H Q I h;refine wpAny_Call_method_late hbase hfew hline rfl (bU (ho pins s σ H _ I h) λv s1 ⟨x,H1,I1,r1,d,kds,ex,hd,q1⟩=>?_);subst ex;cases r1;obtain⟨h0,vs,hm,hp⟩:=hd.at rfl I1;refine⟨"dict","dict.get",PySem.F.plainAttrs_dict,acV,PySem.F.type_dict_get,(hm X.prog).mapOf.typeIs,λb eb=>?_,?_⟩
 ·cases eb;obtain⟨ob,_,_,g1,g2,_⟩:=hm X.prog;exact⟨ob,g1,g2.2.1⟩
 have hA:=ha cpos pins s1 σ H1 _ I1 q1;rw[hs]at hA ⊢;refine Calls.callWith_builtin (by show(false||(backTo cpos (starEach es X.env)).any (·.1))=false;rw[hplain]<;>rfl) (Calls.evalArgs_plain ?_)
 refine bU hA λus s2 ⟨ws,H2,I2,r2,k,z,ez,q2,q3⟩=>?_
 subst ez;obtain⟨u1,u2,rfl,Pk,V0⟩:=vals2 r2;obtain⟨tk,rfl⟩:=Pk;obtain⟨h0,vs,hm,hp⟩:=hd.at rfl I2;refine call_meetsIn acV (hm X.prog).mapOf.typeIs PySem.F.entry_dict_get (PySem.F.args_dict_get_3 _ _ _) (meets_dict_get_default (strKind X.prog X.w) d (acZ X.prog X.w k tk) h0 u2) ⟨_,(hm X.prog).mapOf,?_⟩;rcases pd k hp with⟨a,b⟩ | ⟨u,dt,v,a,b,c1,c2⟩
 ·rw[a];exact⟨z,H2,I2.tok _,V0,q2 b⟩
 ·rw[a];exact⟨v,H2,I2.tok _,c1,q3 dt b v c2⟩
end
theorem Inv.C1{X:Cx}{pins:List (Addr×Obj)}{σ:List (Option V)}{H:Hp}{s:Shared}{h':Heap}{fp:List Addr}{a:Addr}{o:HO}{t':Nat}(I:Inv X pins σ H s)(hf:∀b∈fp,qu X pins H b)
  (k:∀b u,b∉fp->s.heap.get? b=some u->h'.get? b=some u) (hp:s.heap.objs.size<=a) (new:eg X.prog X.w (upd H a o) h' a o):Inv X pins σ (upd H a o) {s with heap:=h',toks:=t'}:=by
 have hn:=I.hok.fresh hp;have nfp:∀b u,H b=some u->b∉fp:=λb u e z=>by rw[(hf b z).1]at e;cases e
 refine I.step (g':=s.gens) (d':=s.drawn) (ch:=fp) (λb hb=>⟨(hf b hb).2.2.2.1,(hf b hb).2.1,(hf b hb).2.2.2.2.1,(hf b hb).2.2.2.2.2⟩) (λb o _ _ hc e _=>k b o hc e) (λb o _ _ hc e _=>⟨o.slots,k b o hc e⟩)
  (λb o hc e n=>by rw[uN (aav (aap (aal e) hp))];exact n) (λb o hc e=>⟨o,k b o hc e⟩) (λb xs e=>by rw[uN (nN e hn)];exact e) (λb u xs e=>by rw[uN (nN e hn)];exact e)
  (λb ps e=>⟨#[],by rw[uN (nN e hn),e];simp⟩) (λm hm=>?_) (λb u e=>?_) I.bare
 ·obtain⟨o,es,ep,ho,r⟩:=hm;exact⟨o,es,ep,k _ o (λz=>(hf _ z).2.1 rfl) ho,r⟩
 ·by_cases hb:b=a
  ·subst hb;rw[uS]at e;cases e;exact new
  ·rw[uN hb]at e;refine(I.hok b u e).rK (λc v hc q=>k c v ?_ q) (λc q=>by rw[uN (nN q hn)];exact q) λc xs q=>by rw[uN (nN q hn)];exact q
   rcases hc with z | z
   ·rw[z];exact nfp b u e
   ·exact nfp c _ z
theorem Inv.C2{X:Cx}{pins:List (Addr×Obj)}{σ:List (Option V)}{H:Hp}{s:Shared}{h':Heap}{fp:List Addr}{t':Nat}(I:Inv X pins σ H s)(hf:∀b∈fp,qu X pins H b)
  (k:∀b u,b∉fp->s.heap.get? b=some u->h'.get? b=some u):Inv X pins σ H {s with heap:=h',toks:=t'}:=by
 have nfp:∀b u,H b=some u->b∉fp:=λb u e z=>by rw[(hf b z).1]at e;cases e
 refine I.step (g':=s.gens) (d':=s.drawn) (ch:=fp) (λb hb=>⟨(hf b hb).2.2.2.1,(hf b hb).2.1,(hf b hb).2.2.2.2.1,(hf b hb).2.2.2.2.2⟩) (λb o _ _ hc e _=>k b o hc e) (λb o _ _ hc e _=>⟨o.slots,k b o hc e⟩)
  (λ_ _ _ _ n=>n) (λb o hc e=>⟨o,k b o hc e⟩) (λ_ _ e=>e) (λ_ _ _ e=>e) (λb ps e=>⟨#[],by rw[e];simp⟩) (λm hm=>?_) (λb u e=>?_) I.bare
 ·obtain⟨o,es,ep,ho,r⟩:=hm;exact⟨o,es,ep,k _ o (λz=>(hf _ z).2.1 rfl) ho,r⟩
 ·refine(I.hok b u e).rK (λc v hc q=>k c v ?_ q) (λ_ q=>q) λ_ _ q=>q
  rcases hc with z | z
  ·rw[z];exact nfp b u e
  ·exact nfp c _ z
def ja(q:Bool)(h:Heap)(a:Addr)(its:Array Value):Prop:=match q with | true=>h.IsList a its | false=>h.IsTuple a its
def fe(q:Bool)(h:Heap)(it a:Addr)(i:Nat):Prop:=match q with | true=>h.IsListIter it a i | false=>h.IsTupleIter it a i
def Ta(q:Bool):String:=match q with | true=>"list_iterator" | false=>"tuple_iterator"
theorem ja.at{q:Bool}{h h':Heap}{a:Addr}{its:Array Value}(x:ja q h a its)(e:∀o,h.get? a=some o->h'.get? a=some o):ja q h' a its:=by
 cases q<;>(obtain⟨o,ho,r⟩:=x;exact⟨o,e _ ho,r⟩)
theorem fe.at{q:Bool}{h h':Heap}{it a:Addr}{i:Nat}(x:fe q h it a i)(e:∀o,h.get? it=some o->h'.get? it=some o):fe q h' it a i:=by
 cases q<;>(obtain⟨o,ho,r⟩:=x;exact⟨o,e _ ho,r⟩)
theorem fe.obj{q:Bool}{h:Heap}{it a:Addr}{i:Nat}(x:fe q h it a i):∃o,h.get? it=some o/\∀v,o.data≠.cell v:=by
 cases q<;>(obtain⟨o,ho,c,d⟩:=x;exact⟨o,ho,λv z=>by rw[d]at z;cases z⟩)
section
variable {prog:Program} {w:World} {A:Around} {E:Value->Shared->Prop} {s:Shared}
theorem GF{it t:Addr}{i:Nat}{its:Array Value}{x:Value}{Q:Value->Shared->Prop}(hit:s.heap.IsTupleIter it t i)(ht:s.heap.IsTuple t its)(hx:its[i]?=some x)
  (hQ:∀h',h'.IsTupleIter it t (i + 1)->Heap.SameBut it s.heap h'->Q x {s with heap:=h'}):wpAny (model prog w) A (Builtin.SmallTypes.nextOf (.ref it)) Q E s:=by
 obtain⟨o,g1,g2,g3⟩:=id hit;obtain⟨ot,g4,_,nt,g5⟩:=ht;unfold Builtin.SmallTypes.nextOf;refine wpAny_bind (wpAny_callSpecial?_slot (name:=Str.ofString "__next__") hit.typeIs F.slot_tuple_iterator_next (wpAny_call_entry F.slot_tuple_iterator_next hit.typeIs F.entry_tuple_iterator_next ?_ (F.args_tuple_iterator_next_1 _)));show wpAny _ _ (field (.ref it) 0 >>= _) _ _ s;refine wpAny_bind (wpAny_field g1 g3 (x:=.ref t) rfl ?_);show wpAny _ _ (if (Value.ref t == Value.none)=true then _ else _) _ _ s;rw[if_neg (show ¬ ((Value.ref t == Value.none)=true)from Bool.false_ne_true)];show wpAny _ _ (field (.ref it) 1 >>= _) _ _ s;refine wpAny_bind (wpAny_field g1 g3 (x:=.int i 0) rfl ?_);show wpAny _ _ (seqItems? (.ref t) >>= _) _ _ s;refine wpAny_bind (wpAny_seqItems g4 g5 ?_);simp only[Int.toNat_natCast,hx];refine wpAny_bind (wpAny_setField g1 g3 (by simp) (wpAny_pure ⟨x,rfl,wpAny_pure (hQ _ ?_ (Heap.SameBut.update ..))⟩));exact⟨_,Heap.get?_update_self _ g1 (Obj.isFreed_of_fields (Obj.data_mapFields g3 _)),(Obj.cls_mapFields ..).trans g2,by rw[Obj.data_mapFields g3];simp[rawInt]⟩
theorem KH{it t:Addr}{i:Nat}{its:Array Value}{Q:Value->Shared->Prop}(hh:A.handled=none)(hit:s.heap.IsTupleIter it t i)(ht:s.heap.IsTuple t its)(hx:its[i]?=none)
  (hE:∀h' e,Heap.ExtBut it s.heap h'->(∃o,h'.get? e=some o/\o.cls=.type "StopIteration")->E (.ref e) {s with heap:=h'}):wpAny (model prog w) A (Builtin.SmallTypes.nextOf (.ref it)) Q E s:=by
 obtain⟨o,g1,g2,g3⟩:=id hit;obtain⟨ot,g4,_,nt,g5⟩:=ht;unfold Builtin.SmallTypes.nextOf;refine wpAny_bind (wpAny_callSpecial?_slot (name:=Str.ofString "__next__") hit.typeIs F.slot_tuple_iterator_next (wpAny_call_entry F.slot_tuple_iterator_next hit.typeIs F.entry_tuple_iterator_next ?_ (F.args_tuple_iterator_next_1 _)));show wpAny _ _ (field (.ref it) 0 >>= _) _ _ s;refine wpAny_bind (wpAny_field g1 g3 (x:=.ref t) rfl ?_);show wpAny _ _ (if (Value.ref t == Value.none)=true then _ else _) _ _ s;rw[if_neg (show ¬ ((Value.ref t == Value.none)=true)from Bool.false_ne_true)];show wpAny _ _ (field (.ref it) 1 >>= _) _ _ s;refine wpAny_bind (wpAny_field g1 g3 (x:=.int i 0) rfl ?_);show wpAny _ _ (seqItems? (.ref t) >>= _) _ _ s;refine wpAny_bind (wpAny_seqItems g4 g5 ?_);simp only[Int.toNat_natCast,hx];refine wpAny_bind (wpAny_rule (wpAny_bind (wpAny_setField g1 g3 (by simp) ?_)));show wpAny _ _ (newExc (.type "StopIteration") [] >>= _) _ _ _;refine wpAny_bind ?_;simp only[newExc,newTuple];refine wpAny_bind (wpAny_newObj_type ?_ (by size_fits));refine wpAny_bind (m:=firstArgMember _ _) (wpAny_of_eq (a:=Value.none) (by first | rfl | (simp only[firstArgMember];rfl)) ?_);refine wpAny_newObj_type ?_ (by size_fits);simp only[raiseNew];refine wpAny_bind (wpAny_handled ?_)
 first | rw[show A.in1.handled=none from hh] | rw[hh]
 refine aaf (aat (wpAny_throw ?_));exact hE _ _ (((Heap.SameBut.update ..).extBut.push _).push _) ⟨_,aaz _ rfl,rfl⟩
theorem yc{q:Bool}{it t:Addr}{i:Nat}{its:Array Value}{x:Value}{Q:Value->Shared->Prop}(hit:fe q s.heap it t i)(ht:ja q s.heap t its)(hx:its[i]?=some x)
  (hQ:∀h',fe q h' it t (i + 1)->Heap.SameBut it s.heap h'->Q x {s with heap:=h'}):wpAny (model prog w) A (Builtin.SmallTypes.nextOf (.ref it)) Q E s:=by
 cases q with
 | true=>exact wpAny_nextOf_list_item hit ht hx hQ
 | false=>exact GF hit ht hx hQ
theorem GG{q:Bool}{it t:Addr}{i:Nat}{its:Array Value}{Q:Value->Shared->Prop}(hh:A.handled=none)(hit:fe q s.heap it t i)(ht:ja q s.heap t its)(hx:its[i]?=none)
  (hE:∀h' e,Heap.ExtBut it s.heap h'->(∃o,h'.get? e=some o/\o.cls=.type "StopIteration")->E (.ref e) {s with heap:=h'}):wpAny (model prog w) A (Builtin.SmallTypes.nextOf (.ref it)) Q E s:=by
 cases q with
 | true=>exact wpAny_nextOf_list_end hh hit ht hx hE
 | false=>exact KH hh hit ht hx hE
variable {q1 q2:Bool} {z TI TO i1 i2 l1 l2:Addr} {k1 k2:Nat} {xs ys:Array Value} {x y a b:Value}
theorem Eh{Q:Option Value->Shared->Prop}(D:ZipApart z TI TO i1 i2 l1 l2)(hz:IsZip s.heap z TI TO .none)(hTI:IsPair s.heap TI (.ref i1) (.ref i2))(hTO:IsPair s.heap TO a b)
  (h1:fe q1 s.heap i1 l1 k1) (h2:fe q2 s.heap i2 l2 k2) (GH:ja q1 s.heap l1 xs) (JN:ja q2 s.heap l2 ys) (hx:xs[k1]?=some x) (hy:ys[k2]?=some y)
  (hQ:∀h',IsZip h' z TI TO (rawInt s.heap.objs.size)->IsPair h' TO x y->fe q1 h' i1 l1 (k1 + 1)->fe q2 h' i2 l2 (k2 + 1)->IsPair h' s.heap.objs.size x y ->
   (∀c o,c≠z->c≠TO->c≠i1->c≠i2->s.heap.get? c=some o->h'.get? c=some o)->Q (some (.ref s.heap.objs.size)) {s with heap:=h'}):wpAny (model prog w) A (pyNext (.ref z)) Q E s:=by
 have hT:s.TypeIs (.ref z) "zip":=⟨_,hz,rfl⟩;unfold pyNext;refine wpAny_bind (wpAny_attempt (wpAny_callSpecial?_slot (name:=Str.ofString "__next__") hT F.slot_zip_next (wpAny_call_entry F.slot_zip_next hT F.entry_zip_next ?_ (F.args_zip_next_1 _))));show wpAny _ _ (field (.ref z) 2 >>= _) _ _ _;refine wpAny_bind (wpAny_field hz rfl (x:=.bool false) rfl ?_);show wpAny _ _ (field (.ref z) 3 >>= _) _ _ _;refine wpAny_bind (wpAny_field hz rfl (x:=.ref TI) rfl (wpAny_bind (wpAny_seqItems hTI rfl ?_)));show wpAny _ _ (Builtin.SmallTypes.ownedTupleIsFree (.ref z) >>= _) _ _ _;refine wpAny_bind ?_;unfold Builtin.SmallTypes.ownedTupleIsFree;refine wpAny_bind (wpAny_field hz rfl (x:=.none) rfl (wpAny_pure ?_));simp only[if_true];refine wpAny_bind (wpAny_rule (wpAny_bind (wpAny_field hz rfl (x:=.ref TO) rfl (wpAny_bind (wpAny_setField_rec hz (by simp) λu1 Nz b1=>?_)))))
 replace Nz:IsZip u1 z TI TO .ellipsis:=Nz
 refine wpAny_bind ?_;simp only[List.zipIdx_cons,List.zipIdx_nil,List.forIn_cons,List.forIn_nil];refine wpAny_bind (wpAny_bind (wpAny_onRaise ?_));show wpAny _ _ (Builtin.SmallTypes.nextOf (.ref i1) >>= _) _ _ _;refine wpAny_bind (yc (h1.at λo e=>b1.extBut _ o D.i1z e) (GH.at λo e=>b1.extBut _ o D.l1z e) hx λu2 Yn b2=>wpAny_pure ?_);have GI:IsPair u2 TO a b:=b2.extBut _ _ D.TOi1 (b1.extBut _ _ D.TOz hTO);refine wpAny_bind (wpAny_seqItems GI rfl (wpAny_bind (wpAny_updateSeq_pair GI λu3 KJ b3=>?_)))
 replace KJ:IsPair u3 TO x b:=KJ
 refine aaf (wpAny_letGo (aat (aaf (aaf (wpAny_onRaise ?_)))));show wpAny _ _ (Builtin.SmallTypes.nextOf (.ref i2) >>= _) _ _ _;refine aaf (yc (h2.at λo e=>b3.extBut _ o D.TOi2.symm (b2.extBut _ o D.i12.symm (b1.extBut _ o D.i2z e))) (JN.at λo e=>b3.extBut _ o D.l2TO (b2.extBut _ o D.l2i1 (b1.extBut _ o D.l2z e))) hy λu4 Zg b4=>aat ?_);have Tb:IsPair u4 TO x b:=b4.extBut _ _ D.TOi2 KJ;refine aaf (wpAny_seqItems Tb rfl (aaf (wpAny_updateSeq_pair Tb λu5 KL b5=>?_)))
 replace KL:IsPair u5 TO x y:=KL
 refine aaf (wpAny_letGo (aat (aat ?_)));refine aaf (wpAny_seqItems KL rfl (aaf (wpAny_newTuple ?_)));have hsz:u5.objs.size=s.heap.objs.size:=by rw[b5.1,b4.1,b3.1,b2.1,b1.1]
 have Yo:IsZip u5 z TI TO .ellipsis:=b5.extBut _ _ D.TOz.symm (b4.extBut _ _ D.i2z.symm (b3.extBut _ _ D.TOz.symm (b2.extBut _ _ D.i1z.symm Nz)));have Zh:∀c o,c≠z->c≠TO->c≠i1->c≠i2->s.heap.get? c=some o->u5.get? c=some o:=λc o c1 c2 c3 c4 e=>b5.extBut _ _ c2 (b4.extBut _ _ c4 (b3.extBut _ _ c2 (b2.extBut _ _ c3 (b1.extBut _ _ c1 e))))
 have Zi:fe q1 u5 i1 l1 (k1 + 1):=Yn.at λo e=>b5.extBut _ o D.TOi1.symm (b4.extBut _ o D.i12 (b3.extBut _ o D.TOi1.symm e))
 have Zj:fe q2 u5 i2 l2 (k2 + 1):=Zg.at λo e=>b5.extBut _ o D.TOi2.symm e
 have hzl:z < u5.objs.size:=Heap.lt_size Yo;show wpAny _ _ (Builtin.SmallTypes.ownedTupleHandOut (.ref z) (.ref u5.objs.size) >>= _) _ _ _;refine wpAny_bind ?_;unfold Builtin.SmallTypes.ownedTupleHandOut;have Zk:IsZip (u5.push {cls:=.type "tuple",data:=.seq #[x,y]}) z TI TO .ellipsis:=Heap.get?_push_of_some _ Yo;refine wpAny_bind (wpAny_setField_rec Zk (by simp) λu7 V1 b7=>?_)
 replace V1:IsZip u7 z TI TO (rawInt u5.objs.size):=V1
 refine wpAny_setField_rec V1 (by simp) λu8 Vb b8=>?_
 replace Vb:IsZip u8 z TI TO (rawInt u5.objs.size):=Vb
 have up:∀c o,c≠z->u5.get? c=some o->u8.get? c=some o:=λc o c1 e=>b8.extBut _ _ c1 (b7.extBut _ _ c1 (aab _ e))
 have Yp:IsPair u8 u5.objs.size x y:=b8.extBut _ _ (abk hzl) (b7.extBut _ _ (abk hzl) (aaz _ rfl));rw[hsz]at Vb Yp;refine aat ⟨_,rfl,aat ?_⟩;show Q (some (.ref u5.objs.size)) _;rw[hsz];exact hQ u8 Vb (up _ _ D.TOz KL) (Zi.at λo e=>up _ o D.i1z e) (Zj.at λo e=>up _ o D.i2z e) Yp λc o c1 c2 c3 c4 e=>up c o c1 (Zh c o c1 c2 c3 c4 e)
theorem GJ{Q:Option Value->Shared->Prop}(hh:A.handled=none)(D:ZipApart z TI TO i1 i2 l1 l2)(hz:IsZip s.heap z TI TO .none)(hTI:IsPair s.heap TI (.ref i1) (.ref i2))(hTO:IsPair s.heap TO a b)
  (h1:fe q1 s.heap i1 l1 k1) (h2:fe q2 s.heap i2 l2 k2) (GH:ja q1 s.heap l1 xs) (JN:ja q2 s.heap l2 ys) (hend:xs[k1]?=none∨ys[k2]?=none)
  (hQ:∀h',(∀c o,c≠z->c≠TO->c≠i1->c≠i2->s.heap.get? c=some o->h'.get? c=some o)->Q none {s with heap:=h'}):wpAny (model prog w) A (pyNext (.ref z)) Q E s:=by
 have hT:s.TypeIs (.ref z) "zip":=⟨_,hz,rfl⟩;have fin:∀(h':Heap) (e:Addr),(∀c o,c≠z->c≠TO->c≠i1->c≠i2->s.heap.get? c=some o->h'.get? c=some o)->(∃o,h'.get? e=some o/\o.cls=.type "StopIteration") ->
   wpAny (model prog w) A (do let b ← isInstance (.ref e) (.type "StopIteration");if b=true then pure none else throw (.ref e)) Q E {s with heap:=h'}:=λh' e hk ⟨o,ho,hc⟩ =>
  aaf (wpAny_isInstance (T:="StopIteration") (b:=true) ⟨o,ho,hc⟩ isSubtype_stop (aat (hQ _ hk)))
 unfold pyNext;refine wpAny_bind (wpAny_attempt (wpAny_callSpecial?_slot (name:=Str.ofString "__next__") hT F.slot_zip_next (wpAny_call_entry F.slot_zip_next hT F.entry_zip_next ?_ (F.args_zip_next_1 _))));show wpAny _ _ (field (.ref z) 2 >>= _) _ _ _;refine wpAny_bind (wpAny_field hz rfl (x:=.bool false) rfl ?_);show wpAny _ _ (field (.ref z) 3 >>= _) _ _ _;refine wpAny_bind (wpAny_field hz rfl (x:=.ref TI) rfl (wpAny_bind (wpAny_seqItems hTI rfl ?_)));show wpAny _ _ (Builtin.SmallTypes.ownedTupleIsFree (.ref z) >>= _) _ _ _;refine wpAny_bind ?_;unfold Builtin.SmallTypes.ownedTupleIsFree;refine wpAny_bind (wpAny_field hz rfl (x:=.none) rfl (wpAny_pure ?_));simp only[if_true];refine wpAny_bind (wpAny_rule (wpAny_bind (wpAny_field hz rfl (x:=.ref TO) rfl (wpAny_bind (wpAny_setField_rec hz (by simp) λu1 Nz b1=>?_)))))
 replace Nz:IsZip u1 z TI TO .ellipsis:=Nz
 refine wpAny_bind ?_;simp only[List.zipIdx_cons,List.zipIdx_nil,List.forIn_cons,List.forIn_nil];refine wpAny_bind (wpAny_bind (wpAny_onRaise ?_));show wpAny _ _ (Builtin.SmallTypes.nextOf (.ref i1) >>= _) _ _ _
 cases hx:xs[k1]? with
 | none =>
  refine wpAny_bind (GG hh (h1.at λo e=>b1.extBut _ o D.i1z e) (GH.at λo e=>b1.extBut _ o D.l1z e) hx λu2 e b2 he=>?_);obtain⟨oe,hoe,hce⟩:=he;have R7:IsZip u2 z TI TO .ellipsis:=b2 _ _ D.i1z.symm Nz;have hez:e≠z:=λx=>by subst x;rw[R7]at hoe;cases hoe;simp at hce
  exact wpAny_setField_rec R7 (by simp) λu3 _ b3=>fin u3 e (λc o c1 _ c3 _ x=>b3.extBut _ _ c1 (b2 _ _ c3 (b1.extBut _ _ c1 x))) ⟨oe,b3.extBut _ _ hez hoe,hce⟩
 | some x =>
  have hy:ys[k2]?=none:=by rcases hend with h | h;rw[hx]at h;cases h;exact h
  refine wpAny_bind (yc (h1.at λo e=>b1.extBut _ o D.i1z e) (GH.at λo e=>b1.extBut _ o D.l1z e) hx λu2 Yn b2=>wpAny_pure ?_);have GI:IsPair u2 TO a b:=b2.extBut _ _ D.TOi1 (b1.extBut _ _ D.TOz hTO);refine wpAny_bind (wpAny_seqItems GI rfl (wpAny_bind (wpAny_updateSeq_pair GI λu3 KJ b3=>?_)));refine wpAny_bind (wpAny_letGo (wpAny_pure (wpAny_bind (wpAny_bind (wpAny_onRaise ?_)))));show wpAny _ _ (Builtin.SmallTypes.nextOf (.ref i2) >>= _) _ _ _;refine wpAny_bind (GG hh (h2.at λo e=>b3.extBut _ o D.TOi2.symm (b2.extBut _ o D.i12.symm (b1.extBut _ o D.i2z e))) (JN.at λo e=>b3.extBut _ o D.l2TO (b2.extBut _ o D.l2i1 (b1.extBut _ o D.l2z e))) hy λu4 e b4 he=>?_);obtain⟨oe,hoe,hce⟩:=he;have Yq:IsZip u4 z TI TO .ellipsis:=b4 _ _ D.i2z.symm (b3.extBut _ _ D.TOz.symm (b2.extBut _ _ D.i1z.symm Nz));have hez:e≠z:=λx=>by subst x;rw[Yq]at hoe;cases hoe;simp at hce
  exact wpAny_setField_rec Yq (by simp) λu5 _ b5=>fin u5 e (λc o c1 c2 c3 c4 x=>b5.extBut _ _ c1 (b4 _ _ c4 (b3.extBut _ _ c2 (b2.extBut _ _ c3 (b1.extBut _ _ c1 x))))) ⟨oe,b5.extBut _ _ hez hoe,hce⟩
theorem zH{q:Bool}{l:Addr}{its:Array Value}{Q:Value->Shared->Prop}(hl:ja q s.heap l its)(hQ:Q (.ref s.heap.objs.size) {s with heap:=s.heap.push {cls:=.type (Ta q),data:=.fields #[.ref l,.int 0 0]}}):
  wpAny (model prog w) A (pyIter (.ref l)) Q E s:=by
 cases q with
 | true=>exact abF hl hQ
 | false=>exact wpAny_pyIter_tuple hl hQ
theorem NA{q:Bool}{h:Heap}{it l:Addr}(e:h.get? it=some {cls:=.type (Ta q),data:=.fields #[.ref l,.int 0 0]}):fe q h it l 0:=by
 cases q<;>exact⟨_,e,rfl,rfl⟩
end
def Vc(q1:Bool)(h:Heap)(l1:Addr):Heap:=h.push {cls:=.type (Ta q1),data:=.fields #[.ref l1,.int 0 0]}
def Tc(q1 q2:Bool)(h:Heap)(l1 l2:Addr):Heap:=(Vc q1 h l1).push {cls:=.type (Ta q2),data:=.fields #[.ref l2,.int 0 0]}
def Td(q1 q2:Bool)(h:Heap)(l1 l2:Addr):Heap:=(Tc q1 q2 h l1 l2).push {cls:=.type "tuple",data:=.seq #[.ref h.objs.size,.ref (Vc q1 h l1).objs.size]}
def Te(q1 q2:Bool)(h:Heap)(l1 l2:Addr):Heap:=(Td q1 q2 h l1 l2).push {cls:=.type "tuple",data:=.seq #[.none,.none]}
def R8(q1 q2:Bool)(h:Heap)(l1 l2:Addr):Heap:=(Te q1 q2 h l1 l2).push {cls:=.type "zip",data:=.fields #[.none,.bool false,.bool false,.ref (Tc q1 q2 h l1 l2).objs.size,.ref (Td q1 q2 h l1 l2).objs.size]}
theorem BJ(q1 q2:Bool)(l1 l2:Addr)(xs ys:Array Value):
  Meets (Builtin.«zip.__new__» ⟨[.type "zip",.ref l1,.ref l2],[]⟩) (λ_ R s=>ja q1 s.heap l1 xs/\ja q2 s.heap l2 ys/\R (.ok (.ret (.ref (Te q1 q2 s.heap l1 l2).objs.size))) {s with heap:=R8 q1 q2 s.heap l1 l2}) :=
 .of_wp λprog w A R s h=>by
  obtain⟨hp,g,d,tk,os⟩:=s;obtain⟨GH,JN,h⟩:=h;have hsub:=sub_zip;have Zl:ja q1 (Shared.heap ⟨hp,g,d,tk,os⟩) l1 xs:=GH;have Zm:ja q2 (Shared.heap ⟨hp.push {cls:=.type (Ta q1),data:=.fields #[.ref l1,.int 0 0]},g,d,tk,os⟩) l2 ys:=ja.at JN λo e=>aab _ e
  wp_walk using zH Zl,zH Zm
  exact⟨_,rfl,h⟩
section
variable {prog:Program} {w:World} {A:Around} {E:Value->Shared->Prop} {s:Shared} {q1 q2:Bool}
theorem Ei{l1 l2:Addr}{xs ys:Array Value}{Q:Value->Shared->Prop}(GH:ja q1 s.heap l1 xs)(JN:ja q2 s.heap l2 ys)
  (h:∀h',IsZip h' (s.heap.objs.size + 4) (s.heap.objs.size + 2) (s.heap.objs.size + 3) .none->IsPair h' (s.heap.objs.size + 2) (.ref s.heap.objs.size) (.ref (s.heap.objs.size + 1)) ->
   IsPair h' (s.heap.objs.size + 3) .none .none->fe q1 h' s.heap.objs.size l1 0->fe q2 h' (s.heap.objs.size + 1) l2 0->(∀c o,s.heap.get? c=some o->h'.get? c=some o)->Q (.ref (s.heap.objs.size + 4)) {s with heap:=h'}) :
  wpAny (model prog w) A (call (.type "zip") [.ref l1,.ref l2]) Q E s:=by
 refine callType_new F.called_zip (by decide) (F.typeCall_zip_2 _ _) (F.newCall_zip_2 _ _) (λobj=>F.args_object_init_3 obj _ _) F.entry_zip_new (BJ q1 q2 l1 l2 xs ys) ⟨GH,JN,?_⟩;have z1:(Vc q1 s.heap l1).objs.size=s.heap.objs.size + 1:=Heap.size_push ..;have z2:(Tc q1 q2 s.heap l1 l2).objs.size=s.heap.objs.size + 2:=by unfold Tc;rw[Heap.size_push,z1]
 have z3:(Td q1 q2 s.heap l1 l2).objs.size=s.heap.objs.size + 3:=by unfold Td;rw[Heap.size_push,z2]
 have z4:(Te q1 q2 s.heap l1 l2).objs.size=s.heap.objs.size + 4:=by unfold Te;rw[Heap.size_push,z3]
 have g5:(R8 q1 q2 s.heap l1 l2).get? (Te q1 q2 s.heap l1 l2).objs.size=some _:=aaz _ rfl;have g4:(R8 q1 q2 s.heap l1 l2).get? (Td q1 q2 s.heap l1 l2).objs.size=some _:=aab _ (aaz _ rfl);have g3:(R8 q1 q2 s.heap l1 l2).get? (Tc q1 q2 s.heap l1 l2).objs.size=some _:=aab _ (aab _ (aaz _ rfl));have g2:(R8 q1 q2 s.heap l1 l2).get? (Vc q1 s.heap l1).objs.size=some _:=aab _ (aab _ (aab _ (aaz _ rfl)));have g1:(R8 q1 q2 s.heap l1 l2).get? s.heap.objs.size=some _:=aab _ (aab _ (aab _ (aab _ (aaz _ rfl))));show _/\_;rw[z2,z3,z4]at g5;rw[z1,z2]at g3;rw[z3]at g4;rw[z1]at g2;rw[z4];exact⟨⟨_,g5,rfl⟩,h _ g5 g3 g4 (NA g1) (NA g2) λc o x=>aab _ (aab _ (aab _ (aab _ (aab _ x))))⟩
end
def w8(q:Bool)(K:aH)(H:Hp)(a:Addr)(xs:List V):Prop:=match q with | true=>dC K H a xs | false=>dG K H a xs
theorem w8.heap{X:Cx}{pins:List (Addr×Obj)}{σ:St}{H:Hp}{s:Shared}{q:Bool}{a:Addr}{xs:List V}(I:Inv X pins σ H s)(h:w8 q X.K H a xs):∃its:List Value,Vals xs its/\ja q s.heap a its.toArray:=by
 cases q with
 | true=>obtain⟨its,r,p,_⟩:=I.list h;exact⟨its,r,p.isList⟩
 | false=>obtain⟨its,r,p,_⟩:=I.tuple h;exact⟨its,r,p⟩
theorem ja.lt{q:Bool}{h:Heap}{a:Addr}{its:Array Value}(x:ja q h a its):a < h.objs.size:=by
 cases q<;>(obtain⟨o,ho,r⟩:=x;exact aal ho)
theorem fe.lt{q:Bool}{h:Heap}{it a:Addr}{i:Nat}(x:fe q h it a i):it < h.objs.size:=by
 obtain⟨o,ho,_⟩:=x.obj;exact aal ho
def Yr(q1 q2:Bool)(K:aH)(l1 l2:Addr)(xs ys:List V):It :=
 ⟨λi H=>i < xs.length/\i < ys.length/\w8 q1 K H l1 xs/\w8 q2 K H l2 ys,
  λi H x H'=>∃T u v,H T=none/\x=.ref T/\H'=upd H T (.tup [u,v])/\xs[i]?=some u/\ys[i]?=some v,
  λi H=>(xs.length<=i∨ys.length<=i)/\w8 q1 K H l1 xs/\w8 q2 K H l2 ys⟩
theorem GK{P:Program}{w:World}{K:aH}{elts:List Expr}{kx}{pos:Pos}{q1 q2:Bool}{z TI TO i1 i2 l1 l2:Addr}(xs ys:List V)(D:ZipApart z TI TO i1 i2 l1 l2):
  Turn P w K (.Tuple elts kx pos) (Yr q1 q2 K l1 l2 xs ys) [z,TI,TO,i1,i2] z (λi h=>IsZip h z TI TO .none/\IsPair h TI (.ref i1) (.ref i2)/\(∃a b,IsPair h TO a b)/\fe q1 h i1 l1 i/\fe q2 h i2 l2 i) where
 mem:=by simp
 obj:=λi h st b hb=>by
  obtain⟨hz,hTI,⟨a,b',hTO⟩,h1,h2⟩:=st;simp at hb;rcases hb with e | e | e | e | e
  ·subst e;exact⟨_,hz,λv z=>by cases z⟩
  ·subst e;exact⟨_,hTI,λv z=>by cases z⟩
  ·subst e;exact⟨_,hTO,λv z=>by cases z⟩
  ·subst e;exact h1.obj
  ·subst e;exact h2.obj
 keep:=λi h h' st k=>by
  obtain⟨hz,hTI,⟨a,b',hTO⟩,h1,h2⟩:=st;exact⟨k z (by simp) _ hz,k TI (by simp) _ hTI,⟨a,b',k TO (by simp) _ hTO⟩,h1.at λo e=>k i1 (by simp) o e,h2.at λo e=>k i2 (by simp) o e⟩
 item:=by
  intro X hP hw hK hc i pins s σ H E I hf st hg;subst hP hw hK;obtain⟨g1,g2,s1,s2⟩:=hg;obtain⟨hz,hTI,⟨a,b',hTO⟩,h1,h2⟩:=st;obtain⟨us,r1,p1⟩:=s1.heap I;obtain⟨vs,r2,p2⟩:=s2.heap I;obtain⟨u,hu,ru⟩:=r1.get (cW g1);obtain⟨v,hv,rv⟩:=r2.get (cW g2);refine Eh (x:=u) (y:=v) D hz hTI hTO h1 h2 p1 p2 (by simpa using hu) (by simpa using hv) λh' a1 a2 a3 a4 a5 hk=>?_
  refine⟨_,rfl,wpAny_letOwnedTupleGo_zip a1 λh'' b1 sb=>?_⟩;have nT:∀{c o},s.heap.get? c=some o->c≠s.heap.objs.size:=λe=>aav (aal e)
  have hT:IsPair h'' s.heap.objs.size u v:=sb.extBut _ _ (nT hz).symm a5
  have kk:∀c o,c∉[z,TI,TO,i1,i2]->s.heap.get? c=some o->h''.get? c=some o:=λc o hc e=>by
   simp at hc;exact sb.extBut _ _ hc.1 (hk c o hc.1 hc.2.2.1 hc.2.2.2.1 hc.2.2.2.2 e)
  refine⟨.ref s.heap.objs.size,upd H s.heap.objs.size (.tup [xs[i],ys[i]]),I.C1 hf kk (aaj _) ⟨by show 2<=sizeLine;decide,[u,v],.cons ru (.cons rv .nil),_,hT,rfl,_,rfl⟩,rfl,⟨_,_,_,I.fresh,rfl,rfl,cW g1,cW g2⟩,?_,λb hb=>?_⟩
  ·exact⟨b1,sb.extBut _ _ D.TIz (hk _ _ D.TIz D.TITO D.TIi1 D.TIi2 hTI),⟨_,_,sb.extBut _ _ D.TOz a2⟩,a3.at λo e=>sb.extBut _ o D.i1z e,a4.at λo e=>sb.extBut _ o D.i2z e⟩
  ·rw[uN ?_]
   ·exact(hf b hb).1
   ·simp at hb;rcases hb with e | e | e | e | e
    ·subst e;exact nT hz
    ·subst e;exact nT hTI
    ·subst e;exact nT hTO
    ·subst e;exact aav h1.lt
    ·subst e;exact aav h2.lt
 done:=by
  intro X hP hw hK hc i pins s σ H E I hf st hg;subst hP hw hK;obtain⟨g1,s1,s2⟩:=hg;obtain⟨hz,hTI,⟨a,b',hTO⟩,h1,h2⟩:=st;obtain⟨us,r1,p1⟩:=s1.heap I;obtain⟨vs,r2,p2⟩:=s2.heap I;have e1:=r1.length;have e2:=r2.length;refine GJ (I.ok.hd hc) D hz hTI hTO h1 h2 p1 p2 ?_ λh' hk=>⟨rfl,I.C2 (t':=s.toks) hf λc o hc e=>?_⟩
  ·rcases g1 with g | g
   ·exact .inl (by simp;omega)
   ·exact .inr (by simp;omega)
  ·simp at hc;exact hk c o hc.1 hc.2.2.1 hc.2.2.2.1 hc.2.2.2.2 e
 self:=λ_ _ _ _ _ st h=>wpAny_pyIter_zip st.1 h
section
variable {X:Cx}
end
theorem jx{H:Hp}{p:Addr}(h:H p=none)(o:HO):aS H (upd H p o):=λb u q=>by rw[uN (nN q h)];exact q
section
variable {prog:Program} {w:World} {A:Around} {E:Value->Shared->Prop} {s:Shared}
theorem Ej{t sl:Addr}{items:Array Value}{vl vu:Value}{lo hi:Option Int}{Q:Value->Shared->Prop}(ht:IsTup s.heap t items)(hs:s.heap.IsSliceOf sl vl vu .none)(pl:IsPart vl lo)(pu:IsPart vu hi)
  (hw:HT.dY items.size 0 lo=0/\HT.dY items.size items.size hi=items.size) (h:Q (.ref t) s):wpAny (model prog w) A (getItem (.ref t) (.ref sl)) Q E s:=by
 obtain⟨os,hos,hcs,hds⟩:=id hs;have hTs:s.TypeIs (.ref sl) "slice":=⟨os,hos,hcs⟩;unfold getItem
 try with_reducible refine abW ?_
 first | refine aaf (aat ?_) | skip
 refine wpAny_bind (wpAny_sequenceKey ht.typeIs (by decide) ?_);refine wpAny_bind (wpAny_callSpecial?_slot (name:=Str.ofString "__getitem__") ht.typeIs PyProof.Rows.slot_tuple_getitem (wpAny_call_entry PyProof.Rows.slot_tuple_getitem ht.typeIs entry_tuple_getitem ?_ (args_tuple_getitem _ _)));show wpAny _ _ (Builtin.Tuple.tupleItemsOf (.ref t) >>= _) _ _ s;refine wpAny_bind (tupleItemsOf_ ht (wpAny_bind (wpAny_typeOf hTs ?_)));rw[if_pos (by decide)];refine wpAny_bind (HT.i9 hs pl pu ?_);show wpAny _ _ (if (((HT.dY items.size 0 lo:Nat):Int) == 0&&(1:Int) == 1&&(HT.dY items.size items.size hi - HT.dY items.size 0 lo) == items.size)=true then _ else _) _ _ s;rw[if_pos (by rw[hw.1,hw.2];simp)];unfold Builtin.Tuple.tupleIsExact;refine wpAny_bind (wpAny_bind (wpAny_typeOf ht.typeIs (wpAny_pure ?_)));rw[if_pos (by decide)];exact wpAny_bind (wpAny_rule (wpAny_pure ⟨_,rfl,wpAny_pure h⟩))
end
section
variable {X:Cx}
def Tf(K:aH):V->Option Int->Option Int->Hp->VK->Prop:=λx lo hi H Q=>∃a xs,x=.ref a/\dG K H a xs/\∀p H',aS H H'->dG K H' p (uM xs lo hi)->Q (.ref p) H'
theorem KN:JL X (Tf X.K):=by
 intro pins s σ H x v vl vu lo hi sl Q I rx hs pl pu h;obtain⟨a,xs,rfl,hx,q⟩:=h;by_cases hw:HT.dY xs.length 0 lo=0/\HT.dY xs.length xs.length hi=xs.length
 ·cases rx;obtain⟨its,r,ht,hz⟩:=I.tuple hx;have hlen:its.toArray.size=xs.length:=by rw[aaV];exact r.length.symm
  refine⟨"tuple",_,PyProof.Rows.slot_tuple_getitem.lookup,ht.typeIs,Ej ht hs pl pu (by rw[hlen];exact hw) ⟨.ref a,H,I,rfl,q a H (aS.refl _) ?_⟩⟩;have e:uM xs lo hi=xs:=by unfold uM;rw[hw.1,hw.2];simp
  rw[e];exact hx
 ·exact O2 pins s σ H _ v vl vu lo hi sl Q I rx hs pl pu ⟨a,xs,rfl,hx,hw,λp hp=>q p _ (jx hp _) (dG.of uS)⟩
def NB(K:aH):R2:=λx y H Q=>∃a b xs ys,x=.ref a/\y=.ref b/\dG K H a xs/\dG K H b ys/\xs.length + ys.length<=sizeLine/\∀p H',aS H H'->dG K H' p (xs++ys)->Q (.ref p) H'
theorem KO:gQ X (binaryOp .Add) (NB X.K):=by
 intro pins s σ H x y v u Q I rx ry h;obtain⟨a,b,xs,ys,rfl,rfl,ha,hb,hz,q⟩:=h;by_cases hx:xs=[]
 ·subst hx;cases rx;cases ry;obtain⟨its,r1,p1,_⟩:=I.tuple ha;obtain⟨Ec,r2,p2,_⟩:=I.tuple hb;cases r1;obtain⟨⟨c1,d1,e1,GA⟩,ho,hc,n,hd⟩:=id p1;obtain⟨⟨c2,d2,e2,OZ⟩,JK,O0,n2,hd2⟩:=id p2;simp only at hc hd O0 hd2;subst hc hd O0 hd2;exact concat_meets ⟨_,ho,rfl⟩ ⟨_,JK,rfl⟩ noFill_tuple_add seq_tuple_add PySem.F.slot_tuple_add PySem.F.entry_tuple_add (PySem.F.args_tuple_add_2 _ _)
   (tuple_addW0 a b _ Ec.toArray n n2 d1 d2 GA OZ (by simp)) ⟨ho,JK,⟨.ref b,H,I,rfl,q b H (aS.refl _) hb⟩⟩
 ·exact Kr pins s σ H _ _ v u Q I rx ry ⟨a,b,xs,ys,rfl,rfl,ha,hb,hx,hz,λe=>q a H (aS.refl _) (by rw[e,abb];exact ha),λ_ p hp=>q p _ (jx hp _) (dG.of uS)⟩
end
structure FE(P:Program)(w:World)(fs:List Env)(H H':Hp)(h0 B:Heap)(a:Addr)(cls a0:Value)(h:Heap):Prop where
 keep:∀b o,h0.get? b=some o->H b=none->b∉qk fs->B.get? b=some o
 there:∀b o,h0.get? b=some o->b∉qk fs->∃o',B.get? b=some o'
 slot:∀b o,h0.get? b=some o->b∈qk fs->∃sl,h.get? b=some {o with slots:=sl}
 free:∀b o,h0.get? b=some o->H b=none->H' b=none
 tups:∀b xs,H b=some (.tup xs)->H' b=some (.tup xs)
 dz:∀b o u,H b=some (.oY o u)->H' b=some (.oY o u)
 tbls:∀b ps,H b=some (.tbl ps)->∃more,H' b=some (.tbl (ps++more))
 hok:qj P w H' B
 fly:Heap.FlyingW B fs a cls a0 h
section
variable {P:Program} {w:World} {fs:List Env} {H H':Hp} {h0 B h h':Heap} {a:Addr} {cls a0:Value}
theorem FE.un(F:FE P w fs H H' h0 B a cls a0 h):Un (qk fs) [] H H' h0 h where
 keep:=λb o e n hb _=>F.fly.1 b o (F.keep b o e n hb)
 slot:=λb o e _ hb _=>F.slot b o e hb
 free:=λb o e n _=>F.free b o e n
 there:=λb o e _=>by
  by_cases hb:b∈qk fs
  ·obtain⟨sl,q⟩:=F.slot b o e hb;exact⟨_,q⟩
  ·obtain⟨o',q⟩:=F.there b o e hb;exact⟨o',F.fly.1 b o' q⟩
 tups:=F.tups
 dz:=F.dz
 tbls:=F.tbls
theorem FE.V2(F:FE P w fs H H' h0 B a cls a0 h):qj P w H' h:=F.hok.kept F.fly.1
theorem FE.new(F:FE P w fs H H' h0 B a cls a0 h):H' a=none:=by
 cases q:H' a with
 | none=>rfl
 | some u =>
  have:=(F.hok a u q).lt;have z:=F.fly.2.1
  exact absurd z (by
   intro z
   have e:∃o,B.get? a=some o:=by
    have ok:=F.hok a u q
    cases u with
    | lst xs=>obtain⟨_,_,_,_,e⟩:=ok;exact⟨_,e⟩
    | tup xs=>obtain⟨_,_,_,o,e,_⟩:=ok;exact⟨_,e⟩
    | dK kvs=>obtain⟨_,_,_,_,o,_,_,e,_⟩:=ok;exact⟨_,e⟩
    | dT kvs=>obtain⟨_,_,_,_,o,_,_,e,_⟩:=ok;exact⟨_,e⟩
    | set S n=>obtain⟨o,_,_,_,e,_⟩:=ok;exact⟨_,e⟩
    | ins C dx fs=>obtain⟨_,_,_,e,_⟩:=ok;exact⟨_,e⟩
    | own y=>exact ok
    | xd fs=>obtain⟨_,⟨o,_,_,e,_⟩,_⟩:=ok;exact⟨_,e⟩
    | rng lo hi=>obtain⟨_,_,_,e⟩:=ok;exact⟨_,e⟩
    | oY ob u=>obtain⟨e,_⟩:=ok;exact⟨_,e⟩
    | tbl ps=>exact⟨_,ok⟩
    | met f y=>exact⟨_,ok⟩
    | ext φ=>obtain⟨_,e,_⟩:=ok;exact e
   obtain⟨o,e⟩:=e;rw[z]at e;cases e)
theorem FE.on(F:FE P w fs H H' h0 B a cls a0 h)(fl:Heap.FlyingW B fs a cls a0 h')(u:h.UpToSlots h'):FE P w fs H H' h0 B a cls a0 h' :=
 ⟨F.keep,F.there,λb o e hb=>by
  obtain⟨sl,q⟩:=F.slot b o e hb;obtain⟨_,o',ho',hn⟩:=F.fly.2.2.1.mem hb;rw[q]at ho';have e1:=aaJ ho';obtain⟨sl',q'⟩:=u b _ q (by rw[e1];exact hn);exact⟨sl',q'⟩,F.free,F.tups,F.dz,F.tbls,F.hok,fl⟩
end
section
variable {P:Program} {w:World} {K:aH} {mg:Str->Option Value} {base:Heap} {N:List Str} {qual:Str} {scope:Scope} {f:Addr} {cd:Value} {A:Around} {outer:List Env} {s₀:Shared} {H₀:Hp} {E:XK}
theorem cy{env:Env}{l:List Env}{L b:Addr}(hf:env.frame=some L):b∈qk (env::l)↔b=L∨b∈qk l:=by
 unfold qk;rw[List.filterMap_cons,hf];exact List.mem_cons
end
def GL:Bool->List Value
 | true=>[.type "ValueError",.type "Exception",.type "BaseException",.type "object"]
 | false=>[.type "Exception",.type "BaseException",.type "object"]
def Ys:Bool->String
 | true=>"ValueError"
 | false=>"Exception"
def Pm:Bool->String
 | true=>"ValueError.__new__"
 | false=>"Exception.__new__"
def Zn:Bool->String
 | true=>"ValueError.__init__"
 | false=>"Exception.__init__"
theorem Yt:∀b,PySem.ExcBaseFacts (Ys b) (Pm b) (Zn b) (GL b)
 | true=>F.excBase_ValueError
 | false=>F.excBase_Exception
theorem KP(b:Bool):(GL b).contains (.type (Ys b))=true:=by cases b<;>decide
theorem GN(b:Bool):(GL b).contains (.type "BaseException")=true:=by cases b<;>decide
section
variable {X:Cx} {x:Str} {C:Addr} {E:XK} {np cpos pos:Pos}
end
def ExcAt(C a:Addr):Heap->Prop:=λh=>∃o vs,h.get? a=some o/\o.cls=.ref C/\o.data=.fields vs
theorem excMatches_K{K:aH}{M:Model}{A:Around}{E:Value->Shared->Prop}{h:Heap}{g:Array GenState}{d:Drawn}{t:Nat}{os:OsState}{a C CW:Addr}{oe:Obj}{Q:Bool->Shared->Prop}(X:K.In h)(he:h.get? a=some oe)(hcls:oe.cls=.ref C)
  (q:PySem.W.ktsIn K CW "BaseException"=true) (m:PySem.W.mroIn K C (.ref CW)=some true) (hq:Q true ⟨h,g,d,t,os⟩):wpAny M A (excMatches (.ref a) (.ref CW)) Q E ⟨h,g,d,t,os⟩:=by
 obtain⟨nm,qn,N,bs,bm,hdct,sn,sub,ab,col,dd,k0,k1,k2,k3,k5,newId,hC,hbase,_⟩:=PySem.W.kts_cls X q;have hcB:(Value.ref CW::bm).contains (.type "BaseException")=true:=by rw[List.contains_cons,hbase,Bool.or_true]
 have f:=tc_notTuple;have L:=PySem.W.looks_mroIn (M:=M) X m;unfold excMatches
 repeat (first | (with_reducible refine aaK he ?_;rw[hcls]) | with_reducible refine aaK hC ?_ | (with_reducible refine acm hC ?_;rw[hcB]) | with_reducible refine L.at ?_ | wp_step)
 exact hq
abbrev Cx.hand(X:Cx)(a:Addr)(E:Value->Shared->Prop):Cx:={X with A:=X.A.mark (some (.ref a)),calm:=false,xe:=E}
section
variable {X:Cx} {pins:List (Addr×Obj)} {σ:St} {H:Hp} {s:Shared}
theorem Inv.hand(I:Inv X pins σ H s)(a:Addr)(E:Value->Shared->Prop):Inv (X.hand a E) pins σ H s :=
 ⟨⟨I.ok.mod,I.ok.kind,I.ok.glob,I.ok.blt,I.ok.above,I.ok.inj,I.ok.has,I.ok.cab,(λz=>nomatch (show false=true from z)),I.ok.frames,I.ok.stk,I.ok.exf,I.ok.bs,I.ok.bsz,I.ok.noex,I.ok.exfs,I.ok.rL,I.ok.frf⟩,I.os,I.bare,I.base,I.loc,I.cell,I.free,I.freeC,I.pin,I.hok,I.len⟩
theorem Inv.yd{a:Addr}{E:Value->Shared->Prop}(ok:X.Ok)(I:Inv (X.hand a E) pins σ H s):Inv X pins σ H s:=⟨ok,I.os,I.bare,I.base,I.loc,I.cell,I.free,I.freeC,I.pin,I.hok,I.len⟩
theorem Inv.adopt{a:Addr}{φ:Heap->Prop}(I:Inv X pins σ H s)(hn:H a=none)(h1:X.s₀.heap.get? a=none)(hL:a≠X.env.locals)(hfs:a∉X.fs)(hc:∀x c,X.env.cells.lookup x=some c->c≠a)(hp:∀p∈X.pn++pins,p.1≠a)
  (ok:φ s.heap/\(∃o,s.heap.get? a=some o)/\∀u v:Heap,φ u->(∀o,u.get? a=some o->v.get? a=some o)->φ v):Inv X pins σ (upd H a (.ext φ)) s:=by
 refine⟨I.ok,I.os,I.bare,⟨I.base.keep,I.base.slot,λb o e n hx=>?_,I.base.there,λb xs e=>?_,λb o u e=>?_,λb ps e=>?_⟩,I.loc,I.cell,?_,λx c e=>?_,λp hq=>?_,λb u e=>?_,I.len⟩
 ·rw[uN (λz=>by rw[z,h1]at e;cases e)];exact I.base.free b o e n hx
 ·have e':=I.base.tups b xs e;rw[uN (nN e' hn)];exact e'
 ·have e':=I.base.dz b o u e;rw[uN (nN e' hn)];exact e'
 ·obtain⟨m,e'⟩:=I.base.tbls b ps e;exact⟨m,by rw[uN (nN e' hn)];exact e'⟩
 ·rw[uN (acn hL)];exact I.free
 ·rw[uN (hc x c e)];exact I.freeC x c e
 ·obtain⟨q1,q2,q3⟩:=I.pin p hq;exact⟨q1,by rw[uN (hp p hq)];exact q2,q3⟩
 ·by_cases hb:b=a
  ·subst hb;rw[uS]at e;cases e;exact ok
  ·rw[uN hb]at e;exact(I.hok b u e).rK (λ_ _ _ q=>q) (λc q=>by rw[uN (nN q hn)];exact q) λc xs q=>by rw[uN (nN q hn)];exact q
theorem C3{M:Model}{A:Around}{E:Value->Shared->Prop}{i:Nat}{n:Str}{pos:Pos}{Q:Unit->Shared->Prop}(I:Inv X pins σ H s)(hN:X.N.Nodup)(hi:X.N[i]?=some n)(hk:X.env.kindOf n=some .local)
  (h:∀s',Inv X pins (σ.set i none) H s'->Q () s'):wpAny M A (do bindName X.env n .none;unbindBehindTheSuite X.env n pos) Q E s:=by
 obtain⟨m,hn,hl⟩:=id I.loc;have hcls:(X.env.scope.kind == .class||(X.env.scope.kind == .module&&X.env.locals != X.env.globals))=false:=by rw[I.ok.kind];rfl
 have hiσ:i < σ.length:=by rw[I.len];exact(bz hi).1
 obtain⟨oL,_,_,hoL,_⟩:=id hn;refine wpAny_nameGoes_keeps hk hn hcls λh' v hn' hs=>?_
 refine h _ ⟨I.ok,I.os,I.bare,⟨λb o e n hb hx=>?_,λb o e n hb hx=>?_,I.base.free,λb o e hx=>?_,I.base.tups,I.base.dz,I.base.tbls⟩,⟨_,hn',λj y v' e1 e2 e3=>?_⟩,λy c e=>?_,I.free,I.freeC,λp hp=>?_,λb ob e=>?_,by simpa using I.len⟩
 ·exact(hs.2 b (aav (aap (aal e) I.ok.above))).trans (I.base.keep b o e n hb hx)
 ·obtain⟨sl,e1⟩:=I.base.slot b o e n hb hx;exact⟨sl,(hs.2 b (aav (aap (aal e) I.ok.above))).trans e1⟩
 ·obtain⟨o',e1⟩:=I.base.there b o e hx;exact⟨o',(hs.2 b (aav (aap (aal e) I.ok.above))).trans e1⟩
 ·by_cases hj:j=i
  ·subst hj;rw[aar hiσ]at e2;cases e2
  ·rw[aaq (acn hj)]at e2;obtain⟨u',r',q⟩:=hl j y v' e1 e2 e3;refine⟨u',r',?_⟩;rcases q with⟨k,e⟩ | ⟨k,c,e,z⟩
   ·refine .inl ⟨k,?_⟩;have:y≠n:=λe=>hj (uD hN e1 (e ▸ hi))
    simp[this,e]
   ·exact .inr ⟨k,c,e,z.sameBut hs (I.Kf y c e)⟩
 ·obtain⟨w',z⟩:=I.cell y c e;exact⟨w',z.sameBut hs (I.Kf y c e)⟩
 ·obtain⟨e,n,ne,nf,d⟩:=I.pin p hp;exact⟨(hs.2 p.1 ne).trans e,n,ne,nf,d⟩
 ·refine(I.hok b ob e).rK (λc w' hc q=>(hs.2 c ?_).trans q) (λ_ q=>q) λ_ _ q=>q
  rintro rfl;rcases hc with rfl | hc
  ·rw[I.free]at e;cases e
  ·rw[I.free]at hc;cases hc
end
section
variable {X:Cx} {CW:Addr} {cx n:Str} {i:Nat} {b₀:Stmt} {suite:List Stmt} {np hpos pos:Pos} {tb:TS}
end
open PySem PySem.Spec PyProof.Rows PySem.W Builtin.Getset_descriptor
structure KX(K:Frag)(C:Addr):Prop where
 ga:findIn K (.ref C) "__getattribute__"=some (some (.builtin "BaseException.__getattribute__"))
 gh:findIn K (.ref C) "__getattr__"=some none
 cl:findIn K (.ref C) "__class__"=some (some (.builtin "object.__class__"))
 mb:mroIn K C (.type "BaseException")=some true
 mo:mroIn K C (.type "object")=some true
section
variable {prog:Program} {w:World} {A:Around} {E:Value->Shared->Prop} {K:Frag} {a C:Addr} {o:Obj} {h:Heap} {g:Array GenState} {d:Drawn} {t:Nat} {os:OsState}
theorem GO{R:Result->Shared->Prop}(X:K.In h)(k:KX K C)(hx:h.get? a=some o)(hc:o.cls=.ref C)(hq:R (.ok (.ret (.ref C))) ⟨h,g,d,t,os⟩):
  codeAny (model prog w) A (.call (.builtin "getset_descriptor.__get__") ⟨[.builtin "object.__class__",.ref a,.ref C],[]⟩) R ⟨h,g,d,t,os⟩:=by
 have L0:Looks (model prog w) h (typeOf (.ref a)) (.ref C):=hc ▸ (Looks.ld hx).andThen .now;have L1:=looks_mroIn (M:=model prog w) X k.mo;refine codeAny_call_builtin KF.slot_gs.plain KF.entry_gs (KF.slot_gs.check _ _ _ _ _ _ _ _ KF.type_class (KF.args_gs _ _ _) ?_);unfold Builtin.«getset_descriptor.__get__» descrGet;rw[dga_obj];refine wpAny_bind (wpAny_pure ?_);unfold descrGetter descrCheckInstance descrNameAndClass isInstance;simp only[KF.owner_class]
 repeat lk
 refine⟨Code.quiet_builtin _ (by decide +kernel),codeAny_builtin KF.entry_class ?_⟩;unfold Builtin.«object.__class__» shownTypeOf
 repeat lk
 exact hq
theorem GP{tk:Tok}{Q:Fin->Shared->Prop}(X:K.In h)(k:KX K C)(hx:h.get? a=some o)(hc:o.cls=.ref C)(hq:Q (.done (.ret (.ref C))) ⟨h,g,d,t,os⟩):
  wpAny (model prog w) A (Builtin.«object.__getattribute__» ⟨[.ref a,.str "__class__" tk],[]⟩) Q E ⟨h,g,d,t,os⟩:=by
 have L0:Looks (model prog w) h (typeOf (.ref a)) (.ref C):=hc ▸ (Looks.ld hx).andThen .now;have L1:=abO (M:=model prog w) X k.cl;have hT5:(⟨h,g,d,t,os⟩:Shared).TypeIs (.builtin "object.__class__") "getset_descriptor":=F.typeOf_object_class;have f5:=F.typeOf_object_class;have f6:=F.slot_gs_get.lookup;have f7:=F.slot_gs_set.lookup
 repeat (any_goals (first | assumption | with_reducible refine L1.at ?_ | (with_reducible refine aaK hx ?_;rw[hc]) | wp_step))
 refine GO X k hx hc ?_
 repeat (any_goals (first | assumption | wp_step))
theorem zI{M:Model}{nameV:Value}{Q:Unit->Shared->Prop}(X:K.In h)(k:KX K C)(hx:h.get? a=some o)(hc:o.cls=.ref C)(hq:Q () ⟨h,g,d,t,os⟩):wpAny M A (checkBuiltinCall "BaseException.__getattribute__" ⟨[.ref a,nameV],[]⟩) Q E ⟨h,g,d,t,os⟩:=by
 have L1:=looks_mroIn (M:=M) X k.mb;have hk:builtinKind "BaseException.__getattribute__"=some .slot:=by decide +kernel
 have hsplit:splitId "BaseException.__getattribute__"=some ("BaseException","__getattribute__"):=by decide +kernel
 have ha:=F.args_bexc_ga (.ref a) nameV;simp only[checkBuiltinCall,hk,hsplit];refine wpAny_bind ?_;unfold isInstance
 repeat (first | (with_reducible refine aaK hx ?_;rw[hc]) | with_reducible refine L1.at ?_ | wp_step)
 exact hq
theorem KQ{tk:Tok}{Q:Value->Shared->Prop}(X:K.In h)(k:KX K C)(hx:h.get? a=some o)(hc:o.cls=.ref C)(hq:Q (.ref C) ⟨h,g,d,t,os⟩):
  wpAny (model prog w) A (getAttrBy (.ref a) (.str "__class__" tk) false false) Q E ⟨h,g,d,t,os⟩:=by
 have L1:=abO (M:=model prog w) X k.ga;have L2:=abO (M:=model prog w) X k.gh;have f3:=abV.ga.bind (.ref a);have V3:(false&&onTheHeap (Value.builtin "BaseException.__getattribute__"))=false:=rfl;have R9:(Value.builtin "BaseException.__getattribute__" == Value.builtin "object.__getattribute__")=false:=by decide +kernel
 have V4:(onTheHeap (Value.ref C)&&Value.builtin "BaseException.__getattribute__" == Value.builtin "object.__getattribute__")=false:=by rw[R9];rfl
 repeat (any_goals (first | assumption | (with_reducible refine aaK hx ?_;rw[hc]) | with_reducible refine L1.at ?_ | with_reducible refine L2.at ?_ | wp_step))
 refine acf abV.ga.plain F.entry_bexc_ga (zI X k hx hc (GP X k hx hc ?_))
 repeat (any_goals (first | assumption | wp_step))
theorem Ek{Q:Option Value->Shared->Prop}(X:K.In h)(k:KX K C)(hx:h.get? a=some o)(hc:o.cls=.ref C)(hq:Q (some (.ref C)) ⟨h,g,d,t + 1,os⟩):wpAny (model prog w) A (getAttr? (.ref a) "__class__") Q E ⟨h,g,d,t,os⟩:=by
 unfold getAttr? getAttrBy?
 repeat (any_goals (first | assumption | with_reducible apply KQ X k hx hc | wp_step))
end
theorem GQ{K:Frag}{a C:Addr}{cd:ClassData}(k:KX K C)(hC:clsIn K C=some cd):KitX K (.ref a) (.ref C) (ExcAt C a) where
 ty:=λ_ _ _ ⟨o,_,h1,h2,_⟩=>h2 ▸ (Looks.ld h1).andThen .now
 it:=λ_ _ X _=>by
  unfold clsIn at hC;split at hC
  ·rename_i c' d' cd' sl' ho;intro A' Q' E' s' kk q;unfold isType loadHead;exact wpAny_bind (wpAny_loadPart (kk _ _ (X _ _ ho)) (wpAny_pure q))
  ·cases hC
 ne:=λh tp dd its n sl X e=>by
  refine acw.mpr λq=>?_
  have z:=beq_iff_eq.mp q;cases z;unfold clsIn at hC;split at hC
  ·rename_i c' d' cd' sl' ho;have:=X _ _ ho;rw[e]at this;cases this
  ·cases hC
 ca:=λ{_ _ _ _ _ s} X p q=>by
  obtain⟨o,vs,h1,h2,_⟩:=p;obtain⟨h,g,d,t,os⟩:=s;exact Ek X k h1 h2 q
section
variable {X:Cx}
end
def GR(_i j:Int):Prop:=j≠0/\j.natAbs < 18446744073709551616
theorem GR.ok{i j:Int}(hc:GR i j):Builtin.divisionGoesByPylong i j=false:=by
 refine PyProof.noPylong_of_log2 ?_;have z:j.natAbs≠0:=λz=>hc.1 (Int.natAbs_eq_zero.mp z)
 exact aap ((Nat.log2_lt z).mpr (show j.natAbs < 2 ^ 64 from hc.2)) (by decide)
def Yu(K:aH)(l:Addr)(xs:List V):It :=
 ⟨λi H=>i < xs.length/\dC K H l xs,
  λi H x H'=>∃T v,H T=none/\x=.ref T/\H'=upd H T (.tup [.int (i:Int),v])/\xs[i]?=some v,
  λi H=>xs.length<=i/\dC K H l xs⟩
theorem El{P:Program}{w:World}{K:aH}{elts:List Expr}{kx}{pos:Pos}{e it l:Addr}(xs:List V)(hne:e≠it):
  Turn P w K (.Tuple elts kx pos) (Yu K l xs) [e,it] e (λi h=>(∃old,IsEnum h e it i old)/\h.IsListIter it l i) where
 mem:=by simp
 obj:=λi h st b hb=>by
  obtain⟨⟨old,he⟩,h1⟩:=st;simp at hb;rcases hb with z | z
  ·subst z;exact⟨_,he,λv z=>by cases z⟩
  ·subst z;exact(show fe true h b l i from h1).obj
 keep:=λi h h' st k=>by
  obtain⟨⟨old,he⟩,h1⟩:=st;exact⟨⟨old,k e (by simp) _ he⟩,(show fe true h it l i from h1).at λo x=>k it (by simp) o x⟩
 item:=by
  intro X hP hw hK hc i pins s σ H E I hf st hg;subst hP hw hK;obtain⟨g1,s1⟩:=hg;obtain⟨⟨old,he⟩,h1⟩:=st;obtain⟨us,r1,p1,hz⟩:=I.list s1;obtain⟨u,hu,ru⟩:=r1.get (cW g1);refine wpAny_pyNext_enum_item (x:=u) he h1 p1.isList (by simpa using hu) hne λh' a1 a2 a3 a4 hk=>?_
  refine⟨_,rfl,wpAny_letOwnedTupleGo_enum a1 λh'' b1 sb=>?_⟩;have nT:∀{c o},s.heap.get? c=some o->c≠s.heap.objs.size:=λe=>aav (aal e)
  have hT:=sb.extBut _ _ (nT he).symm a3
  have kk:∀c o,c∉[e,it]->s.heap.get? c=some o->h''.get? c=some o:=λc o hc x=>by
   simp at hc;exact sb.extBut _ _ hc.1 (hk c o hc.1 hc.2 x)
  refine⟨.ref s.heap.objs.size,upd H s.heap.objs.size (.tup [.int (i:Int),xs[i]]),I.C1 hf kk (aaj _) ⟨by show 2<=sizeLine;decide,[.int i s.toks,u],.cons ⟨_,rfl⟩ (.cons ru .nil),_,hT,rfl,_,rfl⟩,rfl,⟨_,_,I.fresh,rfl,rfl,cW g1⟩,?_,λb hb=>?_⟩
  ·exact⟨⟨_,b1⟩,(show fe true h' it l (i + 1)from a2).at λo x=>sb.extBut _ o hne.symm x⟩
  ·rw[uN ?_]
   ·exact(hf b hb).1
   ·simp at hb;rcases hb with z | z
    ·subst z;exact nT he
    ·subst z;exact aav (show fe true s.heap b l i from h1).lt
 done:=by
  intro X hP hw hK hc i pins s σ H E I hf st hg;subst hP hw hK;obtain⟨g1,s1⟩:=hg;obtain⟨⟨old,he⟩,h1⟩:=st;obtain⟨us,r1,p1,hz⟩:=I.list s1;have e1:=r1.length;refine wpAny_pyNext_enum_end (I.ok.hd hc) he h1 p1.isList (by simp;omega) λh' hk=>⟨rfl,I.C2 (t':=s.toks) hf λc o hc x=>?_⟩
  simp at hc;exact hk c o hc.2 x
 self:=λ_ _ _ _ _ st h=>by
  obtain⟨⟨old,he⟩,_⟩:=st;exact wpAny_pyIter_enum he h
section
variable {X:Cx}
def Tg(K:aH)(ta:TA):TI:=λσ H R=>ta σ H λvs H1=>∃l xs,vs=[.ref l]/\dC K H1 l xs/\R (Yu K l xs) H1
theorem KR{elts:List Expr}{kx}{tpos:Pos}{a:Expr}{ta:TA}{p pos:Pos}(hg:Gl X "enumerate")(hm:X.mg "enumerate"=none)(ha:PA X [a] ta)(hs:starEach [a] X.env=[(false,eval a X.env)]:=by rfl):
  PI X (.Tuple elts kx tpos) (.Call (.Name "enumerate" p) [a] [] pos) (Tg X.K ta):=by
 intro pins s σ H R I h;refine Call_ (kL I hg hm ya (aaZ (bU (ha pos pins s σ H _ I h) λus s1 ⟨vs,H1,I1,r1,q1⟩=>?_) hs rfl));obtain⟨l,xs,rfl,s1',q⟩:=q1;obtain⟨u1,rfl,Pk⟩:=vals1 r1;cases Pk;obtain⟨Th,r1,p1,hz⟩:=I1.list s1';refine call_enumerate_list p1.isList λh' he h1 hsz kk=>?_
 refine wpAny_pyIter_enum he ?_;refine⟨s1.heap.objs.size + 1,[s1.heap.objs.size + 1,s1.heap.objs.size],_,_,H1,rfl,I1.kept (t':=s1.toks) kk,El xs (abk (Nat.lt_succ_self _)),⟨⟨_,he⟩,h1⟩,?_,q⟩;intro c hb
 have hb':s1.heap.objs.size<=c:=by
  simp at hb;rcases hb with e | e<;>(rw[e];first | exact Nat.le_refl _ | exact Nat.le_add_right _ _)
 exact I1.FV hb' (I1.hok.fresh hb')
end
theorem rR:fillsNumberSlot (.type "tuple") "mul"=pure false :=
 PySem.fillsNumberSlot_seq (id:="tuple.__mul__") (r:=some (.builtin "tuple.__rmul__")) F.slot_tuple_mul.lookup (by decide +kernel) F.slot_tuple_rmul.lookup (by decide +kernel)
theorem ye:seqRepeat? (.type "tuple")=pure (some (.builtin "tuple.__mul__")):=by
 unfold seqRepeat?;rw[PySem.seqSlot_of (T:="tuple") (name:="__mul__") (id:="tuple.__mul__") F.slot_tuple_mul.lookup (by decide +kernel),PySem.seqSlot_of (T:="tuple") (name:="__rmul__") (id:="tuple.__rmul__") F.slot_tuple_rmul.lookup (by decide +kernel)];rfl
theorem yf(a:Int)(t:Tok)(l:Addr)(items:Array Value)(n:Nat)(d:Option Addr)(sl:Array (Option Value)):
  Meets (Builtin.«int.__rmul__» ⟨[.int a t,.ref l],[]⟩) (λ_ R s=>s.heap.get? l=some {cls:=.type "tuple",dict:=d,data:=.seq items n,slots:=sl}/\R (.ok (.ret Value.notImplemented)) s) :=
 .of_wp λprog w A R s h=>by obtain⟨hp,g,dd,tk,os⟩:=s;obtain⟨hl,h⟩:=h;wp_walk;exact⟨_,rfl,h⟩
theorem zJ(l:Addr)(items:Array Value)(n:Nat)(x:Int)(u:Tok)(d:Option Addr)(sl:Array (Option Value))(h1:x=1):
  Meets (Builtin.«tuple.__mul__» ⟨[.ref l,.int x u],[]⟩) (λ_ R s=>s.heap.get? l=some {cls:=.type "tuple",dict:=d,data:=.seq items n,slots:=sl}/\R (.ok (.ret (.ref l))) s) :=
 .of_wp λprog w A R s h=>by obtain⟨hp,g,dd,tk,os⟩:=s;obtain⟨hl,h⟩:=h;subst h1;wp_walk;exact⟨_,rfl,h⟩
theorem yg(l:Addr)(items:Array Value)(n:Nat)(x:Int)(u:Tok)(d:Option Addr)(sl:Array (Option Value))(c1:(decide (x < -(2 ^ 63))||decide (x ≥ 2 ^ 63))=false)(c2:(items.isEmpty||x == 1)=false)(c3:(decide (x<=0)||items.isEmpty)=true):
  Meets (Builtin.«tuple.__mul__» ⟨[.ref l,.int x u],[]⟩) (λ_ R s=>s.heap.get? l=some {cls:=.type "tuple",dict:=d,data:=.seq items n,slots:=sl}/\R (.ok (.ret (.ref s.heap.objs.size))) {s with heap:=s.heap.push {cls:=Value.type "tuple",data:=Data.seq #[]},toks:=s.toks}) :=
 .of_wp λprog w A R s h=>by
  obtain⟨hp,g,dd,tk,os⟩:=s;obtain⟨hl,h⟩:=h
  wp_walk;refine acg (aax (by rw[c1];decide)) ?_;wp_walk;exact⟨_,rfl,h⟩
theorem yh(l:Addr)(items:Array Value)(n:Nat)(x:Int)(u:Tok)(d:Option Addr)(sl:Array (Option Value))(c1:(decide (x < -(2 ^ 63))||decide (x ≥ 2 ^ 63))=false)(c2:(items.isEmpty||x == 1)=false)(c3:(decide (x<=0)||items.isEmpty)=false)(c4:¬ (items.size:Int) * x > (2 ^ 63 - 1) / 8)(c5:Builtin.Tuple.tupleTooMany ((items.size:Int) * x)=false)
  (hs:(List.foldl (λx1 x2=>x1++x2) #[] (List.replicate x.toNat items)).size<=sizeLine) :
  Meets (Builtin.«tuple.__mul__» ⟨[.ref l,.int x u],[]⟩) (λ_ R s=>s.heap.get? l=some {cls:=.type "tuple",dict:=d,data:=.seq items n,slots:=sl}/\R (.ok (.ret (.ref s.heap.objs.size))) {s with heap:=s.heap.push {cls:=Value.type "tuple",data:=Data.seq (List.foldl (λx1 x2=>x1++x2) #[] (List.replicate x.toNat items))},toks:=s.toks}) :=
 .of_wp λprog w A R s h=>by
  obtain⟨hp,g,dd,tk,os⟩:=s;obtain⟨hl,h⟩:=h
  wp_walk;refine acg (aax (by rw[c1];decide)) ?_;wp_walk;refine acg (aax c4) ?_;wp_walk;exact⟨_,rfl,h⟩
section
variable {X:Cx}
def NC(K:aH):R2:=λx y H Q=>∃a xs k,x=.ref a/\y=.int k/\dG K H a xs/\xs≠[]/\-9223372036854775808<=k/\k < 9223372036854775808/\xs.length * k.toNat<=sizeLine/\∀p H',aS H H'->dG K H' p (List.replicate k.toNat xs).flatten->Q (.ref p) H'
theorem KS:gQ X (binaryOp .Mult) (NC X.K):=by
 intro pins s σ H x y v u Q I rx ry h;obtain⟨a,xs,k,rfl,rfl,ha,hx,h1,h2,hz,q⟩:=h;cases rx;obtain⟨t,rfl⟩:=ry;obtain⟨its,r1,p1,hsz⟩:=I.tuple ha;obtain⟨⟨c1,d1,e1,GA⟩,ho,hc,n,hd⟩:=id p1;simp only at hc hd;subst hc hd;have hlen:its.toArray.size=xs.length:=by rw[List.size_toArray];exact r1.length.symm
 have b1:(decide (k < -(2 ^ 63))||decide (k ≥ 2 ^ 63))=false:=by simp;omega
 have go:wpAny (model X.prog X.w) X.A (call (.builtin "tuple.__mul__") [.ref a,.int k t]) (EP X pins σ Q) X.xe s:=by
  by_cases KU:k=1
  ·refine acz F.slot_tuple_mul ⟨_,ho,rfl⟩ F.entry_tuple_mul (F.args_tuple_mul_2 _ _) (zJ a its.toArray n k t d1 GA KU) ⟨ho,?_⟩;refine⟨.ref a,H,I,rfl,q a H (aS.refl _) ?_⟩;subst KU;show dG X.K H a (xs++[]);rw[abb];exact ha
  ·have hne:¬ its.toArray.isEmpty=true:=by
    intro z;apply hx;rw[Array.isEmpty_iff_size_eq_zero,hlen]at z;exact ab2.mp z
   have b2:(its.toArray.isEmpty||k == 1)=false:=by
    refine acw.mpr ?_;show ¬ _;rw[Bool.or_eq_true];rintro(z | z)
    ·exact hne z
    ·exact KU (by simpa using z)
   by_cases Yv:k<=0
   ·refine call_meets F.slot_tuple_mul ⟨_,ho,rfl⟩ F.entry_tuple_mul (F.args_tuple_mul_2 _ _) (yg a its.toArray n k t d1 GA b1 b2 (by simp[Yv])) ⟨ho,?_⟩;refine⟨.ref s.heap.objs.size,_,I.laid (t':=s.toks) (o:=.tup []) (λb ob q=>Heap.get?_push_of_some _ q) (Nat.le_refl _) ⟨by simp,[],.nil,IsTup.new _ _⟩,rfl,q _ _ (jx (I.hok.fresh (Nat.le_refl _)) _) (dG.of ?_)⟩;rw[show k.toNat=0 by omega];exact uS
   ·have b3:(decide (k<=0)||its.toArray.isEmpty)=false:=by
     refine acw.mpr ?_;show ¬ _;rw[Bool.or_eq_true];rintro(z | z)
     ·exact Yv (abG z)
     ·exact hne z
    have hprod:(its.toArray.size:Int) * k=((xs.length * k.toNat:Nat):Int):=by
     rw[hlen,Int.natCast_mul,show((k.toNat:Nat):Int)=k by omega]
    have hcap:(sizeLine:Nat)<=(2 ^ 63 - 1) / 8:=by decide
    have hfold:List.foldl (λx1 x2=>x1++x2) #[] (List.replicate k.toNat its.toArray)=(List.replicate k.toNat its).flatten.toArray:=by
     have:=foldl_rep its k.toNat [];rw[List.nil_append]at this;exact this
    have hfl:(List.replicate k.toNat its).flatten.length=k.toNat * its.length:=len_rep its k.toNat;have hitl:its.length=xs.length:=by rw[← hlen,aaV]
    refine call_meets F.slot_tuple_mul ⟨_,ho,rfl⟩ F.entry_tuple_mul (F.args_tuple_mul_2 _ _) (yh a its.toArray n k t d1 GA b1 b2 b3 (by rw[hprod];clear hprod;generalize xs.length * k.toNat=N at hz;omega) (by unfold Builtin.Tuple.tupleTooMany;rw[hprod];clear hprod;generalize xs.length * k.toNat=N at hz;exact decide_eq_false (by omega)) (by rw[hfold,List.size_toArray,hfl,hitl,Nat.mul_comm];exact hz)) ⟨ho,?_⟩;rw[hfold];refine⟨.ref s.heap.objs.size,_,I.laid (t':=s.toks) (o:=.tup (List.replicate k.toNat xs).flatten) (λb ob q=>Heap.get?_push_of_some _ q) (Nat.le_refl _) ⟨by rw[len_rep,Nat.mul_comm];exact hz,_,r1.rep k.toNat,IsTup.new _ _⟩,rfl,q _ _ (jx (I.hok.fresh (Nat.le_refl _)) _) (dG.of uS)⟩
 exact acA (T:="tuple") (U:="int") (by decide) ⟨_,ho,rfl⟩ (λs'=>acy s' k t) rR F.fills_int_mul ach ye F.slot_int_index.lookup
  (acz ach (acy s k t) F.entry_int_rmul (F.args_int_rmul_2 _ _) (yf k t a its.toArray n d1 GA) ⟨ho,rfl,⟨_,ho,rfl⟩,go⟩)
end
section
variable {X:Cx}
def ND(K:aH):List V->Hp->VK->Prop:=λxs H Q=>∃(a:Addr) (d:PyData),xs=[.ref a]/\aX K H (.ref a) d/\d.showable=true/\d.hasDict=false/\d.depth<=60/\d.shown.length<=sizeLine/\Q (.str d.shown) H
theorem Em(hg:X.A.guards=some [])(hu:X.A.units + 64 < cLine):eh X (.builtin "repr") (ND X.K):=by
 intro pins s σ H xs us Q I r h;obtain⟨a,d,rfl,hd,hs,hn,hp,hl,q⟩:=h;obtain⟨u,rfl,ru⟩:=vals1 r;cases ru;obtain⟨as,rd⟩:=hd.reads I rfl;exact PySem.repr_of_reads' rd hs (PyData.noDict_hsm hn) hg (by omega) (λ_ _ e=>e) (λh' u tk hk=>⟨.str _,H,I.kept (t':=tk) hk,⟨u,rfl⟩,q⟩) hl
def NF:V->Option Int->Option Int->Hp->VK->Prop:=λv lo hi H Q=>∃(x:Str),v=.str x/\x.length<=sizeLine/\Q (.str (Txt.slice x lo hi)) H
theorem KW:JL X NF:=by
 intro pins s σ H x v vl vu lo hi sl Q I rx hs pl pu h;obtain⟨x,rfl,hz,q⟩:=h;obtain⟨t,rfl⟩:=rx
 have go:∀(l u:Option (Int×Tok)),l.map (·.1)=lo->u.map (·.1)=hi->s.heap.IsSlice sl l u none->∃T id,typeLookup (.type T) "__getitem__"=pure (some (.builtin id))/\s.TypeIs (.str x t) T/\wpAny (model X.prog X.w) X.A (getItem (.str x t) (.ref sl)) (EP X pins σ Q) X.xe s:=λl u el eu hs=>by
  subst el eu;refine⟨"str",_,PySem.F.slot_str_getitem.lookup,typeIs_str _ _ _,wpAny_getItem_str_slice (l:=l) (u:=u) (st:=none) hs rfl (post_val_or_str ⟨aaB (Txt.slice_le x _ _) hz,λt' k=>?_⟩)⟩;exact⟨.str _,H,I.kept (t':=k) λ_ _ e=>e,⟨t',rfl⟩,q⟩
 cases pl with
 | none =>
  cases pu with
  | none=>exact go none none rfl rfl hs
  | int j tj=>exact go none (some (j,tj)) rfl rfl hs
 | int i ti =>
  cases pu with
  | none=>exact go (some (i,ti)) none rfl rfl hs
  | int j tj=>exact go (some (i,ti)) (some (j,tj)) rfl rfl hs
end
open PySem PySem.Spec PyProof.Rows PySem.W PySem.Builtin PySem.Builtin.ObjectAttr
def uR(K:Frag)(C:Addr)(bmB:List Value)(newId:String):Bool:=match K.lookup C with
 | some ⟨.type "type",_,.cls cd,sl⟩=>(match cd.mro,sl.toList with
  | .ref C'::bm,[_,_,_,_,some (.builtin n),_]=>C' == C&&n == newId&&!cd.hasDel&&tailIn K bmB bm&&nsOkIn K cd.ns&&cd.hasDict
  | _,_=>false)
 | _=>false
theorem uw{K:Frag}{h:Heap}{C:Addr}{bmB:List Value}{newId:String}(X:K.In h)(q:uR K C bmB newId=true):
  ∃(bm:List Value) (N:Addr) (nm qn:Str) (bs:List Value) (sn:List Str) (sub:List Value) (ab:Bool) (col:Option Bool) (dd:Option Addr) (k0 k1 k2 k3 k5:Option Value) (mN:Str->Option Value),
   h.get? C=some (excClassObj nm qn C N bs bm true sn sub ab col dd k0 k1 k2 k3 k5 newId)/\h.Ns N mN/\OwnTail h bmB bm/\∃cd,clsIn K C=some cd/\cd.mro=.ref C::bm/\cd.hasDict=true:=by
 unfold uR at q;split at q
 ·rename_i dd cd sl ho;split at q
  ·rename_i C' bm k0 k1 k2 k3 n k5 hm hs;simp only[Bool.and_eq_true,beq_iff_eq,Bool.not_eq_true']at q;have hcls:clsIn K C=some cd:=by unfold clsIn;rw[ho]
   obtain⟨⟨⟨⟨⟨rfl,rfl⟩,hdel⟩,ht⟩,hok⟩,hhd⟩:=q;obtain⟨nm,bs,mro,ns,qn,hd,sn,sub,ab,col,del⟩:=cd;dsimp only at hm hdel hok hhd;subst hm hdel hhd
   have hsl:sl=#[k0,k1,k2,k3,some (.builtin n),k5]:=by
    obtain⟨l⟩:=sl;simp only at hs;rw[hs]
   subst hsl;exact⟨bm,ns,nm,qn,bs,sn,sub,ab,col,dd,k0,k1,k2,k3,k5,_,X _ _ ho,.of_isNs (PySem.W.isNs_of_in X hok),PySem.W.tail_of_in X ht,⟨_,hcls,by rfl,by rfl⟩⟩
  ·cases q
 ·cases q
section
variable {prog:Program} {w:World} {A:Around} {E:Value->Shared->Prop} {K:Frag} {h:Heap} {g:Array GenState} {d:Drawn} {t:Nat} {os:OsState}
variable {nm q:Str} {C N:Addr} {bs bm bmB:List Value} {hdct:Bool} {sn:List Str} {sub:List Value} {ab:Bool} {col:Option Bool} {dd:Option Addr} {k0 k1 k2 k3 k5:Option Value} {B Bn newId nid initId inN:String} {bmN:List Value}
def rS(C:Addr)(t:Addr):Obj:={cls:=.ref C,data:=.fields #[.ref t,.none,.none,.none,.bool false,.none]}
theorem BK(Fn:ExcBaseFacts Bn newId inN bmN)(hBn:bmB.contains (.type Bn)=true)(F:ExcBaseFacts B nid initId bmB)(T:OwnTail h bmB bm){rest:List Value}{Q:Fin->Shared->Prop}{fI:Addr}
  (hC:h.get? C=some (excClassObj nm q C N bs bm hdct sn sub ab col dd k0 k1 k2 k3 k5 newId)) (X:K.In h) (hi:findIn K (.ref C) "__init__"=some (some (.ref fI))) (hf:isFn K (.ref fI)=true)
  (hq:wpAny (model prog w) A (call (.ref fI) (.ref (h.objs.size + 1)::rest)) (λr s'=>r=.none/\Q (.done (.ret (.ref (h.objs.size + 1)))) s') E ⟨(h.push {cls:=.type "tuple",data:=.seq rest.toArray}).push (rS C h.objs.size),g,d,t,os⟩) (hrest:rest.length<=sizeLine) :
  wpAny (model prog w) A (Builtin.«type.__call__» ⟨.ref C::rest,[]⟩) Q E ⟨h,g,d,t,os⟩:=by
 repeat (first | with_reducible refine aaK hC ?_ | with_reducible refine wpAny_madeBy_exc hC ?_ | wp_step)
 refine codeAny_call_builtin_code (Code.quiet_builtin _ Fn.quiet) (wpAny_check_new_subU Fn hBn T hC ?_);refine codeAny_exc_new_subU Fn hBn F T hC ?_ hrest;show wpAny _ _ _ _ _ _;have kp:∀b o,h.get? b=some o->((h.push {cls:=.type "tuple",data:=.seq rest.toArray}).push {cls:=.ref C,data:=.fields #[.ref h.objs.size,.none,.none,.none,.bool false,.none]}).get? b=some o:=λb o e=>aab _ (aab _ e)
 have hC₁:=kp _ _ hC;have X₁:=X.keeps kp;have hget:((h.push {cls:=.type "tuple",data:=.seq rest.toArray}).push
   {cls:=.ref C,data:=.fields #[.ref h.objs.size,.none,.none,.none,.bool false,.none]}).get? (h.objs.size + 1)=some
   {cls:=.ref C,data:=.fields #[.ref h.objs.size,.none,.none,.none,.bool false,.none]}:=by heap_get
 have hcC:(Value.ref C::bm).contains (.ref C)=true:=by simp
 unfold isInstance
 repeat (first | with_reducible refine aaK hget ?_ | (with_reducible refine acm hC₁ ?_;rw[hcC]) | wp_step)
 show wpAny _ _ (typeLookup (.ref C) _) _ _ _;refine(abO (M:=model prog w) X₁ hi).at ?_;refine abW (aaf ((bind_fn X₁ _ (beq_iff_eq.mp hf)).at ?_));refine aaf (aaS hq (λr s' hr=>?_) λ_ _ x=>x);obtain⟨rfl,hQ⟩:=hr
 wp_walk
 exact hQ
theorem Eo(Fn:ExcBaseFacts Bn newId inN bmN)(hBn:bmB.contains (.type Bn)=true)(F:ExcBaseFacts B nid initId bmB)(T:OwnTail h bmB bm){rest:List Value}{Q:Value->Shared->Prop}{fI:Addr}
  (hC:h.get? C=some (excClassObj nm q C N bs bm hdct sn sub ab col dd k0 k1 k2 k3 k5 newId)) (X:K.In h) (hi:findIn K (.ref C) "__init__"=some (some (.ref fI))) (hf:isFn K (.ref fI)=true)
  (hq:wpAny (model prog w) (A.under (.builtin "type.__call__" ⟨.ref C::rest,[]⟩)) (call (.ref fI) (.ref (h.objs.size + 1)::rest)) (λr s'=>r=.none/\Q (.ref (h.objs.size + 1)) s') E ⟨(h.push {cls:=.type "tuple",data:=.seq rest.toArray}).push (rS C h.objs.size),g,d,t,os⟩) (hrest:rest.length<=sizeLine) :
  wpAny (model prog w) A (call (.ref C) rest) Q E ⟨h,g,d,t,os⟩:=by
 have f1:=tc_lookup;have f2:=tc_bind (.ref C);have hT:(⟨h,g,d,t,os⟩:Shared).TypeIs (.ref C) "type":=⟨_,hC,rfl⟩;refine acY (codeAny_of_tree ?_);show wpAny _ _ (callAny (.ref C) _) _ _ _
 repeat (any_goals (first | assumption | with_reducible refine aaK hC ?_ | wp_step))
 refine⟨rfl,?_⟩;exact codeAny_call_builtin_at (Code.quiet_builtin _ (by decide +kernel)) entry_typeCall (wpAny_check_type_call_sub hC (BK Fn hBn F T hC X hi hf hq hrest))
end
theorem zK(self:Value){h:Heap}{bm:List Value}{bx:Bool}(T:OwnTail h (GL bx) bm):refuseLoop self "__setattr__" bm=pure ():=by
 induction T with
 | base =>
  cases bx with
  | true=>exact PySem.F.store_ValueError.passes self
  | false=>exact PySem.F.store_Exception.passes self
 | own _ _ _ _ ih=>rw[refuseLoop_ref];exact ih
section
variable {prog:Program} {w:World} {A:Around} {K:Frag} {s:Shared} {x C:Addr} {R:Result->Shared->Prop}
theorem w9{ox:Obj}{od:Option Obj}{name:Str}{tk:Tok}{v:Value}{bm:List Value}{cd:ClassData}{bx:Bool}(X:K.In s.heap)(I:InstAt s.heap x ox C od)(hc:clsIn K C=some cd)(hm':cd.mro=.ref C::bm)(T:OwnTail s.heap (GL bx) bm)(hmo:mroIn K C (.type "object")=some true)(ht:findIn K (.ref C) name=some none)
  (h:wpAny (model prog w) A.in1 (storeInOwnDict (.ref x) (.ref C) (.str name tk) name v false)
   (λfin s'=>match fin with | .done f=>R (.ok f) s' | .again c'=>c'.quiet=true/\codeAny (model prog w) A c' R s') (λe s'=>R (.error e) s') s) :
  codeAny (model prog w) A (.call (.builtin "object.__setattr__") ⟨[.ref x,.str name tk,v],[]⟩) R s:=by
 have SF:=PySem.F.store_object;have sub:Looks (model prog w) s.heap (isInstance (.ref x) (.type "object")) true:=I.type.andThen (looks_mroIn X hmo);refine acf SF.slot.plain SF.entry (@check_slot (model prog w) _ _ s "object.__setattr__" "object" "__setattr__" (.ref x) [.str name tk,v] [] _ SF.kind SF.split sub (SF.args (.ref x) (.str name tk) v) ?_);have hm:Looks (model prog w) s.heap (mroOf (.ref C)) cd.mro:=(looks_clsIn X hc).andThen .now;rw[osa_eq,refuse_eq];refine aaf (aaf (I.type.here (aaf (hm.here ?_))));rw[hm',refuseLoop_ref,zK _ T];refine aat (aaf (I.type.here (aaf ((abO X ht).here (aaf ?_)))));refine aat ?_;exact h
end
section
variable {prog:Program} {w:World} {A:Around} {E:Value->Shared->Prop} {h:Heap} {g:Array GenState} {d:Drawn} {t:Nat} {os:OsState}
variable {nm q:Str} {C N x:Addr} {bs bm:List Value} {sn:List Str} {sub:List Value} {ab:Bool} {col:Option Bool} {dd:Option Addr} {k0 k1 k2 k3 k5:Option Value} {newId:String} {name:Str} {v:Value}
theorem BL{tk:Tok}{o:Obj}{Q:Fin->Shared->Prop}(hC:h.get? C=some (excClassObj nm q C N bs bm true sn sub ab col dd k0 k1 k2 k3 k5 newId))(hx:h.get? x=some o)(hc:o.cls=.ref C)(hnc:∀c,o.data≠.cls c)(hdn:o.dict=none)
  (hq:∀h' tk',h'.get? x=some {cls:=o.cls,dict:=some h.objs.size,data:=o.data,slots:=o.slots}->h'.Ns1 h.objs.size (λy=>if y=name then some v else none)->(∀b ob,b≠x->h.get? b=some ob->h'.get? b=some ob)->Q (.done (.ret .none)) ⟨h',g,d,tk',os⟩) :
  wpAny (model prog w) A (storeInOwnDict (.ref x) (.ref C) (.str name tk) name v false) Q E ⟨h,g,d,t,os⟩:=by
 unfold storeInOwnDict
 repeat (first | (with_reducible refine aaK hx ?_;rw[hc]) | with_reducible refine aaK hC ?_ | wp_step)
 rw[hdn];dsimp only;rw[if_neg (by simp[typeHasDict])];split
 ·rename_i c hcd;exact absurd hcd (hnc c)
 ·have hx₁:(h.push {cls:=.type "dict",data:=.dict #[]}).get? x=some o:=aab _ hx;have hxs:x≠h.objs.size:=aav (aal hx);refine aaf (wpAny_alloc' ?_);refine aaf (wpAny_update' hx₁ ?_);refine aat ?_;have hgd:((h.push {cls:=.type "dict",data:=.dict #[]}).update x λo=>{cls:=o.cls,dict:=some h.objs.size,data:=o.data,slots:=o.slots}).get? h.objs.size
    = some {cls:=.type "dict",data:=.dict #[]} :=
   (Heap.get?_update_ne _ _ _ _ hxs.symm).trans (Heap.get?_push_at rfl rfl)
  have hnd:((h.push {cls:=.type "dict",data:=.dict #[]}).update x λo=>{cls:=o.cls,dict:=some h.objs.size,data:=o.data,slots:=o.slots}).Ns h.objs.size (λ_=>none) :=
   ⟨_,#[],_,hgd,rfl,λe he=>absurd he (by simp),λ_=>rfl⟩
  show wpAny _ _ (storeInDict h.objs.size (.str name tk) name v) _ _ _;unfold storeInDict newKeyGuard;refine wpAny_bind (wpAny_pure (wpAny_bind (wpAny_nsSet1 (Heap.Ns1.of_empty hnd) λh' hn' hs=>?_)));obtain⟨oD,esD,epD,hoD,hdD,hcD⟩:=hn'.count (Within.cons name v Within.nil);refine wpAny_bind (wpAny_lookBehind hoD (by rw[hdD];exact pastItsLine_dict (Nat.le_trans hcD (by rw[List.length_cons,List.length_nil,sizeLine_eq];omega))) ?_)
  wp_walk
  have hx':h'.get? x=some {cls:=o.cls,dict:=some h.objs.size,data:=o.data,slots:=o.slots}:=by
   refine(hs.2 x hxs).trans (acb _ hx₁ ?_);have hfr:=(acr.mp hx).2;obtain⟨oc,od,odt,osl⟩:=o;cases odt<;>first | rfl | exact hfr
  refine hq h' _ hx' hn' λb ob hbx hb=>?_
  exact(hs.2 b (aav (aal hb))).trans ((Heap.get?_update_ne _ _ _ _ hbx).trans (aab _ hb))
theorem BM{tk:Tok}{o:Obj}{dx:Addr}{mA:Str->Option Value}{ns:List Str}{Q:Fin->Shared->Prop}(hC:h.get? C=some (excClassObj nm q C N bs bm true sn sub ab col dd k0 k1 k2 k3 k5 newId))(hx:h.get? x=some o)(hc:o.cls=.ref C)(hdx:o.dict=some dx)(hns:h.Ns1 dx mA)(hw:Within mA ns)(hl:ns.length < 1000)
  (hq:∀h' tk',h'.Ns1 dx (λy=>if y=name then some v else mA y)->(∀b ob,b≠dx->h.get? b=some ob->h'.get? b=some ob)->Q (.done (.ret .none)) ⟨h',g,d,tk',os⟩) :
  wpAny (model prog w) A (storeInOwnDict (.ref x) (.ref C) (.str name tk) name v false) Q E ⟨h,g,d,t,os⟩:=by
 unfold storeInOwnDict
 repeat (first | (with_reducible refine aaK hx ?_;rw[hc]) | with_reducible refine aaK hC ?_ | wp_step)
 rw[hdx];refine wpAny_pure ?_;show wpAny _ _ (storeInDict dx (.str name tk) name v) _ _ _;unfold storeInDict newKeyGuard;refine wpAny_bind (wpAny_pure (wpAny_bind (wpAny_nsSet1 hns λh' hn' hs=>?_)));obtain⟨oD,esD,epD,hoD,hdD,hcD⟩:=hn'.count (Within.cons name v hw);refine wpAny_bind (wpAny_lookBehind hoD (by rw[hdD];exact pastItsLine_dict (Nat.le_trans hcD (by rw[List.length_cons,sizeLine_eq];omega))) ?_)
 wp_walk
 exact hq h' _ hn' λb ob hb hb'=>(hs.2 b hb).trans hb'
end
def XP(C e:Addr)(dx:Option Addr):Heap->Prop:=λh=>∃t0,h.get? e=some {cls:=.ref C,dict:=dx,data:=.fields #[.ref t0,.none,.none,.none,.bool false,.none]}
def XD(dx:Addr)(fs:List (Str×V)):Heap->Prop:=λh=>∃mA,h.Ns1 dx mA/\(∀f,qi (fs.lookup f) (mA f))/\Within mA (fs.map (·.1))
structure KXs(K:Frag)(C:Addr):Prop where
 sa:findIn K (.ref C) "__setattr__"=some (some (.builtin "object.__setattr__"))
 ex:∃bx,uR K C (GL bx) (Pm bx)=true
 mo:mroIn K C (.type "object")=some true
theorem xa{C e:Addr}{dx:Option Addr}(h1 h2:Heap)(h:XP C e dx h1)(k:∀o,h1.get? e=some o->h2.get? e=some o):XP C e dx h2:=by
 obtain⟨t0,g⟩:=h;exact⟨t0,k _ g⟩
theorem xb{dx:Addr}{fs:List (Str×V)}(h1 h2:Heap)(h:XD dx fs h1)(k:∀o,h1.get? dx=some o->h2.get? dx=some o):XD dx fs h2:=by
 obtain⟨mA,n,r⟩:=h;exact⟨mA,n.at k,r⟩
theorem Ns1.obj{h:Heap}{a:Addr}{m:Str->Option Value}(n:h.Ns1 a m):∃o,h.get? a=some o:=let ⟨o,_,_,e,_⟩:=n;⟨o,e⟩
section
variable {X:Cx} {C a:Addr} {pins:List (Addr×Obj)} {σ:St} {H:Hp} {s:Shared} {A:Around} {E:Value->Shared->Prop} {f:Str}
theorem Ti{y:V}{u:Value}{Q:Unit->Shared->Prop}(I:Inv X pins σ H s)(e:H a=some (.ext (XP C a none)))(k:KXs X.K C)(hf:findIn X.K (.ref C) f=some none)(ry:RelV y u)
  (h:∀s' dx,H dx=none->dx≠a->Inv X pins σ (upd (upd H dx (.ext (XD dx [(f,y)]))) a (.ext (XP C a (some dx)))) s'->Q () s'):wpAny (model X.prog X.w) A (setAttr (.ref a) f u) Q E s:=by
 obtain⟨⟨t0,hg⟩,_,_⟩:=I.hok a _ e;obtain⟨bx,hbx⟩:=k.ex;obtain⟨bm,N,nm,qn,bs,sn,sub,ab,col,dd,k0,k1,k2,k3,k5,mN,hC,hn,T,cd,hcd,hmro,_⟩:=uw I.ql hbx;have IA:InstAt s.heap a {cls:=.ref C,dict:=none,data:=.fields #[.ref t0,.none,.none,.none,.bool false,.none]} C none:=⟨hg,rfl,rfl,abx⟩;refine set_plain I.ql IA k.sa (w9 (s:={s with toks:=s.toks + 1}) I.ql IA hcd hmro T k.mo hf ?_);obtain⟨hp,g,d,tk,os⟩:=s;have hda:hp.objs.size≠a:=abk (aal hg);refine BL hC hg rfl (λc z=>by cases z) rfl λh' tk' g1 n1 kp=>h _ hp.objs.size (I.hok.fresh (aaj _)) hda ?_
 obtain⟨od,god⟩:=Ns1.obj n1;have hpo:(hp.push od).get? hp.objs.size=some od:=aaz hp (acr.mp god).2;have n0:(hp.push od).Ns1 hp.objs.size (λy=>if y=f then some u else none):=n1.at λo q=>by rw[god]at q;cases q;exact hpo
 have V3:XD hp.objs.size [(f,y)] (hp.push od):=⟨_,n0,λg=>by
  show qi (List.lookup g [(f,y)]) (if g=f then some u else none);by_cases q:g=f
  ·rw[if_pos q,q];simp only[List.lookup,beq_self_eq_true];exact ry
  ·rw[if_neg q];simp only[List.lookup];rw[beq_false_of_ne q];exact True.intro,λg hg=>by
  by_cases q:g=f
  ·rw[q];exact List.mem_singleton_self _
  ·exact absurd (aaF q) hg⟩
 have I1:=I.laid (a:=hp.objs.size) (o:=.ext (XD hp.objs.size [(f,y)])) (h':=hp.push od) (t':=tk') (λb u q=>aab _ q) (aaj _) ⟨V3,⟨_,hpo⟩,xb⟩;have ea:upd H hp.objs.size (.ext (XD hp.objs.size [(f,y)])) a=some (.ext (XP C a none)):=by rw[uN hda.symm];exact e
 refine I1.write (x:=a) (e:=a) (t':=tk') (by rw[ea];exact abx) (.inl rfl) (λb ob hb z=>?_) ⟨_,g1⟩ ⟨⟨t0,g1⟩,⟨_,g1⟩,xa⟩;by_cases hbs:b=hp.objs.size
 ·subst hbs;have z':(hp.push od).get? hp.objs.size=some ob:=z;rw[hpo]at z';cases z';exact god
 ·have z':(hp.push od).get? b=some ob:=z;rw[Heap.get?_push_ne _ _ _ hbs]at z';exact kp b ob hb z'
theorem Tj{y:V}{u:Value}{dx:Addr}{fs:List (Str×V)}{Q:Unit->Shared->Prop}(I:Inv X pins σ H s)(e:H a=some (.ext (XP C a (some dx))))(ed:H dx=some (.ext (XD dx fs)))(hl:fs.length < 900)(k:KXs X.K C)(hf:findIn X.K (.ref C) f=some none)(ry:RelV y u)
  (h:∀s',Inv X pins σ (upd H dx (.ext (XD dx (oF f y fs)))) s'->Q () s'):wpAny (model X.prog X.w) A (setAttr (.ref a) f u) Q E s:=by
 obtain⟨⟨t0,hg⟩,_,_⟩:=I.hok a _ e;obtain⟨⟨mA,n,r,wi⟩,_,_⟩:=I.hok dx _ ed;obtain⟨bx,hbx⟩:=k.ex;obtain⟨bm,N,nm,qn,bs,sn,sub,ab,col,dd,k0,k1,k2,k3,k5,mN,hC,hn,T,cd,hcd,hmro,_⟩:=uw I.ql hbx;obtain⟨od,god⟩:=Ns1.obj n;have IA:InstAt s.heap a {cls:=.ref C,dict:=some dx,data:=.fields #[.ref t0,.none,.none,.none,.bool false,.none]} C (some od):=⟨hg,rfl,rfl,god⟩;refine set_plain I.ql IA k.sa (w9 (s:={s with toks:=s.toks + 1}) I.ql IA hcd hmro T k.mo hf ?_);obtain⟨hp,g,d,tk,os⟩:=s;refine BM hC hg rfl rfl n wi (by rw[aaa];omega) λh' tk' n1 kp=>h _ ?_
 obtain⟨od',god'⟩:=Ns1.obj n1;refine I.write (x:=dx) (e:=dx) (t':=tk') (by rw[ed];exact abx) (.inl rfl) (λb ob hb z=>kp b ob hb z) ⟨_,god'⟩ ⟨⟨_,n1,λg=>?_,λg hg=>?_⟩,⟨_,god'⟩,xb⟩
 ·show qi ((oF f y fs).lookup g) (if g=f then some u else mA g);rw[sL];by_cases q:g=f
  ·rw[aaD q,aaD q];exact ry
  ·rw[aaF q,aaF q];exact r g
 ·by_cases q:g=f
  ·rw[q];exact(rQ f y fs).1
  ·refine(rQ f y fs).2 g (wi g λz=>hg ?_);show(if g=f then some u else mA g)=none;rw[aaF q];exact z
end
def Zo(K:Frag)(ta tv:TE)(f:Str):TS:=λD σ H=>tv σ H λy H1=>ta σ H1 λx H2=>∃a C,x=.ref a/\KXs K C/\fR K C f /\
 ((H2 a=some (.ext (XP C a none))/\∀dx,H2 dx=none->dx≠a->D.nx σ (upd (upd H2 dx (.ext (XD dx [(f,y)]))) a (.ext (XP C a (some dx))))) ∨
  ∃dx fs,H2 a=some (.ext (XP C a (some dx)))/\H2 dx=some (.ext (XD dx fs))/\fs.length < 900/\D.nx σ (upd H2 dx (.ext (XD dx (oF f y fs)))))
section
variable {X:Cx} {o e value:Expr} {f:Str} {pos pos' tpos:Pos} {ta tv:TE}
theorem GS(ha:PE X o ta)(hv:PE X value tv)(hs:swapsWith value (some (.Attribute o f pos')) pos.line X.env=pure false):PS X (.Assign [.Attribute o f pos'] value pos) (Zo X.K ta tv f):=by
 intro pins s σ H D I h;refine plainObj_wpAny_Assign_Attribute (bU (hv pins s σ H _ I h) λu s1 ⟨y,H1,I1,ry,q⟩=>bU (ha pins s1 σ H1 _ I1 q) λov s2 ⟨x,H2,I2,rx,a,C,ex,k,n,q2⟩=>?_) hs;subst ex;obtain rfl:ov=Value.ref a:=rx;rcases q2 with⟨ea,q2⟩ | ⟨dx,fs,ea,ed,l,q2⟩
 ·exact Ti I2 ea k n ry λs3 dx hd hda I3=>⟨σ,_,I3,q2 dx hd hda⟩
 ·exact Tj I2 ea ed l k n ry λs3 I3=>⟨σ,_,I3,q2⟩
end
section
variable {prog:Program} {w:World} {A:Around} {E:Value->Shared->Prop} {K:Frag} {a C:Addr} {o:Obj} {od:Option Obj} {h:Heap} {g:Array GenState} {d:Drawn} {t:Nat} {os:OsState} {name:Str} {v:Value}
theorem V5{tk:Tok}{Q:Fin->Shared->Prop}(X:K.In h)(IA:InstAt h a o C od)(hf:findObj K C od name=some (.value v))(hq:Q (.done (.ret v)) ⟨h,g,d,t,os⟩):
  wpAny (model prog w) A (Builtin.«object.__getattribute__» ⟨[.ref a,.str name tk],[]⟩) Q E ⟨h,g,d,t,os⟩:=by
 have L0:=IA.type (M:=model prog w);have L1:=looks_find (M:=model prog w) X IA hf;refine aaf (aat (aaf (aat (aaf (L0.at (aaf (L1.at ?_)))))));exact aat hq
theorem Zp{tk:Tok}{fill expr:Bool}{Q:Value->Shared->Prop}(X:K.In h)(k:KX K C)(IA:InstAt h a o C od)(hf:findObj K C od name=some (.value v))(hh:handedIn v=true)(hq:Q v ⟨h,g,d,t,os⟩):
  wpAny (model prog w) A (getAttrBy (.ref a) (.str name tk) fill expr) Q E ⟨h,g,d,t,os⟩:=by
 have hx:=IA.at_;have hc:=IA.cls;have L1:=abO (M:=model prog w) X k.ga;have L2:=abO (M:=model prog w) X k.gh;have f3:=abV.ga.bind (.ref a);have V3:(expr&&onTheHeap (Value.builtin "BaseException.__getattribute__"))=false:=by cases expr<;>rfl
 have R9:(Value.builtin "BaseException.__getattribute__" == Value.builtin "object.__getattribute__")=false:=by decide +kernel
 have V4:(onTheHeap (Value.ref C)&&Value.builtin "BaseException.__getattribute__" == Value.builtin "object.__getattribute__")=false:=by rw[R9];rfl
 repeat (any_goals (first | assumption | (with_reducible refine aaK hx ?_;rw[hc]) | with_reducible refine L1.at ?_ | with_reducible refine L2.at ?_ | wp_step))
 refine acf abV.ga.plain F.entry_bexc_ga (zI X k hx hc (V5 X IA hf ?_));have ho:=handedOut_of hh
 repeat (any_goals (first | assumption | wp_step | (rw[ho])))
theorem Tn{expr:Bool}{Q:Value->Shared->Prop}(X:K.In h)(k:KX K C)(IA:InstAt h a o C od)(hf:findObj K C od name=some (.value v))(hh:handedIn v=true)(hq:Q v ⟨h,g,d,t + 1,os⟩):
  wpAny (model prog w) A (getAttr (.ref a) name expr) Q E ⟨h,g,d,t,os⟩:=by
 unfold getAttr;refine wpAny_bind (wpAny_mkText ?_);exact Zp X k IA hf hh hq
end
def XG(C a dx:Addr):Heap->Prop:=λh=>∃o vs,h.get? a=some o/\o.cls=.ref C/\o.dict=some dx/\o.data=.fields vs
def Zq(K:Frag)(ta:TE)(f:Str):TE:=λσ H Q=>ta σ H λx H1=>∃a C dx fs v φ,x=.ref a/\H1 a=some (.ext φ)/\(∀h,φ h->XG C a dx h)/\H1 dx=some (.ext (XD dx fs))/\KX K C/\hasDictIn K C=true/\fR K C f/\fs.lookup f=some v/\Q v H1
theorem To{X:Cx}{e:Expr}{f:Str}{pos:Pos}{ta:TE}(he:PE X e ta)(hb:attributeBase e f X.env (eval e X.env)=eval e X.env):PE X (.Attribute e f pos) (Zq X.K ta f):=by
 intro pins s σ H Q I h;refine Kl hb (bU (he pins s σ H _ I h) λu s1 ⟨x,H1,I1,rx,a,C,dx,fs,v,φ,ex,ea,hφ,ed,k,hd,n,l,q⟩=>?_);subst ex;obtain rfl:u=Value.ref a:=rx;obtain⟨p,_,_⟩:=I1.hok a _ ea;obtain⟨⟨mA,nn,r,_⟩,_,_⟩:=I1.hok dx _ ed;obtain⟨o,vs,g1,g2,g3,g4⟩:=hφ _ p;obtain⟨od,ho,hl⟩:=D9 nn;obtain⟨u',hu,ru⟩:=qi.some_of (v:=v) (o:=mA f) (by rw[← l];exact r f);have IA:InstAt s1.heap a o C (some od):=⟨g1,g2,by unfold notCls;rw[g4],by rw[g3];exact ho⟩;obtain⟨hp,g,d,t,os⟩:=s1;exact Tn I1.ql k IA (findObj_own hd n rfl (by rw[hl,hu])) (Ea ru) ⟨v,H1,I1.tok _,ru,q⟩
structure Yw(K:Frag)(C f:Addr):Prop where
 ex:∃bx,uR K C (GL bx) (Pm bx)=true
 init:findIn K (.ref C) "__init__"=some (some (.ref f))
 fn:isFn K (.ref f)=true
 kp:keepIn K (.ref C)=true
section
variable {X:Cx} {CX:CS} {k:Nat} {f C:Addr} {fd:FuncData} {ps:List Str} {sp:Sp} {dvs:List V} {ds:List Value} {E:XK} {x m:Str} {p pos apos:Pos} {e o:Expr} {es:List Expr} {ta:TE} {t:TA}
theorem Ep{pins:List (Addr×Obj)}{σ:St}{H:Hp}{s:Shared}{Q:VK}{us:List Value}{vs:List V}{cm:Bool}(M:Yw X.K C f)(F':bB X.prog X.w X.K X.mg X.base CX k f fd ps sp cm)(hr:cX (k + 1) X.A cm)(hb:Binds X.K fd ps ds)(hd:Vals dvs ds)
  (hx:Passes CX X E) (I:Inv X pins σ H s) (r:Vals vs us) (hz:vs.length<=sizeLine)
  (h:∀x,s.heap.objs.size<=x->H x=none->sp (.ref x::(vs++dvs)) (upd H x (.ext (XP C x none))) (λv H2=>v=.non/\Q (.ref x) H2) E) :
  wpAny (model X.prog X.w) X.A (call (.ref C) us) (EP X pins σ Q) X.xe s:=by
 obtain⟨bx,hbx⟩:=M.ex;obtain⟨bm,N,nm,qn,bs,sn,sub,ab,col,dd,k0,k1,k2,k3,k5,mN,hC,hn,T,cd,hcd,hmro,_⟩:=uw I.ql hbx;have hq:=h (s.heap.objs.size + 1) (acS _) (I.hok.fresh (acS _));obtain⟨hp,g,d,tk,os⟩:=s;have I1:=I.kept (h':=hp.push {cls:=.type "tuple",data:=.seq us.toArray}) (t':=tk) (λb u q=>aab _ q)
 have e2:((hp.push {cls:=.type "tuple",data:=.seq us.toArray}).push (rS C hp.objs.size)).get? (hp.objs.size + 1)=some (rS C hp.objs.size):=by
  have:=aaz (hp.push {cls:=.type "tuple",data:=.seq us.toArray}) (o:=rS C hp.objs.size) rfl
  rwa [abM]at this
 have I2:=I1.laid (a:=hp.objs.size + 1) (o:=.ext (XP C (hp.objs.size + 1) none)) (h':=(hp.push {cls:=.type "tuple",data:=.seq us.toArray}).push (rS C hp.objs.size)) (t':=tk) (λb u q=>aab _ q) (ace (abM _ _)) ⟨⟨_,e2⟩,⟨_,e2⟩,xa⟩;have r2:Vals (V.ref (hp.objs.size + 1)::(vs++dvs)) (Value.ref (hp.objs.size + 1)::(us++ds)):=.cons rfl (r.append hd)
 have hl:(Value.ref (hp.objs.size + 1)::us++ds).length=ps.length:=by
  have e:=r2.length;rw[F'.len _ _ _ _ hq]at e;exact e.symm
 refine Eo (bmB:=GL bx) (Yt bx) (KP bx) (Yt bx) T hC I.ql M.init M.fn ?_ (by rw[← r.length];exact hz);refine acY (acE (F'.run _ X.stack _ _ ⟨Value.ref (hp.objs.size + 1)::us,[]⟩ (Value.ref (hp.objs.size + 1)::(us++ds)) _ _ E (hr.make C us [])
  (I2.OX.make C us []) (hb _ (Value.ref (hp.objs.size + 1)::us) I2.ql hl) r2 hq) λr s' hq'=>?_)
 cases r with
 | error e=>exact hx pins σ _ _ e s' I2 hq'
 | ok fl =>
  cases fl with
  | ret u =>
   obtain⟨v,H',I3,rv,ev,q3⟩:=I2.after hq';subst ev;exact⟨rv,⟨V.ref (hp.objs.size + 1),H',I3,rfl,q3⟩⟩
  | next=>exact False.elim hq'
  | brk=>exact False.elim hq'
  | cont=>exact False.elim hq'
def Tp(K:Frag):List V->Hp->VK->Prop:=λvs H Q=>∃a C c D b φ,vs=[.ref a,c]/\H a=some (.ext φ)/\(∀h,φ h->ExcAt C a h)/\KX K C/\hasDictIn K C=true/\RelV c D/\kitOne K (.ref C) D=some b/\Q (.bl b) H
theorem xc:eh X (.builtin "isinstance") (Tp X.K):=by
 intro pins s σ H xs us Q I r h;obtain⟨a,C,c,D,b,φ,rfl,hH,hφ,hk,hcl,rc,e,q⟩:=h;obtain⟨u,w',rfl,rx,rw'⟩:=vals2 r;cases rx
 have hD:w'=D:=by
  cases c<;>simp[RelV]at rc rw'<;>first | (rw[rw',rc]) | (obtain⟨t1,e1⟩:=rc;obtain⟨t2,e2⟩:=rw';subst e1;subst e2;exact absurd e (by simp[kitOne,kitCls]))
 subst hD;obtain⟨cd,hcd,_⟩:=any_some hcl;obtain⟨p,_,_⟩:=I.hok a _ hH;exact abg (GQ hk hcd) I.ql (hφ _ p) e (λz=>nomatch z) λtk=>⟨.bl b,H,I.tok tk,rfl,q⟩
end
def inner(s:Stmt):Stmt:=match s with
 | .ClassDef _ _ _ b _ _ _ _ _ _ _=>b.headD (.Pass ⟨0,0,0,0⟩)
 | _=>.Pass ⟨0,0,0,0⟩
def GU(K:Frag)(fs:List Str):Sp:=λvs H Q _=>∃a C ys,vs=.ref a::ys/\ys.length=fs.length/\KXs K C/\(∀f∈fs,fR K C f)/\H a=some (.ext (XP C a none)) /\
 ∀dx,H dx=none->dx≠a->Q .non (upd (upd H dx (.ext (XD dx (fs.zip ys)))) a (.ext (XP C a (some dx))))
theorem Pn{H:Hp}{a b:Addr}{u v u':HO}(h:b≠a):upd (upd (upd H b u) a v) b u'=upd (upd H b u') a v:=by
 funext c
 unfold upd;by_cases h1:c=b
 ·subst h1;rw[aaD rfl,aaF h,aaD rfl]
 ·simp only[if_neg h1]
structure KY(P:Program)(w:World)(K:Frag)(mg:Str->Option Value)(base:Heap)(C:Addr)(fs:List Str):Prop where
 s:KXs K C
 no:∀f∈fs,fR K C f
 le:fs.length<=1000
 ini:∃f fd,Yw K C f/\bB P w K mg base bf 1 f fd ("self"::fs) (GU K fs) false/\Binds K fd ("self"::fs) []
section
variable {X:Cx} {C:Addr} {fs:List Str} {x:Str} {p pos:Pos} {e:Expr} {es:List Expr} {t:TA}
end
open PySem PySem.Spec PyProof.Rows PySem.W
def Cn(o:Obj):Prop:=∃vs,o.data=.fields vs/\vs[2]?=some .none
def Dk(h h':Heap):Prop:=∀b o,h.get? b=some o->∃o',h'.get? b=some o'/\o'.dict=o.dict/\(Cn o->Cn o')
theorem Dk.refl(h:Heap):Dk h h:=λ_ o e=>⟨o,e,rfl,id⟩
theorem Dk.trans{h1 h2 h3:Heap}(x:Dk h1 h2)(y:Dk h2 h3):Dk h1 h3:=λb o e =>
 let ⟨o1,e1,d1,c1⟩:=x b o e;let ⟨o2,e2,d2,c2⟩:=y b o1 e1;⟨o2,e2,d2.trans d1,λz=>c2 (c1 z)⟩
def KD{α:Type}(t:Sem α):Prop:=∀(M:Model) (Γ:PySem.Ctx) (Q:α->Pos->Shared->Prop) (E:Value->Pos->Shared->Prop) (p:Pos) (s:Shared),
 Sem.wp M Γ t Q E p s->Sem.wp M Γ t (λa p' s'=>Q a p' s'/\Dk s.heap s'.heap) (λe p' s'=>E e p' s'/\Dk s.heap s'.heap) p s
section
variable {α β:Type}
theorem bC(a:α):KD (pure a:Sem α):=λ_ _ _ _ _ s h=>⟨h,Dk.refl s.heap⟩
theorem dJ(m:String):KD (Sem.unsupported m:Sem α):=λ_ _ _ _ _ _ h=>False.elim (by simpa using h)
theorem aY{t:Sem α}{f:α->Sem β}(h1:KD t)(h2:∀a,KD (f a)):KD (t >>= f):=by
 intro M Γ Q E p s h;rw[Sem.wp_bind']at h ⊢;refine Sem.wp_mono M Γ t (λa p1 s1 z=>?_) (λ_ _ _ z=>z) p s (h1 M Γ _ _ p s h);exact Sem.wp_mono M Γ (f a) (λ_ _ _ y=>⟨y.1,z.2.trans y.2⟩) (λ_ _ _ y=>⟨y.1,z.2.trans y.2⟩) p1 s1 (h2 a M Γ _ _ p1 s1 z.1)
theorem yi(a:Addr)(part:Option Value):KD (loadPart a part):=λM Γ Q E p s h=>by
 unfold loadPart at h ⊢;rw[Sem.wp_load]at h ⊢;obtain⟨o,e,q⟩:=h;exact⟨o,e,q,Dk.refl _⟩
theorem Er{h:Heap}{a:Addr}{f:Obj->Obj}(hf:∀o:Obj,((f o).dict=o.dict/\(Cn o->Cn (f o)))/\(o.isFreed=false->(f o).isFreed=false)):Dk h (h.update a f):=λb o e=>by
 by_cases hb:a=b
 ·subst hb;exact⟨_,acb f e ((hf o).2 (acr.mp e).2),(hf o).1⟩
 ·exact⟨o,(ab4 h f hb).trans e,rfl,id⟩
theorem xf(a:Addr)(part:Option Value){f:Obj->Obj}(hf:∀o:Obj,((f o).dict=o.dict/\(Cn o->Cn (f o)))/\(o.isFreed=false->(f o).isFreed=false)):KD (updatePart a part f):=λM Γ Q E p s h=>by
 unfold updatePart at h ⊢;rw[Sem.wp_update]at h ⊢;exact⟨h.1,h.2,Er hf⟩
theorem zL(o:Obj):KD (alloc o):=λM Γ Q E p s h=>by
 unfold alloc at h ⊢;rw[Sem.wp_alloc]at h ⊢;exact⟨h,λb ob e=>⟨ob,Heap.get?_push_of_some _ e,rfl,id⟩⟩
theorem uT:KD stack:=λM Γ Q E p s h=>⟨h,Dk.refl _⟩
end
theorem kP{α:Type}{t:Sem α}(k:KD t){M:Model}{A:Around}{E:Value->Shared->Prop}{Q:α->Shared->Prop}{s:Shared}(h:wpAny M A t Q E s):wpAny M A t (λa s'=>Q a s'/\Dk s.heap s'.heap) E s:=λΓ p hΓ =>
 Sem.wp_mono M Γ t (λ_ _ _ y=>y) (λ_ _ _ y=>y.1) p s (k M Γ _ _ p s (h Γ p hΓ))
theorem qA(v:Value)(i:Nat):KD (field v i):=by
 unfold field fieldsOf;refine aY ?_ λvs=>?_
 ·split
  ·refine aY (yi _ _) λo=>?_
   split
   ·exact bC _
   ·exact dJ _
  ·exact dJ _
 ·first
  | (split<;>first | exact bC _ | exact dJ _)
theorem GV(i:Nat)(x:Value)(hi:i≠2)(o:Obj):((Obj.mapFields (·.setIfInBounds i x) o).dict=o.dict/\(Cn o->Cn (Obj.mapFields (·.setIfInBounds i x) o)))/\(o.isFreed=false->(Obj.mapFields (·.setIfInBounds i x) o).isFreed=false):=by
 obtain⟨c,d,dt,sl⟩:=o;refine⟨⟨?_,λ⟨vs,e,q⟩=>⟨_,Obj.data_mapFields e _,?_⟩⟩,?_⟩
 ·cases dt<;>rfl
 ·rw[Array.getElem?_setIfInBounds_ne hi];exact q
 ·cases dt<;>exact λz=>z
theorem iq(v:Value)(i:Nat)(x:Value)(hi:i≠2:=by decide):KD (setField v i x):=by
 unfold setField updateField;split
 ·refine aY (yi _ _) λo=>?_
  split
  ·split
   ·exact xf _ _ (GV _ _ hi)
   ·exact dJ _
  ·exact dJ _
 ·exact dJ _
theorem jy(e:Value)(f:Option Addr):KD (setFlight e f):=by
 unfold setFlight;refine aY (qA _ _) λtb=>?_
 split
 ·exact iq _ _ _
 ·exact bC _
theorem Es(env:Env)(outer:List Env):KD (behindIsImport env outer):=by
 unfold behindIsImport;split
 ·exact bC _
 ·split
  ·exact bC _
  ·exact aY (qA _ _) λ_=>bC _
theorem GW:KD underTheClaimsCaller:=by
 unfold underTheClaimsCaller;exact aY uT λ_=>bC _
theorem KZ(env:Env)(b:Bool)(l:List Env):KD (keptBack env b l):=by
 unfold keptBack;split
 ·split
  ·exact bC _
  ·exact aY GW λ_=>bC _
 ·exact bC _
theorem zM:∀l:List Env,KD (readyFrames l)
 | []=>bC _
 | env::outer=>by
  unfold readyFrames;split
  ·refine aY (yi _ _) λo=>?_
   split
   ·exact bC _
   ·refine aY (Es _ _) λb=>aY (KZ _ _ _) λv=>aY (xf _ _ λo=>⟨⟨rfl,λz=>z⟩,λz=>by obtain⟨c,d,dt,sl⟩:=o;cases dt<;>exact z⟩) λ_=>zM outer
  ·exact dJ _
theorem uU(l:List Env):KD (frameObject l):=by
 unfold frameObject;split
 ·exact bC _
 ·exact aY (zM _) λ_=>bC _
theorem yj:KD frameEnvs:=by
 unfold frameEnvs;exact aY uT λ_=>bC _
theorem uV(env:Env):KD (PySem.frameOf env):=by
 unfold PySem.frameOf;refine aY yj λl=>aY (uU _) λr=>?_
 split
 ·exact bC _
 ·exact dJ _
theorem zN(f:Addr)(b:Bool):KD (entryPlaceOf f b):=by
 unfold entryPlaceOf;refine aY uT λl=>?_
 split
 ·exact bC _
 ·exact bC _
theorem sQ(a b c d e:Value)(pl:List Value):KD (EntryCells.newEntry a b c d e pl):=by
 unfold EntryCells.newEntry newFields newObj newObjAsIs;generalize ([a,b,c,d,e]++if pl.isEmpty=true then List.replicate 6 Value.none else pl).toArray=ws;dsimp only;split
 ·exact aY (dJ _) λ_=>aY (zL _) λ_=>bC _
 ·exact aY (zL _) λ_=>bC _
theorem C4(e:Value)(env:Env):KD (noteFrame e env):=by
 unfold noteFrame;split
 ·refine aY (qA _ _) λhd=>?_
  dsimp only;split
  ·refine aY (qA _ _) λx=>?_
   split
   ·exact bC _
   ·exact aY (iq _ _ _) λ_=>aY (uV _) λ_=>aY (zN _ _) λ_=>aY (sQ _ _ _ _ _ _) λ_=>iq _ _ _
  ·exact aY (uV _) λ_=>aY (zN _ _) λ_=>aY (sQ _ _ _ _ _ _) λ_=>iq _ _ _
 ·exact dJ _
theorem uW(env:Env)(e:Value):KD (leaving env e):=aY (C4 e env) λ_=>jy e none
def pf(h:Heap)(a:Addr)(dd:Option Addr):Prop:=∃o,h.get? a=some o/\o.dict=dd/\(dd=none->Cn o)
theorem pf.dk{h h':Heap}{a:Addr}{dd:Option Addr}(d:pf h a dd)(k:Dk h h'):pf h' a dd :=
 let ⟨o,e,q,c⟩:=d;let ⟨o',e',q',c'⟩:=k a o e;⟨o',e',q'.trans q,λz=>c' (c z)⟩
def xg(P:Program)(w:World):CS:=λouter H s E e s'=>∃(a C t:Addr) (H':Hp) (B:Heap) (dd:Option Addr),e=.ref a/\s'.os=s.os/\AllBare s'.gens/\FE P w outer H H' s.heap B a (.ref C) (.ref t) s'.heap/\pf s'.heap a dd/\E (.ref C) dd H'
def del(H:Hp)(a:Addr):Hp:=λb=>if b=a then none else H b
theorem GX{H:Hp}{a:Addr}:del H a a=none:=by unfold del;rw[if_pos rfl]
theorem kQ{H:Hp}{a b:Addr}(h:b≠a):del H a b=H b:=by unfold del;rw[if_neg h]
def V6(X:Cx)(E:XK):Prop:=∀(pins:List (Addr×Obj)) (σ:St) (H:Hp) (s:Shared) (a C:Addr) (dx:Option Addr),Inv X pins σ H s->X.s₀.heap.objs.size<=a->H a=some (.ext (XP C a dx))->E (.ref C) dx (del H a)->X.xe (.ref a) s
section
variable {P:Program} {w:World} {K:aH} {mg:Str->Option Value} {base:Heap} {N:List Str} {qual:Str} {scope:Scope} {f:Addr} {cd:Value} {A:Around} {outer:List Env} {s₀:Shared} {H₀:Hp} {E:XK}
theorem Po:V6 (uK (xg P w) P w K mg base N qual scope f cd A outer s₀ H₀ E) E:=by
 intro pins σ H s a C dx I Zr hHa hE
 let env:=envOfC qual scope s₀.heap.objs.size f cd
 have hf:env.frame=some s₀.heap.objs.size:=rfl;have Zs:s₀.heap.objs.size<=a:=Zr;obtain⟨⟨t0,hg⟩,_,_⟩:=I.hok a _ hHa;have hst:=I.stack
 have nfa:a∉qk (env::outer):=λhb=>by
  have:=I.uq a hb;rw[this]at hHa;cases hHa
 let hid:=a::qk (env::outer)
 have hBs:(hideAll s.heap hid).StaysIn s.heap:=λb o q=>of_hideAll _ q
 have hin:∀v∈(env::outer),∀b,v.frame=some b->b∈hid:=λv hv b hb=>aaL _ (acp.mpr ⟨v,hv,hb⟩)
 have hFF:s.heap.FunFrames (hideAll s.heap hid) (env::outer):=funFrames_hide hst hin;have hBa:(hideAll s.heap hid).get? a=none:=hideAll_none _ aaC;show wpAny _ _ (leaving env (.ref a)) _ _ _;have lib:=wpAny_leaving_firstW (M:=model P w) (A:=(uK (xg P w) P w K mg base N qual scope f cd A outer s₀ H₀ E).A) (E:=λ_ _=>False) (s:=s) (Q:=λ_ s'=>∃h',s'={s with heap:=h'}/\Heap.LeftW (hideAll s.heap hid) (env::outer) a (.ref C) (.ref t0) s.heap h') (I.ok.frames) hFF hf hg hBs hBa rfl rfl rfl λh' L=>⟨h',rfl,L⟩
 refine aaS (kP (uW env (.ref a)) lib) (λ_ s' z=>?_) λ_ _ z=>z.elim
 obtain⟨⟨h2,rfl,k1,⟨_,_,k2⟩,k3,x4⟩,dk⟩:=z
 have ni:∀b o,s₀.heap.get? b=some o->b∉qk outer->b∉hid:=λb o q nb hb=>by
  rcases aay.mp hb with z | z
  ·exact absurd (aal q) (by rw[z];exact Nat.not_lt.mpr Zs)
  ·rcases (cy hf).mp z with z | z
   ·exact absurd (aal q) (by rw[z];exact aa8 _)
   ·exact nb z
 refine⟨a,C,t0,del H a,_,dx,rfl,I.os,I.bare,⟨λb o q n nb=>?_,λb o q nb=>?_,λb o q hb=>?_,λb o q n=>?_,λb xs q=>?_,λb o u q=>?_,λb ps q=>?_,λb u q=>?_,⟨k1,hBa,k2,k3⟩⟩,pf.dk ⟨_,hg,rfl,λ_=>⟨_,rfl,rfl⟩⟩ dk,hE⟩
 ·exact hideAll_get _ (I.base.keep b o q n nb (by intro z;cases z)) (ni b o q nb)
 ·obtain⟨o',q'⟩:=I.base.there b o q (by intro z;cases z);exact⟨o',hideAll_get _ q' (ni b o q nb)⟩
 ·obtain⟨sl,q'⟩:=I.base.slot b o q (I.ok.frf b hb) hb (by intro z;cases z);obtain⟨_,o',ho',hn⟩:=hst.mem ((cy hf).mpr (.inr hb));rw[q']at ho';have e1:=aaJ ho';obtain⟨sl',q2⟩:=x4 b _ q' (by rw[e1];exact hn);exact⟨sl',q2⟩
 ·have:=I.base.free b o q n (by intro z;cases z);unfold del;split
  ·rfl
  ·exact this
 ·have:=I.base.tups b xs q;rw[kQ (zx this hHa (by intro z;cases z))];exact this
 ·have:=I.base.dz b o u q;rw[kQ (zx this hHa (by intro z;cases z))];exact this
 ·obtain⟨m1,e1⟩:=I.base.tbls b ps q;exact⟨m1,by rw[kQ (zx e1 hHa (by intro z;cases z))];exact e1⟩
 ·have hba:b≠a:=λz=>by subst z;rw[GX]at q;cases q
  rw[kQ hba]at q
  have nf:∀c v,H c=some v->c≠a->c∉hid:=λc v q' hca hb=>by
   rcases aay.mp hb with z | z
   ·exact hca z
   ·have:=I.uq c z;rw[this]at q';cases q'
  have no:∀c,H c=some (.own b)->c≠a:=λc q'=>zx q' hHa (by intro z;cases z)
  refine(I.hok b u q).rK (λc v hc q'=>hideAll_get _ q' ?_) (λc q'=>by rw[kQ (no c q')];exact q') λc xs q'=>by rw[kQ (zx q' hHa (by intro z;cases z))];exact q'
  rcases hc with z | z
  ·rw[z];exact nf b u q hba
  ·exact nf c _ z (no c z)
theorem K0:Passes (xg P w) (uK (xg P w) P w K mg base N qual scope f cd A outer s₀ H₀ E) E:=by
 intro pins σ H s e s' I hc;obtain⟨a,C,t,H',B,dd,rfl,ho,hb,F,hdd,hE⟩:=hc
 let env:=envOfC qual scope s₀.heap.objs.size f cd
 have hf:env.frame=some s₀.heap.objs.size:=rfl;have F':FE P w (env::outer) H H' s.heap B a (.ref C) (.ref t) s'.heap:=F;show wpAny _ _ (leaving env (.ref a)) _ _ _;have lib:=wpAny_leaves_onW (M:=model P w) (A:=(uK (xg P w) P w K mg base N qual scope f cd A outer s₀ H₀ E).A) (E:=λ_ _=>False) (s:=s')
  (Q:=λ_ s2=>∃h2,s2={s' with heap:=h2}/\Heap.FlyingW B outer a (.ref C) (.ref t) h2/\s'.heap.UpToSlots h2) (I.ok.frames) hf F'.fly λh2 x1 x4=>⟨h2,rfl,x1,x4⟩
 refine aaS (kP (uW env (.ref a)) lib) (λ_ s2 z=>?_) λ_ _ z=>z.elim
 obtain⟨⟨h2,rfl,x1,x4⟩,dk⟩:=z
 have ni:∀b o,s₀.heap.get? b=some o->b∉qk outer->b∉qk (env::outer):=λb o q nb hb=>by
  rcases (cy hf).mp hb with z | z
  ·exact absurd (aal q) (by rw[z];exact aa8 _)
  ·exact nb z
 refine⟨a,C,t,H',B,dd,rfl,ho.trans I.os,hb,⟨λb o q n nb=>?_,λb o q nb=>?_,λb o q hb=>?_,λb o q n=>?_,λb xs q=>F'.tups b xs (I.base.tups b xs q),λb o u q=>F'.dz b o u (I.base.dz b o u q),λb ps q=>?_,F'.hok,x1⟩,hdd.dk dk,hE⟩
 ·exact F'.keep b o (I.base.keep b o q n nb (by intro z;cases z)) (I.base.free b o q n (by intro z;cases z)) (ni b o q nb)
 ·obtain⟨o',q'⟩:=I.base.there b o q (by intro z;cases z);exact F'.there b o' q' (ni b o q nb)
 ·obtain⟨sl,q'⟩:=I.base.slot b o q (I.ok.frf b hb) hb (by intro z;cases z);obtain⟨OZ,q2⟩:=F'.slot b _ q' ((cy hf).mpr (.inr hb));obtain⟨_,o',ho',hn⟩:=F'.fly.2.2.1.mem ((cy hf).mpr (.inr hb));rw[q2]at ho';have e1:=aaJ ho';obtain⟨sl',q3⟩:=x4 b _ q2 (by rw[e1];exact hn);exact⟨sl',q3⟩
 ·obtain⟨o',q'⟩:=I.base.there b o q (by intro z;cases z);exact F'.free b o' q' (I.base.free b o q n (by intro z;cases z))
 ·obtain⟨m1,e1⟩:=I.base.tbls b ps q;obtain⟨m2,e2⟩:=F'.tbls b _ e1;exact⟨m1++m2,by rw[e2,Array.append_assoc]⟩
theorem gf.Yx{x qual:Str}{st:Stmt}{f:Addr}{fd:FuncData}{N ps:List Str}{k:Nat}{sp:Sp}(F:gf K x qual st f fd)(S:aI N ps (dS st))(len:∀vs H Q E,sp vs H Q E->vs.length=ps.length)
  (hbody:∀(cdv:Value) (A:Around) (outer:List Env) (s:Shared) (H:Hp) (vs:List V) (Q:VK) (E:XK),cX k (A.deeper (envOfC qual (dS st) s.heap.objs.size f cdv))->sp vs H Q E ->
   ∃t,qo (uK (xg P w) P w K mg base N qual (dS st) f cdv A outer s H E) (dB st) t/\t {nx:=λ_ H'=>Q .non H',rt:=Q} (start N vs) H):bB P w K mg base (xg P w) (k + 1) f fd ps sp:=by
 obtain⟨oc,od,kV,doc,pm,an,cdv,ct,osl,rfl,lk,hcd⟩:=F.ex;exact Nq lk hcd S len λA outer s H vs Q E hr hsp=>hbody cdv A outer s H vs Q E hr hsp
end
theorem Pq{X:Cx}{x:Str}{k:Nat}{ps:List Str}{sp:Sp}{e:Expr}{es:List Expr}{t:TA}{p pos:Pos}{E:XK}(h:bM X.prog X.w X.K X.mg X.base (xg X.prog X.w) x k ps sp)(hx:Passes (xg X.prog X.w) X E)(hr:cX k X.A)(hg:Gl X x)(ha:PA X (e::es) t)(hdb:(x == ("__debug__" : Str))=false:=by decide)
  (he:starEach (e::es) X.env=(false,eval e X.env)::starEach es X.env:=by rfl) (hpl:(backTo pos (starEach es X.env)).any (·.1)=false:=by rfl) :
  PE X (.Call (.Name x p) (e::es) [] pos) (zz sp [] E t):=by
 obtain⟨f,fd,F,b,kp,m⟩:=h.ex;exact CT F hr hg m kp b .nil hx ha hdb he hpl
section
variable {M:Model} {A:Around} {E:Value->Shared->Prop} {env:Env} {nm qn:Str} {C Nc:Addr} {bs bm:List Value} {hdct:Bool} {sn:List Str} {sub:List Value} {ab:Bool} {col:Option Bool} {dd:Option Addr} {k0 k1 k2 k3 k5:Option Value} {newId:String}
theorem Eu{s:Shared}{x:Sem Value}{Q:Flow->Shared->Prop}(hb:bm.contains (.type "BaseException")=true)(hh:A.handled=none)
  (h:wpAny M A x (λv s1=>∃e t0 dx,v=.ref e/\s1.heap.get? C=some (excClassObj nm qn C Nc bs bm hdct sn sub ab col dd k0 k1 k2 k3 k5 newId) /\
   s1.heap.get? e=some {cls:=.ref C,dict:=dx,data:=.fields #[.ref t0,.none,.none,.none,.bool false,.none]}/\E (.ref e) s1) E s):wpAny M A (raiseStmt env (some x) none) Q E s:=by
 have hB:(Value.ref C::bm).contains (.type "BaseException")=true:=by rw[List.contains_cons,hb,Bool.or_true]
 unfold raiseStmt;refine wpAny_bind (wpAny_mono h (λv s1 z=>?_) λ_ _ z=>z);obtain⟨e,t0,dx,rfl,gC,ge,hE⟩:=z;obtain⟨hp,g,d,tk,os⟩:=s1
 repeat (first | with_reducible refine aaK ge ?_ | (with_reducible refine acm gC ?_;rw[hB]) | with_reducible refine aaK gC ?_ | wp_step)
 exact wpAny_raiseNew_none hh hE
end
def K1(C:Addr)(fs:List Str)(E:XK)(t:TA):TS:=λ_ σ H=>t σ H λvs H1=>vs.length=fs.length/\∀dx H2,H1 dx=none->aS H1 H2->H2 dx=some (.ext (XD dx (fs.zip vs)))->E (.ref C) (some dx) H2
section
variable {X:Cx} {C:Addr} {fs:List Str} {x:Str} {np cpos pos:Pos} {e:Expr} {es:List Expr} {t:TA} {E:XK}
theorem Ew(hz:V6 X E)(M:KY X.prog X.w X.K X.mg X.base C fs)(hr:cX 2 X.A)(hg:Gl X x)(hm:X.mg x=some (.ref C))(hc:X.calm=true)(ha:PA X (e::es) t)(hdb:(x == ("__debug__" : Str))=false:=by decide)
  (he:starEach (e::es) X.env=(false,eval e X.env)::starEach es X.env:=by rfl) (hpl:(backTo cpos (starEach es X.env)).any (·.1)=false:=by rfl) :
  PS X (.Raise (some (.Call (.Name x np) (e::es) [] cpos)) none pos) (K1 C fs E t):=by
 intro pins s σ H D I h;obtain⟨f,fd,M',F',b⟩:=M.ini;obtain⟨bx,hbx⟩:=M'.ex;obtain⟨bm,N,nm,qn,bs,sn,sub,ab,col,dd,k0,k1,k2,k3,k5,mN,hC,hn,T,_⟩:=uw I.mod.kin hbx;rw[arm_exec_Raise];refine aaf (ab5 (Eu (C:=C) (nm:=nm) (qn:=qn) (Nc:=N) (bs:=bs) (bm:=bm) (hdct:=true) (sn:=sn) (sub:=sub) (ab:=ab) (col:=col) (dd:=dd) (k0:=k0) (k1:=k1) (k2:=k2) (k3:=k3) (k5:=k5) (newId:=Pm bx) (T.hasType (X:="BaseException") (b:=true) (GN bx)) (I.ok.hd hc) ?_));refine aaf (aaS (?_:wpAny (model X.prog X.w) X.A (eval (.Call (.Name x np) (e::es) [] cpos) X.env) _ X.xe s) (λv s1 z=>aaf (ab5 (aat z))) λ_ _ z=>z);refine abw (qp I hg hm ?_ hdb);refine acq (h₀:=X.base) I.ok.mod.kin M'.kp (bU (ha cpos pins s σ H _ I h) λus s1 ⟨vs,H1,I1,r,hl,q⟩=>⟨I1.ql,?_⟩) he hpl;refine aaS (Ep (dvs:=[]) M' F' hr.low b .nil Nt I1 r (by rw[hl,sizeLine_eq];have:=M.le;omega) (Q:=λv H2=>∃a dx,v=.ref a/\s1.heap.objs.size<=a/\H2 a=some (.ext (XP C a (some dx)))/\E (.ref C) (some dx) (del H2 a)) λa hsz hn'=>⟨a,C,vs++[],rfl,by rw[abb];exact hl,M.s,M.no,uS,λdx hd hda=>⟨rfl,a,dx,rfl,hsz,uS,?_⟩⟩) (λu s' z=>?_) λ_ _ z=>z
 ·rw[uN hda]at hd;refine q dx _ hd (λc o z=>?_) ?_
  ·rw[kQ (nN z hn'),uN (nN z hn'),uN (nN z hd),uN (nN z hn')];exact z
  ·rw[kQ hda,uN hda,uS,abb]
 ·obtain⟨v,H2,I2,rv,a,dx,rfl,hsz,hHa,hE⟩:=z;cases rv;obtain⟨⟨t0,g0⟩,_,_⟩:=I2.hok a _ hHa;exact⟨a,t0,_,rfl,I2.bk _ _ hC,g0,hz pins σ H2 s' a C (some dx) I2 (aaB I1.sz hsz) hHa hE⟩
end
def NG(C a:Addr)(dd:Option Addr):Heap->Prop:=λh=>∃o vs,h.get? a=some o/\o.cls=.ref C/\o.data=.fields vs/\o.dict=dd
theorem C6{C a:Addr}{dd:Option Addr}(h:Heap)(p:NG C a dd h):ExcAt C a h:=let ⟨o,vs,q1,q2,q3,_⟩:=p;⟨o,vs,q1,q2,q3⟩
theorem Pr{C a dx:Addr}(h:Heap)(p:NG C a (some dx) h):XG C a dx h:=let ⟨o,vs,q1,q2,q3,q4⟩:=p;⟨o,vs,q1,q2,q4,q3⟩
def GY(K:aH)(CW:Addr)(i:Nat)(tb:TS)(D:Ends)(σ:St):XK:=λcls dd H2=>∃C,cls=.ref C/\PySem.W.mroIn K C (.ref CW)=some true /\
 ∀a,H2 a=none->tb {nx:=λσ' H'=>D.nx (σ'.set i none) H',rt:=D.rt,bk:=λσ' H'=>D.bk (σ'.set i none) H',ct:=λσ' H'=>D.ct (σ'.set i none) H'} (σ.set i (some (.ref a))) (upd H2 a (.ext (NG C a dd)))
section
variable {X:Cx} {CW:Addr} {cx n:Str} {i:Nat} {b₀:Stmt} {suite:List Stmt} {np hpos pos:Pos} {tb:TS}
theorem K2{pins:List (Addr×Obj)}{σ:St}{H:Hp}{s s1:Shared}{D:Ends}{e:Value}(hst:X.stack=X.env::X.outer)(hf:X.env.frame=some X.env.locals)(hg:Gl X cx)(hm:X.mg cx=some (.ref CW))(q:PySem.W.ktsIn X.K CW "BaseException"=true)
  (hN:X.N.Nodup) (hi:X.N[i]?=some n) (hk:X.env.kindOf n=some .local) (hs:∀a E,qo (X.hand a E) (b₀::suite) tb) (hd:(cx == ("__debug__" : Str))=false) (hex:X.ex=[])
  (I:Inv X pins σ H s) (hc:xg X.prog X.w X.stack H s (GY X.K CW i tb D σ) e s1) :
  wpAny (model X.prog X.w) X.A (noteFrame e X.env) (λ_ s₂=>wpAny (model X.prog X.w) X.A (setFlight e none) (λ_ s₃ =>
   wpAny (model X.prog X.w) X.A (handleBy e X.env [.ExceptHandler (some (.Name cx np)) (some n) (b₀::suite) hpos]) (SP X pins D) X.xe s₃) X.xe s₂) X.xe s1:=by
 obtain⟨a,C,t,H',B,dd,rfl,ho,hb,F,hdd,C',hC',hsub,hE⟩:=hc;cases hC';have hfr:X.A.frames=some (X.env::X.outer):=by rw[← hst];exact I.ok.frames
 have F0:FE X.prog X.w (X.env::X.outer) H H' s.heap B a (.ref C) (.ref t) s1.heap:=by rw[← hst];exact F
 have lib1:=wpAny_looks_onW (M:=model X.prog X.w) (A:=X.A) (E:=X.xe) (s:=s1) (Q:=λ_ s'=>∃h4,s'={s1 with heap:=h4}/\Heap.HeldW B (X.env::X.outer) a (.ref C) (.ref t) X.env.locals h4/\s1.heap.UpToSlots h4) hfr hf F0.fly λh4 GZ Vd=>⟨h4,rfl,GZ,Vd⟩
 refine aaS (kP (C4 (.ref a) X.env) lib1) (λ_ s4 z4=>?_) λ_ _ z=>z
 obtain⟨⟨h4,rfl,GZ,Vd⟩,Zt⟩:=z4;have lib2:=wpAny_landsW (M:=model X.prog X.w) (A:=X.A) (E:=X.xe) (s:={s1 with heap:=h4}) (Q:=λ_ s'=>∃h5,s'={s1 with heap:=h5}/\Heap.FlyingW B (X.env::X.outer) a (.ref C) (.ref t) h5/\h4.UpToSlots h5) GZ λh5 Tq Ve=>⟨h5,rfl,Tq,Ve⟩
 refine aaS (kP (jy (.ref a) none) lib2) (λ_ s5 z5=>?_) λ_ _ z=>z
 obtain⟨⟨h5,rfl,Tq,Ve⟩,Zu⟩:=z5;have Zv:pf h5 a dd:=(hdd.dk Zt).dk Zu
 have inv:∀(h:Heap) (tk:Nat),Heap.FlyingW B (X.env::X.outer) a (.ref C) (.ref t) h->s1.heap.UpToSlots h->Inv X pins σ H' {s1 with heap:=h,toks:=tk}:=λh tk fl sm=>by
  have Fh:=F0.on fl sm;refine I.Nk (ch:=[]) ho (by rw[hst];exact Fh.un) Fh.V2 hb (λb z=>nomatch z)
 have I5:=inv h5 s1.toks Tq (Vd.trans Ve);obtain⟨oe,vs,g1,g2,g3,g4⟩:=Tq.first;refine wpAny_handleBy_cons (codeAny_handlers_test ?_) (by intro q;cases q);refine qp (X:=X.hand a λ_ _=>False) (I5.hand a _) hg hm ?_ hd;refine excMatches_K I5.ql g1 g2 q hsub (codeAny_handlers_suite_as ?_);have V7:∀A3:Around,wpAny (model X.prog X.w) A3 (setFlight (.ref a) none) (λ_ s'=>∃h6,s'={s1 with heap:=h6}/\Heap.FlyingW B (X.env::X.outer) a (.ref C) (.ref t) h6/\h5.UpToSlots h6) (λ_ _=>False) {s1 with heap:=h5}:=λA3=>lands_againW (s:={s1 with heap:=h5}) Tq λh6 Sa V8=>⟨h6,rfl,Sa,V8⟩
 refine aaS (kP (jy (.ref a) none) (V7 _)) (λ_ s6 z6=>?_) λ_ _ z=>z.elim
 obtain⟨⟨h6,rfl,Sa,V8⟩,Zw⟩:=z6;obtain⟨od6,Zx,Zy,_⟩:pf h6 a dd:=Zv.dk Zw;have I6:=inv h6 s1.toks Sa ((Vd.trans Ve).trans V8);obtain⟨oe,vs,g1,g2,g3,g4⟩:=Sa.first;have nH:H' a=none:=F0.new;have nB:B.get? a=none:=Sa.2.1
 have nf:a∉qk (X.env::X.outer):=λhm=>by
  obtain⟨_,o,ho',hn'⟩:=Sa.2.2.1.mem hm;rw[g1]at ho';cases ho';exact hn' _ g3
 have hL:a≠X.env.locals:=λz=>nf ((cy hf).mpr (.inl z))
 have hfs:a∉X.fs:=λz=>nf ((cy hf).mpr (.inr z))
 have old:∀b o,s.heap.get? b=some o->b≠a:=λb o e z=>by
  subst z;obtain⟨o',e'⟩:=F0.there b o e nf;rw[nB]at e';cases e'
 have h1:X.s₀.heap.get? a=none:=by
  cases e:X.s₀.heap.get? a with
  | none=>rfl
  | some o =>
   obtain⟨o',e'⟩:=I.base.there a o e (by rw[hex];exact λz=>nomatch z);exact absurd rfl (old a o' e')
 have hcc:∀x c,X.env.cells.lookup x=some c->c≠a:=λx c e z=>by
  obtain⟨v,o,ho',hd'⟩:=I6.cell x c e;have JK:h6.get? c=some o:=ho';rw[z,g1]at JK;cases JK;rw[g3]at hd';cases hd'
 have hpp:∀p∈X.pn++pins,p.1≠a:=λp hp z=>by
  have:=(I.pin p hp).1;exact old _ _ this z
 have qd:oe.dict=dd:=by
  have z:h6.get? a=some oe:=g1;rw[Zx]at z;cases z;exact Zy
 have I7:=I6.adopt (φ:=NG C a dd) nH h1 hL hfs hcc hpp ⟨⟨oe,vs,g1,g2,g3,qd⟩,⟨oe,g1⟩,λu v ⟨o,ws,q1,q2,q3,q4⟩ k=>⟨o,ws,k o q1,q2,q3,q4⟩⟩;refine rN I7 hN hi (.inl hk) (v:=.ref a) rfl (λs8 I8 _=>?_) (.inr hk);refine aaS (hs a _ pins s8 _ _ _ (I8.hand a _) (hE a nH)) (λfl s9 h9=>?_) (λ_ _ z=>z)
 cases fl with
 | next =>
  obtain⟨σ',H9,I9,q9⟩:=h9;exact C3 (I9.yd I.ok) hN hi hk λs' I'=>⟨_,H9,I',q9⟩
 | brk =>
  obtain⟨σ',H9,I9,q9⟩:=h9;exact C3 (I9.yd I.ok) hN hi hk λs' I'=>⟨_,H9,I',q9⟩
 | cont =>
  obtain⟨σ',H9,I9,q9⟩:=h9;exact C3 (I9.yd I.ok) hN hi hk λs' I'=>⟨_,H9,I',q9⟩
 | ret u =>
  obtain⟨v,σ',H9,I9,r9,q9⟩:=h9;exact C3 (I9.yd I.ok) hN hi hk λs' I'=>⟨v,_,H9,I',r9,q9⟩
end
section
variable {κ:Type} [DecidableEq κ]
def rT(kvs:List (κ×V))(k:κ):Option V:=(kvs.find? λkv=>decide (kv.1=k)).map (·.2)
theorem uX{p:κ×V}{r:List (κ×V)}{k:κ}(e:p.1=k):rT (p::r) k=some p.2:=by simp[rT,List.find?_cons,e]
theorem uY{p:κ×V}{r:List (κ×V)}{k:κ}(e:¬ p.1=k):rT (p::r) k=rT r k:=by simp[rT,List.find?_cons,e]
theorem qi.xh{o:Option V}{u:Option Value}(r:qi o u):o.isSome=u.isSome:=by
 cases o with
 | none=>cases u with
  | none=>rfl
  | some _=>exact(show False from r).elim
 | some _=>cases u with
  | none=>exact(show False from r).elim
  | some _=>rfl
theorem KV.val{kvs:List (κ×V)}{vs:List (κ×Value)}(r:KV kvs vs)(k:κ):qi (rT kvs k) (valueAt vs k):=by
 unfold KV at r
 induction r with
 | nil=>exact abx
 | @cons p q ps qs h t ih =>
  obtain⟨h1,h2⟩:=h;by_cases e:p.1=k
  ·have e':q.1=k:=h1.symm.trans e;have b:valueAt (q::qs) k=some q.2:=by simp[valueAt,List.find?_cons,e']
   rw[uX e,b];exact h2
  ·have e':¬ q.1=k:=λz=>e (h1.trans z)
   have b:valueAt (q::qs) k=valueAt qs k:=by simp[valueAt,List.find?_cons,e']
   rw[uY e,b];exact ih
end
theorem G0{P:Program}{w:World}{k:Key}{u:Value}(r:RelV (kV k) u):(eF P w).is k u=true:=by
 cases k with
 | inl i=>obtain⟨t,e⟩:=(show ∃t,u=Value.int i t from r);subst e;exact sJ P w i t
 | inr x=>obtain⟨t,e⟩:=(show ∃t,u=Value.str x t from r);subst e;exact zw P w x t
theorem xi{P:Program}{w:World}:∀{ks:List Key} {us:List Value},Vals (ks.map kV) us->ItemsAre (eF P w) ks us
 | [],_,r=>by rw[ac4]at r;cases r;exact .nil
 | k::ks,_,r=>by
  rw[abn]at r
  cases r with
  | cons h t=>exact .cons (G0 h) (xi t)
abbrev KT(H:Hp):List (List Key×V)->List (List Key×Addr×Value)->Prop:=Paired λp q=>p.1=q.1/\H q.2.1=some (.tup (p.1.map kV))/\RelV p.2 q.2.2
theorem KT.val{H:Hp}{kvs:List (List Key×V)}{xs:List (List Key×Addr×Value)}(r:KT H kvs xs)(k:List Key):qi (rT kvs k) ((atKey xs k).map (·.2)):=by
 induction r with
 | nil=>exact abx
 | @cons p q ps qs h t ih =>
  obtain⟨h1,_,h2⟩:=h;by_cases e:p.1=k
  ·have e':q.1=k:=h1.symm.trans e;have b:atKey (q::qs) k=some q.2:=by simp[atKey,List.find?_cons,e']
   rw[uX e,b];exact h2
  ·have e':¬ q.1=k:=λz=>e (h1.trans z)
   have b:atKey (q::qs) k=atKey qs k:=by simp[atKey,List.find?_cons,e']
   rw[uY e,b];exact ih
section
variable {P:Program} {w:World} {H:Hp} {h:Heap} {a:Addr}
theorem NH{u:HO}(ok:qj P w H h)(e:Rd H a u):eg P w H h a u:=e.ok ok
theorem G2{kvs:List (Key×V)}(ok:qj P w H h)(e:Rd H a (.dK kvs)):kvs.length<=sizeLine/\(a == sysModules)=false/\∃vs,KV kvs vs/\h.DictOf (eF P w) a vs :=
 show eg P w H h a (.dK kvs)from NH ok e
theorem BN{ks:List Key}(ok:qj P w H h)(e:H a=some (.tup (ks.map kV))):(tupleKind (eF P w)).is h ks a:=by
 obtain⟨_,its,r,o,h1,h2,n,h3⟩:=(show eg P w H h a (.tup (ks.map kV))from ok a _ e);exact⟨o,its.toArray,n,h1,h2,h3,by simpa using xi r⟩
theorem G3{kvs:List (List Key×V)}(ok:qj P w H h)(e:Rd H a (.dT kvs)):kvs.length<=sizeLine/\(a == sysModules)=false /\
  ∃xs,KT H kvs xs/\h.DictOfH (tupleKind (eF P w)) a xs:=by
 obtain⟨z,y,xs,r,o,es,ep,h1,h2,h3,h4,h5⟩:=(show eg P w H h a (.dT kvs)from NH ok e);refine⟨z,y,xs,r,o,es,ep,h1,h2,h3,h4,λx hx=>?_,h5⟩
 have all:∀{l:List (List Key×V)} {m:List (List Key×Addr×Value)},KT H l m->∀x∈m,(tupleKind (eF P w)).is h x.1 x.2.1:=by
  intro l m q
  induction q with
  | nil=>intro x hx;exact nomatch hx
  | @cons p q ps qs hq t ih =>
   intro x hx;rcases aay.mp hx with e | hx
   ·subst e;exact BN ok (by rw[← hq.1];exact hq.2.1)
   ·exact ih x hx
 exact all r x hx
end
def wj(H:Hp)(a:Addr)(y:V)(r:Option V):Prop :=
 (∃kvs k,Rd H a (.dK kvs)/\y=kV k/\r=rT kvs k)∨∃kvs k b,Rd H a (.dT kvs)/\y=.ref b/\H b=some (.tup (k.map kV))/\r=rT kvs k
theorem wj.k{H:Hp}{a:Addr}{kvs:List (Key×V)}{k:Key}(e:H a=some (.dK kvs)):wj H a (kV k) (rT kvs k):=.inl ⟨kvs,k,.inl e,rfl,rfl⟩
section
variable {X:Cx} {pins:List (Addr×Obj)} {σ:St} {H:Hp} {s:Shared} {a:Addr} {y v:V} {u r:Value} {o:Option V} {A:Around} {E:Value->Shared->Prop}
theorem Ey{Q:Value->Shared->Prop}(hu:A.units + 1 < cLine)(I:Inv X pins σ H s)(g:wj H a y (some v))(ry:RelV y u)(h:∀w' s',Inv X pins σ H s'->RelV v w'->Q w' s'):
  wpAny (model X.prog X.w) A (getItem (.ref a) u) Q E s:=by
 rcases g with⟨kvs,k,e,ey,l⟩ | ⟨kvs,k,b,e,ey,eb,l⟩
 ·subst ey;obtain⟨z,hd,vs,rel,dd⟩:=G2 I.hok e;obtain⟨w',hw,rw'⟩:=qi.some_of (v:=v) (o:=valueAt vs k) (by rw[l];exact rel.val k);exact wpAny_getItem_of (G0 ry) dd.mapOf hw (h w' _ (I.tok _) rw')
 ·subst ey;cases (show u=Value.ref b from ry);obtain⟨z,hd,xs,rel,dd⟩:=G3 I.hok e;obtain⟨w',hw,rw'⟩:=qi.some_of (v:=v) (o:=(atKey xs k).map (·.2)) (by rw[l];exact rel.val k);obtain⟨p,hp,Zz⟩:=Option.map_eq_some_iff.mp hw;refine wpAny_getItem_heap (tupleKind_room_in1 hu) (BN I.hok eb) dd hp ?_;rw[Zz];exact h w' _ (I.tok _) rw'
theorem K3{Q:Value->Shared->Prop}(hu:A.units + 1 < cLine)(I:Inv X pins σ H s)(g:wj H a y o)(ry:RelV y u)(h:∀s',Inv X pins σ H s'->Q (.bool (!o.isSome)) s'):
  wpAny (model X.prog X.w) A (compareOp .NotIn u (.ref a)) Q E s:=by
 rcases g with⟨kvs,k,e,ey,l⟩ | ⟨kvs,k,b,e,ey,eb,l⟩
 ·subst ey;obtain⟨z,hd,vs,rel,dd⟩:=G2 I.hok e;refine wpAny_notIn_of (G0 ry) hd dd.mapOf ?_;rw[← (rel.val k).xh,← l];exact h _ (I.tok _)
 ·subst ey;cases (show u=Value.ref b from ry);obtain⟨z,hd,xs,rel,dd⟩:=G3 I.hok e;refine wpAny_notIn_heap (tupleKind_room_in1 hu) (BN I.hok eb) hd dd ?_;have q:=(rel.val k).xh;rw[Option.isSome_map]at q;rw[← q,← l];exact h _ (I.tok _)
end
section
variable {X:Cx} {pins:List (Addr×Obj)} {σ:St} {H:Hp} {s:Shared} {a:Addr} {kvs:List (Key×V)} {k:Key} {u:Value} {A:Around} {E:Value->Shared->Prop}
end
def Tr(i:Expr):Prop:=∀ov iv,subscripted i false ov iv=operate [ov,iv] (getItem ov iv)
theorem K4{prog:Program}{w:World}{A:Around}{E:Value->Shared->Prop}{s:Shared}{env:Env}{value slice:Expr}{pos:Pos}{T id:String}{Q:Value->Shared->Prop}
  (hl:typeLookup (.type T) "__getitem__"=pure (some (.builtin id))) (hs:Tr slice)
  (h:wpAny (model prog w) A (eval value env) (λo s₁=>wpAny (model prog w) A (eval slice env) (λi s₂=>s₂.TypeIs o T/\wpAny (model prog w) A (getItem o i) Q E s₂) E s₁) E s) :
  wpAny (model prog w) A (eval (.Subscript value slice pos) env) Q E s:=by
 refine Subscript_ (wpAny_mono h (λo s₁ h₁=>wpAny_mono h₁ (λi s₂ h₂=>?_) λ_ _ x=>x) λ_ _ x=>x);obtain⟨hT,h₂⟩:=h₂;unfold subscriptTail;refine wpAny_bind ?_;rw[getitemInPython_of_ne hT.not_modules];refine wpAny_bind (wpAny_specialOf hT hl ?_)
 have fin:wpAny (model prog w) A (subscripted slice false o i) (λr s₃=>wpAny (model prog w) A (letTemporaryGo value o r >>= λ_=>pure r) Q E s₃) E s₂:=by
  rw[hs o i];exact wpAny_operating (aaS h₂ (λr s₃ h₃=>aaf (wpAny_letTemporaryGo (aat h₃))) λ_ _ x=>x)
 first
  | exact aat (aaf fin)
  | exact aaf (aat (aaf fin))
  | exact aaf fin
theorem zO{X:Cx}{pins:List (Addr×Obj)}{σ:St}{H:Hp}{s:Shared}{a:Addr}{y:V}{o:Option V}(I:Inv X pins σ H s)(g:wj H a y o):s.TypeIs (.ref a) "dict":=by
 rcases g with⟨kvs,k,e,_,_⟩ | ⟨kvs,k,b,e,_,_,_⟩
 ·obtain⟨_,_,vs,_,dd⟩:=G2 I.hok e;exact dd.typeIs
 ·obtain⟨_,_,xs,_,dd⟩:=G3 I.hok e;exact dd.typeIs
def Ts(td ty:TE):TE:=λσ H Q=>td σ H λx H1=>ty σ H1 λy H2=>∃a v,x=.ref a/\wj H2 a y (some v)/\Q v H2
def K5(ty td:TE):TE:=λσ H Q=>ty σ H λy H1=>td σ H1 λx H2=>∃a o,x=.ref a/\wj H2 a y o/\Q (.bl (!o.isSome)) H2
section
variable {X:Cx} {o i e value:Expr} {pos pos' tpos:Pos} {td ty tv:TE}
theorem C7(hu:X.A.units + 1 < cLine)(ho:PE X o td)(hi:PE X i ty)(hs:Tr i):PE X (.Subscript o i pos) (Ts td ty):=by
 intro pins s σ H Q I h;refine K4 PySem.F.slot_dict_getitem.lookup hs (bU (ho pins s σ H _ I h) λu s1 ⟨x,H1,I1,rx,q1⟩=>bU (hi pins s1 σ H1 _ I1 q1) λiv s2 ⟨y,H2,I2,ry,a,v,ex,g,q2⟩=>?_);subst ex;obtain rfl:u=Value.ref a:=rx;exact⟨zO I2 g,Ey hu I2 g ry λw' s3 I3 rw'=>⟨v,H2,I3,rw',q2⟩⟩
theorem Ez(hu:X.A.units + 1 < cLine)(hi:PE X i ty)(ho:PE X o td):PC X .NotIn i o (K5 ty td):=by
 intro pins s σ H Q I h;refine bU (hi pins s σ H _ I h) λiv s1 ⟨y,H1,I1,ry,q1⟩=>bU (ho pins s1 σ H1 _ I1 q1) λu s2 ⟨x,H2,I2,rx,a,ov,ex,g,q2⟩=>?_
 subst ex;obtain rfl:u=Value.ref a:=rx;exact K3 hu I2 g ry λs3 I3=>⟨.bl (!ov.isSome),H2,I3,rfl,q2⟩
end
section
variable {X:Cx} {pos:Pos}
end
theorem C8(ns:List Int):∀k,k<=ns.length->preSum (λi=>(ns[i]?).getD 0) k=(ns.take k).sum
 | 0,_=>rfl
 | k + 1,h=>by
  have ih:=C8 ns k (by omega);rw[preSum,ih,acx,cW (by omega),List.sum_append];show _ + ns[k]=_ + (ns[k] + 0);rw[Int.add_zero]
section
variable {X:Cx}
def NI(K:aH):List V->Hp->VK->Prop:=λxs H Q=>∃(p:Addr) (ns:List Int),xs=[.ref p]/\dC K H p (ns.map V.int)/\Q (.int ns.sum) H
theorem EA(hc:X.calm=true):eh X (.builtin "sum") (NI X.K):=by
 intro pins s σ H xs us Q I r h;obtain⟨p,ns,rfl,hS,q⟩:=h;obtain⟨u,rfl,ru⟩:=vals1 r;cases ru;obtain⟨its,rv,pl,hz⟩:=I.list hS
 have hlen:its.toArray.size=ns.length:=by
  have:=rv.length;simp at this;simp[this]
 have hlt:p < s.heap.objs.size:=by obtain⟨o,n,e,_⟩:=pl;exact aal e
 refine call_sum_walkG (abF pl.isList ?_);refine⟨s.heap.objs.size,_,_,its.toArray.size,_,_,λi=>(ns[i]?).getD 0,rfl,Walks.list (show X.A.in1.handled=none from I.ok.hd hc) _ _ (aav hlt) its.toArray,⟨⟨_,aaz _ rfl,rfl,rfl⟩,pl.isList.push _⟩,?_,?_,λh' tk t' k=>?_⟩
 ·intro b hb;have sz:(s.heap.push {cls:=.type "list_iterator",data:=.fields #[.ref p,.int 0 0]}).objs.size=s.heap.objs.size + 1:=abM ..;rcases aay.mp hb with e | e
  ·rw[e];show _ < (s.heap.push _).objs.size;rw[abM];exact Nat.lt_succ_self _
  ·rw[ik e];show _ < (s.heap.push _).objs.size;rw[abM];exact Nat.lt_succ_of_lt hlt
 ·intro i v hv
  have hi:i < ns.length:=by
   rw[← hlen];exact(acu.mp hv).1
  obtain⟨u',hu',t,ru'⟩:=rv.get (i:=i) (x:=.int ns[i]) (by rw[List.getElem?_map,cW hi];rfl);have e:its[i]?=some v:=by simpa using hv
  rw[hu']at e;cases e;show ∃t,v=Value.int ((ns[i]?).getD 0) t;rw[cW hi];exact⟨t,ru'⟩
 ·rw[hlen,C8 ns _ (Nat.le_refl _),List.take_length];exact⟨.int _,H,I.kept (t':=tk) λb o e=>k b o (by simpa using Nat.ne_of_lt (Heap.lt_size e)) (Heap.get?_push_of_some _ e),⟨t',rfl⟩,q⟩
end
def jb(P:Addr->Prop)(H HX:Hp):Prop:=∀c o,¬ P c->H c=some o->HX c=some o
open Classical in
noncomputable def cutH (P:Addr->Prop) (H:Hp):Hp:=λc=>if P c then none else H c
theorem ba{P:Addr->Prop}{H:Hp}{c:Addr}{o:HO}:cutH P H c=some o↔¬ P c/\H c=some o:=by
 unfold cutH;by_cases h:P c
 ·rw[aaD h];exact⟨(λz=>nomatch z),(λz=>absurd h z.1)⟩
 ·rw[aaF h];exact⟨λz=>⟨h,z⟩,λz=>z.2⟩
theorem cn{P:Addr->Prop}{H:Hp}:aS (cutH P H) H:=λ_ _ e=>(ba.mp e).2
def aE(K:aH)(P:Addr->Prop)(H:Hp)(v:V)(d:PyData):Prop:=aX K (cutH P H) v d
theorem jb.refl{P:Addr->Prop}{H:Hp}:jb P H H:=λ_ _ _ e=>e
theorem jb.of{P:Addr->Prop}{H H':Hp}(s:aS H H'):jb P H H':=λc o _ e=>s c o e
theorem jb.trans{P:Addr->Prop}{H H1 H2:Hp}(a:jb P H H1)(b:jb P H1 H2):jb P H H2:=λc o n e=>b c o n (a c o n e)
theorem aE.now{K:aH}{P:Addr->Prop}{H:Hp}{v:V}{d:PyData}(h:aE K P H v d):aX K H v d:=aX.same cn h
theorem ft{P P':Addr->Prop}{H H':Hp}(s:∀c o,¬ P c->H c=some o->¬ P' c/\H' c=some o):aS (cutH P H) (cutH P' H'):=λc o e=>by
 obtain⟨h1,h2⟩:=ba.mp e;exact ba.mpr (s c o h1 h2)
theorem aE.sub{K:aH}{P P':Addr->Prop}{H:Hp}{v:V}{d:PyData}(h:aE K P H v d)(s:∀c,P' c->P c):aE K P' H v d:=aX.same (ft λc o n e=>⟨λz=>n (s c z),e⟩) h
theorem aE.same{K:aH}{P:Addr->Prop}{H H':Hp}{v:V}{d:PyData}(h:aE K P H v d)(s:aS H H'):aE K P H' v d:=aX.same (ft λc o n e=>⟨n,s c o e⟩) h
inductive DV where
 | dat (d:PyData) | ref (k:Nat)
def kJ(o:HO):Prop:=(∃xs,o=.lst xs)∨(∃C dx fs,o=.ins C dx fs)∨∃φ,o=.ext φ
structure Ob where
 lies:aH->(Addr->Prop)->Hp->List Addr->Prop
 keep:∀K P H fp P' H',lies K P H fp->(∀c,P c->∃o,H c=some o/\kJ o)->(∀a∈fp,∀o,H a=some o->H' a=some o)->aS (cutH P H) (cutH P' H')->lies K P' H' fp
 mu:∀K P H fp,lies K P H fp->∀a∈fp,∃o,H a=some o/\kJ o
inductive Ce where
 | live (ds:List PyData) | froz (ds:List PyData) | deep (xs:List DV) | obj (o:Ob)
@[reducible] def Ce.lv:Ce->Bool
 | .froz _=>false
 | _=>true
abbrev bt:=List (Option DV)
abbrev aF:=List Ce
def Lv(al:List (List Addr))(st:aF):Addr->Prop:=λc=>∃(k:Nat) (fp:List Addr) (ce:Ce),al[k]?=some fp/\c∈fp/\st[k]?=some ce/\ce.lv=true
def Fb(G:Addr->Prop)(al:List (List Addr))(st:aF):Addr->Prop:=λc=>G c∨Lv al st c
def fS(K:aH)(P:Addr->Prop)(H:Hp)(al:List (List Addr))(v:V):DV->Prop
 | .dat d=>aE K P H v d
 | .ref k=>∃a r,al[k]?=some (a::r)/\v=.ref a
def bR{α:Type}(R:V->α->Prop)(ys:List V)(xs:List α):Prop:=ys.length=xs.length/\∀(i:Nat) y x,ys[i]?=some y->xs[i]?=some x->R y x
def K6(K:aH)(P:Addr->Prop)(H:Hp)(al:List (List Addr))(fp:List Addr):Ce->Prop
 | .live xs=>∃a ys,fp=[a]/\H a=some (.lst ys)/\bR (aE K P H) ys xs
 | .froz ds=>∃a,fp=[a]/\aE K P H (.ref a) (.list ds)
 | .deep xs=>∃a ys,fp=[a]/\H a=some (.lst ys)/\bR (fS K P H al) ys xs
 | .obj o=>fp≠[]/\o.lies K P H fp
structure YK where
 Y:Hp->(Addr->Prop)->(Addr->Prop)->Prop
 up:∀H0 A0 G G',(∀c,G c->G' c)->Y H0 A0 G->Y H0 A0 G'
def y0:YK:=⟨λ_ _ _=>True,λ_ _ _ _ _ h=>h⟩
structure KF where
 K:aH
 y:YK
instance:CoeOut KF aH:=⟨KF.K⟩
@[reducible] def k0(K:aH):KF:=⟨K,y0⟩
@[reducible] def kf(X:Cx)(Y:YK):KF:=⟨X.K,Y⟩
structure DI(J:KF)(H0:Hp)(A0:Addr->Prop)(G:Addr->Prop)(al:List (List Addr))(H:Hp)(st:aF):Prop where
 len:al.length=st.length
 nd:al.flatten.Nodup
 ok:∀a∈al.flatten,∃o,H a=some o
 cel:∀(k:Nat) fp c,al[k]?=some fp->st[k]?=some c->K6 J (Fb G al st) H al fp c
 fr:jb A0 H0 H
 nw:∀a∈al.flatten,A0 a∨H0 a=none
 gd:∀a∈al.flatten,¬ G a
 gs:∀c,G c->∃o,H c=some o/\kJ o
 lk:J.y.Y H0 A0 G
def jz(K:aH)(P:Addr->Prop)(H:Hp)(al:List (List Addr))(s:St)(env:bt):Prop:=s.length=env.length/\∀(i:Nat) dv,env[i]?=some (some dv)->∃v,s[i]?=some (some v)/\fS K P H al v dv
structure Ext(al:List (List Addr))(H:Hp)(st:aF)(al':List (List Addr))(H':Hp)(st':aF):Prop where
 keep:jb (Lv al st) H H'
 pre:∀(k:Nat) a r,al[k]?=some (a::r)->∃r',al'[k]?=some (a::r')
 nws:∀c∈al'.flatten,c∈al.flatten∨H c=none
 lv:∀c,Lv al' st' c->Lv al st c∨H c=none
theorem Ext.refl{al:List (List Addr)}{H:Hp}{st:aF}:Ext al H st al H st:=⟨.refl,λ_ _ r h=>⟨r,h⟩,λ_ h=>.inl h,λ_ h=>.inl h⟩
theorem Ext.free{al al':List (List Addr)}{H H':Hp}{st st':aF}(e:Ext al H st al' H' st'){c:Addr}(h:H' c=none)(hl:¬ Lv al st c):H c=none:=by
 cases q:H c with
 | none=>rfl
 | some o=>rw[e.keep c o hl q]at h;cases h
theorem fT{al:List (List Addr)}{k:Nat}{fp:List Addr}{a:Addr}(h:al[k]?=some fp)(ha:a∈fp):a∈al.flatten:=ab9.mpr ⟨fp,aan h,ha⟩
theorem Lv.mem{al:List (List Addr)}{st:aF}{c:Addr}(h:Lv al st c):c∈al.flatten:=by
 obtain⟨k,fp,ce,h1,h2,_⟩:=h;exact fT h1 h2
theorem kR:∀{al:List (List Addr)},al.flatten.Nodup->∀{i j:Nat} {f g:List Addr} {a:Addr},al[i]?=some f->al[j]?=some g->a∈f->a∈g->i=j
 | [],_,i,j,f,g,a,h1,_,_,_=>by simp at h1
 | x::r,nd,i,j,f,g,a,h1,h2,m1,m2=>by
  rw[aa4,List.nodup_append]at nd
  cases i with
  | zero =>
   cases j with
   | zero=>rfl
   | succ j =>
    simp at h1 h2;subst h1;exact absurd rfl (nd.2.2 a m1 a (fT h2 m2))
  | succ i =>
   cases j with
   | zero =>
    simp at h1 h2;subst h2;exact absurd rfl (nd.2.2 a m2 a (fT h1 m1))
   | succ j =>
    simp at h1 h2;exact congrArg (· + 1) (kR nd.2.1 h1 h2 m1 m2)
section
variable {K:aH} {J:KF} {H0:Hp} {A0:Addr->Prop} {G:Addr->Prop} {al bc bW:List (List Addr)} {H H1 H2:Hp} {st aC bp:aF}
theorem Ext.trans(I1:DI J H0 A0 G bc H1 aC)(a:Ext al H st bc H1 aC)(b:Ext bc H1 aC bW H2 bp):Ext al H st bW H2 bp:=by
 refine⟨λc o n e=>b.keep c o (λz=>?_) (a.keep c o n e),λk x r h=>?_,λc hc=>?_,λc hc=>?_⟩
 ·rcases a.lv c z with y | y
  ·exact n y
  ·rw[y]at e;cases e
 ·obtain⟨r1,h1⟩:=a.pre k x r h;exact b.pre k x r1 h1
 ·rcases b.nws c hc with z | z
  ·exact a.nws c z
  ·by_cases w:Lv al st c
   ·exact .inl w.mem
   ·exact .inr (a.free z w)
 ·rcases b.lv c hc with z | z
  ·exact a.lv c z
  ·by_cases w:Lv al st c
   ·exact .inl w
   ·exact .inr (a.free z w)
theorem dn{G1:Addr->Prop}(g:∀c,G1 c->G c∨H c=none)(e:Ext al H st bc H1 aC):aS (cutH (Fb G al st) H) (cutH (Fb G1 bc aC) H1):=ft λc o n q=>by
 refine⟨λz=>?_,e.keep c o (λw=>n (.inr w)) q⟩;rcases z with z | z
 ·rcases g c z with w | w
  ·exact n (.inl w)
  ·rw[w]at q;cases q
 ·rcases e.lv c z with w | w
  ·exact n (.inr w)
  ·rw[w]at q;cases q
theorem aE.jc{G1:Addr->Prop}{v:V}{d:PyData}(h:aE K (Fb G al st) H v d)(g:∀c,G1 c->G c∨H c=none)(e:Ext al H st bc H1 aC):aE K (Fb G1 bc aC) H1 v d:=aX.same (dn g e) h
theorem aE.ext{v:V}{d:PyData}(h:aE K (Fb G al st) H v d)(e:Ext al H st bc H1 aC):aE K (Fb G bc aC) H1 v d:=h.jc (λ_ z=>.inl z) e
theorem fS.d{P:Addr->Prop}{v:V}{d:PyData}(h:aE K P H v d):fS K P H al v (.dat d):=h
theorem fS.jc{G1:Addr->Prop}{v:V}{dv:DV}(h:fS K (Fb G al st) H al v dv)(g:∀c,G1 c->G c∨H c=none)(e:Ext al H st bc H1 aC):fS K (Fb G1 bc aC) H1 bc v dv:=by
 cases dv with
 | dat d=>exact aE.jc h g e
 | ref k =>
  obtain⟨a,r,h1,h2⟩:=h;obtain⟨r',h3⟩:=e.pre k a r h1;exact⟨a,r',h3,h2⟩
theorem fS.ext{v:V}{dv:DV}(h:fS K (Fb G al st) H al v dv)(e:Ext al H st bc H1 aC):fS K (Fb G bc aC) H1 bc v dv:=h.jc (λ_ z=>.inl z) e
theorem bR.imp{α:Type}{R R':V->α->Prop}{ys:List V}{xs:List α}(h:bR R ys xs)(f:∀y x,R y x->R' y x):bR R' ys xs:=⟨h.1,λi y x a b=>f y x (h.2 i y x a b)⟩
theorem bR.nil{α:Type}{R:V->α->Prop}:bR R [] []:=⟨rfl,λi y x h=>by simp at h⟩
theorem bR.cons{α:Type}{R:V->α->Prop}{y:V}{x:α}{ys:List V}{xs:List α}(h:R y x)(r:bR R ys xs):bR R (y::ys) (x::xs):=⟨by simp[r.1],λi a b h1 h2=>by
 cases i with
 | zero=>simp at h1 h2;subst h1;subst h2;exact h
 | succ i=>exact r.2 i a b (by simpa using h1) (by simpa using h2)⟩
theorem bR.append{α:Type}{R:V->α->Prop}{ys zs:List V}{xs us:List α}(h:bR R ys xs)(h':bR R zs us):bR R (ys++zs) (xs++us):=by
 refine⟨by simp[h.1,h'.1],λj z u hz hu=>?_⟩;by_cases hj:j < ys.length
 ·rw[aae hj]at hz;rw[aae (by rw[← h.1];exact hj)]at hu;exact h.2 j z u hz hu
 ·rw[aam (by omega)]at hz;rw[aam (by rw[← h.1];omega),← h.1]at hu;exact h'.2 _ z u hz hu
theorem bR.take{α:Type}{R:V->α->Prop}{ys:List V}{xs:List α}(h:bR R ys xs)(n:Nat):bR R (ys.take n) (xs.take n):=by
 refine⟨by rw[abR,abR,h.1],λj y k hy hk=>?_⟩;have hj:j < (ys.take n).length:=(bz hy).1;rw[abR]at hj;rw[acF (by omega)]at hy hk;exact h.2 _ y k hy hk
theorem bR.drop{α:Type}{R:V->α->Prop}{ys:List V}{xs:List α}(h:bR R ys xs)(n:Nat):bR R (ys.drop n) (xs.drop n):=by
 refine⟨by rw[abS,abS,h.1],λj y k hy hk=>?_⟩;rw[aby]at hy hk;exact h.2 _ y k hy hk
theorem bR.set{α:Type}{R:V->α->Prop}{ys:List V}{xs:List α}{y:V}{x:α}(h:bR R ys xs)(hy:R y x)(i:Nat):bR R (ys.set i y) (xs.set i x):=by
 refine⟨by rw[aaH,aaH,h.1],λj z u hz hu=>?_⟩;rw[abI]at hz hu;by_cases hj:i=j
 ·subst hj;rw[aaD rfl]at hz hu;split at hz
  ·split at hu
   ·cases hz;cases hu;exact hy
   ·cases hu
  ·cases hz
 ·rw[aaF hj]at hz hu;exact h.2 j z u hz hu
theorem bR.at{α:Type}{R:V->α->Prop}{ys:List V}{xs:List α}(h:bR R ys xs){i:Nat}{x:α}(hx:xs[i]?=some x):∃y,ys[i]?=some y/\R y x:=by
 have hi:i < ys.length:=by rw[h.1];exact(bz hx).1
 exact⟨ys[i],cW hi,h.2 i _ x (cW hi) hx⟩
theorem bR.Tt{α β:Type}{R:V->β->Prop}{f:α->β}{ys:List V}{xs:List α}(h:bR R ys (xs.map f)):bR (λy x=>R y (f x)) ys xs:=by
 refine⟨by rw[h.1,aaa],λi y x hy hx=>?_⟩;exact h.2 i y (f x) hy (by rw[aaR,hx];rfl)
theorem jz.jc{G1:Addr->Prop}{s:St}{env:bt}(h:jz K (Fb G al st) H al s env)(g:∀c,G1 c->G c∨H c=none)(e:Ext al H st bc H1 aC):jz K (Fb G1 bc aC) H1 bc s env:=⟨h.1,λi dv hi=>by
 obtain⟨v,h1,h2⟩:=h.2 i dv hi;exact⟨v,h1,h2.jc g e⟩⟩
theorem jz.ext{s:St}{env:bt}(h:jz K (Fb G al st) H al s env)(e:Ext al H st bc H1 aC):jz K (Fb G bc aC) H1 bc s env:=h.jc (λ_ z=>.inl z) e
theorem jz.set{P:Addr->Prop}{s:St}{env:bt}{v:V}{dv:DV}(h:jz K P H al s env)(hv:fS K P H al v dv)(i:Nat):jz K P H al (s.set i (some v)) (env.set i (some dv)):=by
 refine⟨by rw[aaH,aaH];exact h.1,λj u hu=>?_⟩;rw[abI]at hu;by_cases hj:i=j
 ·subst hj;rw[aaD rfl]at hu;split at hu
  ·rename_i hl;cases hu;exact⟨v,by rw[aar (by rw[h.1];exact hl)],hv⟩
  ·cases hu
 ·rw[aaF hj]at hu;obtain⟨w,h1,h2⟩:=h.2 j u hu;exact⟨w,by rw[aaq hj];exact h1,h2⟩
theorem aE.cN{P:Addr->Prop}{v:V}{ds:List PyData}(h:aE K P H v (.list ds)):∃(a:Addr) (ys:List V),v=.ref a/\dC K H a ys/\dC K (cutH P H) a ys/\bR (aE K P H) ys ds:=by
 have h:aX K (cutH P H) v (.list ds):=h
 cases h with
 | lst hS hl hi=>exact⟨_,_,rfl,cn.seq hS,hS,hl,hi⟩
theorem aE.bL{P:Addr->Prop}{v:V}{ds:List PyData}(h:aE K P H v (.tuple ds)):∃(a:Addr) (ys:List V),v=.ref a/\dG K H a ys/\dG K (cutH P H) a ys/\bR (aE K P H) ys ds:=by
 have h:aX K (cutH P H) v (.tuple ds):=h
 cases h with
 | tup hS hl hi=>exact⟨_,_,rfl,cn.tup hS,hS,hl,hi⟩
theorem aE.aW{P:Addr->Prop}{v:V}{i:Int}(h:aE K P H v (.int i)):v=.int i:=by
 have h:aX K (cutH P H) v (.int i):=h;cases h;rfl
theorem aE.cz{P:Addr->Prop}{v:V}{i:Str}(h:aE K P H v (.str i)):v=.str i:=by
 have h:aX K (cutH P H) v (.str i):=h;cases h;rfl
theorem aE.gU{P:Addr->Prop}{v:V}{i:Bool}(h:aE K P H v (.bool i)):v=.bl i:=by
 have h:aX K (cutH P H) v (.bool i):=h;cases h;rfl
theorem aE.fU{P:Addr->Prop}{v:V}(h:aE K P H v .none):v=.non:=by
 have h:aX K (cutH P H) v .none:=h;cases h;rfl
theorem aE.lst{P:Addr->Prop}{a:Addr}{ys:List V}{ds:List PyData}(n:¬ P a)(h:H a=some (.lst ys))(r:bR (aE K P H) ys ds):aE K P H (.ref a) (.list ds):=aX.lst (dC.of (ba.mpr ⟨n,h⟩)) r.1 r.2
theorem aE.tup{P:Addr->Prop}{a:Addr}{ys:List V}{ds:List PyData}(n:¬ P a)(h:H a=some (.tup ys))(r:bR (aE K P H) ys ds):aE K P H (.ref a) (.tuple ds):=aX.tup (dG.of (ba.mpr ⟨n,h⟩)) r.1 r.2
theorem Ext.same(s:aS H H1):Ext al H st al H1 st:=⟨.of s,λ_ _ r h=>⟨r,h⟩,λ_ z=>.inl z,λ_ z=>.inl z⟩
theorem Ext.new{a:Addr}{o:HO}(h:H a=none):Ext al H st al (upd H a o) st:=.same λc p e=>by rw[uN (nN e h)];exact e
theorem K6.jc{G1:Addr->Prop}{fp:List Addr}{c:Ce}(h:K6 K (Fb G al st) H al fp c)(g:∀c,G1 c->G c∨H c=none)(e:Ext al H st bc H1 aC)(hP:∀c,Fb G al st c->∃o,H c=some o/\kJ o)(k:c.lv=true->∀a∈fp,∀o,H a=some o->H1 a=some o):K6 K (Fb G1 bc aC) H1 bc fp c:=by
 cases c with
 | live xs =>
  obtain⟨a,ys,h0,h1,h2⟩:=h;exact⟨a,ys,h0,k rfl a (by rw[h0];exact abc.mpr rfl) _ h1,h2.imp λy x z=>aE.jc z g e⟩
 | froz ds =>
  obtain⟨a,h0,h1⟩:=h;exact⟨a,h0,aE.jc h1 g e⟩
 | deep xs =>
  obtain⟨a,ys,h0,h1,h2⟩:=h;exact⟨a,ys,h0,k rfl a (by rw[h0];exact abc.mpr rfl) _ h1,h2.imp λy x z=>fS.jc z g e⟩
 | obj o=>exact⟨h.1,o.keep _ _ _ _ _ _ h.2 hP (k rfl) (dn g e)⟩
theorem K6.ext{fp:List Addr}{c:Ce}(h:K6 K (Fb G al st) H al fp c)(e:Ext al H st bc H1 aC)(hP:∀c,Fb G al st c->∃o,H c=some o/\kJ o)(k:c.lv=true->∀a∈fp,∀o,H a=some o->H1 a=some o):K6 K (Fb G bc aC) H1 bc fp c:=h.jc (λ_ z=>.inl z) e hP k
theorem DI.qB(I:DI J H0 A0 G al H st){c:Addr}(h:Fb G al st c):∃o,H c=some o/\kJ o:=by
 rcases h with h | ⟨k,fp,ce,h1,h2,h3,h4⟩
 ·exact I.gs c h
 ·have z:=I.cel k fp ce h1 h3
  cases ce with
  | live xs=>obtain⟨a,ys,rfl,g,_⟩:=z;rw[ik h2];exact⟨_,g,.inl ⟨_,rfl⟩⟩
  | froz ds=>cases h4
  | deep xs=>obtain⟨a,ys,rfl,g,_⟩:=z;rw[ik h2];exact⟨_,g,.inl ⟨_,rfl⟩⟩
  | obj o=>exact o.mu _ _ _ _ z.2 c h2
theorem DI.same(I:DI J H0 A0 G al H st)(s:aS H H1):DI J H0 A0 G al H1 st:=⟨I.len,I.nd,(λa ha=>by obtain⟨o,e⟩:=I.ok a ha;exact⟨o,s _ _ e⟩),(λk a c h1 h2=>(I.cel k a c h1 h2).ext (.same s) (λc hc=>I.qB hc) λ_ a _ o e=>s _ _ e),(λc o n e=>s c o (I.fr c o n e)),I.nw,I.gd,(λc hc=>by obtain⟨o,e,m⟩:=I.gs c hc;exact⟨o,s _ _ e,m⟩),I.lk⟩
theorem DI.new(I:DI J H0 A0 G al H st){a:Addr}{o:HO}(h:H a=none):DI J H0 A0 G al (upd H a o) st:=I.same λc p e=>by rw[uN (nN e h)];exact e
theorem DI.G4(I:DI J H0 A0 G al H st){a:Addr}(h:H a=none):¬ Fb G al st a:=by
 intro z;rcases z with z | z
 ·obtain⟨o,e,_⟩:=I.gs a z;rw[h]at e;cases e
 ·obtain⟨o,e⟩:=I.ok a z.mem;rw[h]at e;cases e
theorem DI.n0(I:DI J H0 A0 G al H st){a:Addr}(h:H a=none):A0 a∨H0 a=none:=by
 cases q:H0 a with
 | none=>exact .inr rfl
 | some o =>
  by_cases w:A0 a
  ·exact .inl w
  ·rw[I.fr a o w q]at h;cases h
theorem DI.freeze(I:DI J H0 A0 G al H st){k:Nat}{fp:List Addr}{ds:List PyData}(ha:al[k]?=some fp)(hs:st[k]?=some (.live ds)):∃a,fp=[a]/\Ext al H st al H (st.set k (.froz ds))/\DI J H0 A0 G al H (st.set k (.froz ds))/\aE J (Fb G al (st.set k (.froz ds))) H (.ref a) (.list ds):=by
 have hk:=(bz hs).1
 have E:Ext al H st al H (st.set k (.froz ds)):=⟨.refl,λ_ _ r h=>⟨r,h⟩,λ_ z=>.inl z,λc ⟨j,f,ce,h1,h2,h3,h4⟩=>by
  by_cases e:k=j
  ·subst e;rw[aar hk]at h3;cases h3;cases h4
  ·rw[aaq e]at h3;exact .inl ⟨j,f,ce,h1,h2,h3,h4⟩⟩
 obtain⟨a,ys,rfl,g1,g2⟩:=I.cel k fp _ ha hs
 have na:¬ Fb G al (st.set k (.froz ds)) a:=λz=>by
  rcases z with z | ⟨j,f,ce,h1,h2,h3,h4⟩
  ·exact I.gd a (fT ha (abc.mpr rfl)) z
  ·have:=kR I.nd ha h1 (abc.mpr rfl) h2;subst this;rw[aar hk]at h3;cases h3;cases h4
 have F:aE J (Fb G al (st.set k (.froz ds))) H (.ref a) (.list ds):=.lst na g1 (g2.imp λy x z=>aE.ext z E);refine⟨a,rfl,E,⟨by rw[aaH];exact I.len,I.nd,I.ok,λj b c h1 h2=>?_,I.fr,I.nw,I.gd,I.gs,I.lk⟩,F⟩;by_cases e:k=j
 ·subst e;rw[aar hk]at h2;rw[ha]at h1;cases h1;cases h2;exact⟨a,rfl,F⟩
 ·rw[aaq e]at h2;exact(I.cel j b c h1 h2).ext E (λc hc=>I.qB hc) λ_ _ _ o q=>q
theorem DI.more(I:DI J H0 A0 G al H st){fp:List Addr}{c:Ce}(fr:∀a∈fp,H a=none)(nd:fp.Nodup)(s:aS H H1)(ok:∀a∈fp,∃o,H1 a=some o)(hc:K6 J (Fb G (al++[fp]) (st++[c])) H1 (al++[fp]) fp c):Ext al H st (al++[fp]) H1 (st++[c])/\DI J H0 A0 G (al++[fp]) H1 (st++[c]):=by
 have nal:∀a∈fp,a∉al.flatten:=λa ha z=>by obtain⟨o,e⟩:=I.ok a z;rw[fr a ha]at e;cases e
 have mem:∀c∈(al++[fp]).flatten,c∈al.flatten∨c∈fp:=λc hc=>by
  rw[abZ,abC]at hc;exact aaN.mp hc
 have E:Ext al H st (al++[fp]) H1 (st++[c]):=⟨.of s,λk a r h=>⟨r,by rw[aae (bz h).1];exact h⟩,λc hc=>by
   rcases mem c hc with z | z
   ·exact .inl z
   ·exact .inr (fr c z),λc ⟨j,f,ce,h1,h2,h3,h4⟩=>by
  by_cases e:j < al.length
  ·rw[aae e]at h1;rw[aae (by rw[← I.len];exact e)]at h3;exact .inl ⟨j,f,ce,h1,h2,h3,h4⟩
  ·rw[aam (by omega)]at h1;have:=aan h1;rw[ik this]at h2;exact .inr (fr c h2)⟩
 refine⟨E,⟨by simp[I.len],?_,λc hc=>?_,λj b c' h1 h2=>?_,λc o n e=>s c o (I.fr c o n e),λc hc=>?_,λc hc=>?_,λc hc=>?_,I.lk⟩⟩
 ·rw[abZ,abC,List.nodup_append];exact⟨I.nd,nd,λx hx y hy z=>nal y hy (z ▸ hx)⟩
 ·rcases mem c hc with z | z
  ·obtain⟨o,e⟩:=I.ok c z;exact⟨o,s _ _ e⟩
  ·exact ok c z
 ·by_cases e:j < al.length
  ·rw[aae e]at h1;rw[aae (by rw[← I.len];exact e)]at h2;exact(I.cel j b c' h1 h2).ext E (λc hc=>I.qB hc) λ_ _ _ o q=>s _ _ q
  ·have hj:j=al.length:=by have:=(bz h1).1;simp at this;omega
   subst hj;rw[aam (aaj _),aa3]at h1;rw[I.len,aam (aaj _),aa3]at h2;cases h1;cases h2;exact hc
 ·rcases mem c hc with z | z
  ·exact I.nw c z
  ·exact I.n0 (fr c z)
 ·rcases mem c hc with z | z
  ·exact I.gd c z
  ·exact λw=>I.G4 (fr c z) (.inl w)
 ·obtain⟨o,e,m⟩:=I.gs c hc;exact⟨o,s _ _ e,m⟩
theorem DI.cell(I:DI J H0 A0 G al H st){a:Addr}{ys:List V}{xs:List PyData}(h:H a=none)(hy:bR (aE J (Fb G al st) H) ys xs):Ext al H st (al++[[a]]) (upd H a (.lst ys)) (st++[.live xs])/\DI J H0 A0 G (al++[[a]]) (upd H a (.lst ys)) (st++[.live xs]):=by
 have s:aS H (upd H a (.lst ys)):=λc p e=>by rw[uN (nN e h)];exact e
 refine I.more (λc hc=>by rw[ik hc];exact h) (by simp) s (λc hc=>by rw[ik hc];exact⟨_,uS⟩) ⟨a,ys,rfl,uS,hy.imp λy x z=>aX.same (ft λc o n q=>⟨λw=>?_,s _ _ q⟩) z⟩;rcases w with w | ⟨j,f,ce,h1,h2,h3,h4⟩
 ·exact n (.inl w)
 ·by_cases e:j < al.length
  ·rw[aae e]at h1;rw[aae (by rw[← I.len];exact e)]at h3;exact n (.inr ⟨j,f,ce,h1,h2,h3,h4⟩)
  ·rw[aam (by omega)]at h1;have:=aan h1;rw[ik this]at h2;rw[ik h2,h]at q;cases q
theorem DI.turn(I:DI J H0 A0 G al H st){k:Nat}{a:Addr}{r r':List Addr}{c c':Ce}(ha:al[k]?=some (a::r))(hs:st[k]?=some c)(hl:c.lv=true)(kp:∀b o,b∉a::r->H b=some o->H1 b=some o)(nw:∀b∈r',b∈a::r∨H b=none)(ok:∀b∈a::r',∃o,H1 b=some o)(nd:(a::r').Nodup)(na:∀b∈r',b∉a::r->H b=none)
  (hc:aS (cutH (Fb G al st) H) (cutH (Fb G (al.set k (a::r')) (st.set k c')) H1)->K6 J (Fb G (al.set k (a::r')) (st.set k c')) H1 (al.set k (a::r')) (a::r') c') (mu:∀b∈a::r,∃o,H b=some o/\kJ o):Ext al H st (al.set k (a::r')) H1 (st.set k c')/\DI J H0 A0 G (al.set k (a::r')) H1 (st.set k c'):=by
 have hk:=(bz hs).1;have hka:=(bz ha).1;have lvk:∀b∈a::r,Lv al st b:=λb hb=>⟨k,_,c,ha,hb,hs,hl⟩
 have mem:∀b∈(al.set k (a::r')).flatten,b∈al.flatten∨H b=none:=λb hb=>by
  obtain⟨f,hf,hbf⟩:=ab9.mp hb;rcases abf hf with z | z
  ·exact .inl (ab9.mpr ⟨f,z,hbf⟩)
  ·rw[z]at hbf;rcases aay.mp hbf with y | y
   ·rw[y];exact .inl (fT ha aaC)
   ·rcases nw b y with w | w
    ·exact .inl (fT ha w)
    ·exact .inr w
 have E:Ext al H st (al.set k (a::r')) H1 (st.set k c'):=⟨λb o n e=>kp b o (λz=>n (lvk b z)) e,λj b q h=>by
   by_cases e:k=j
   ·subst e;rw[ha]at h;cases h;exact⟨r',by rw[aar hka]⟩
   ·exact⟨q,by rw[aaq e];exact h⟩,mem,λb ⟨j,f,ce,h1,h2,h3,h4⟩=>by
   by_cases e:k=j
   ·subst e;rw[aar hka]at h1;cases h1;rcases aay.mp h2 with y | y
    ·rw[y];exact .inl (lvk a aaC)
    ·rcases nw b y with w | w
     ·exact .inl (lvk b w)
     ·exact .inr w
   ·rw[aaq e]at h1 h3;exact .inl ⟨j,f,ce,h1,h2,h3,h4⟩⟩
 have keepOther:∀(j:Nat) f,k≠j->al[j]?=some f->∀b∈f,∀o,H b=some o->H1 b=some o:=λj f e hf b hb o q=>kp b o (λz=>e (kR I.nd ha hf z hb)) q
 have parted:∀b∈(al.set k (a::r')).flatten,b∈a::r'∨∃(j:Nat) (f:List Addr),k≠j/\al[j]?=some f/\b∈f:=λb hb=>by
  obtain⟨f,hf,hbf⟩:=ab9.mp hb;obtain⟨j,hj⟩:=aa9 hf;by_cases e:k=j
  ·subst e;rw[aar hka]at hj;cases hj;exact .inl hbf
  ·rw[aaq e]at hj;exact .inr ⟨j,f,e,hj,hbf⟩
 refine⟨E,⟨by rw[aaH,aaH];exact I.len,?_,λb hb=>?_,λj f ce h1 h2=>?_,λb o n e=>?_,λb hb=>?_,λb hb=>?_,λb hb=>?_,I.lk⟩⟩
 ·unfold List.Nodup;rw[List.pairwise_flatten,List.pairwise_iff_getElem];have V9:=I.nd;refine⟨λf hf=>?_,λi j hi hj hij x hx y hy=>?_⟩
  ·rcases abf hf with z | z
   ·exact(List.pairwise_flatten.mp V9).1 f z
   ·rw[z];exact nd
  ·intro e;subst e;have gi:=cW hi;have gj:=cW hj
   have far:∀(j:Nat) f,k≠j->al[j]?=some f->x∈f->x∈a::r'->False:=λj f e hf hxf hx'=>by
    by_cases w:x∈a::r
    ·exact e (kR V9 ha hf w hxf)
    ·rcases aay.mp hx' with z | z
     ·exact w (by rw[z];exact aaC)
     ·obtain⟨o,q⟩:=I.ok x (fT hf hxf);rw[na x z w]at q;cases q
   by_cases e1:k=i
   ·subst e1;have e2:k≠j:=by omega
    rw[aar hka]at gi;rw[aaq e2]at gj;exact far j _ e2 gj hy (by rw[aaJ gi];exact hx)
   ·rw[aaq e1]at gi;by_cases e2:k=j
    ·subst e2;rw[aar hka]at gj;exact far i _ e1 gi hx (by rw[aaJ gj];exact hy)
    ·rw[aaq e2]at gj;exact absurd (kR V9 gi gj hx hy) (by omega)
 ·rcases parted b hb with z | ⟨j,f,e,hf,hbf⟩
  ·exact ok b z
  ·obtain⟨o,q⟩:=I.ok b (fT hf hbf);exact⟨o,keepOther j f e hf b hbf o q⟩
 ·by_cases e:k=j
  ·subst e;rw[aar hka]at h1;rw[aar hk]at h2;cases h1;cases h2;exact hc (dn (λ_ z=>.inl z) E)
  ·rw[aaq e]at h1 h2;exact(I.cel j f ce h1 h2).ext E (λc hc=>I.qB hc) λ_ b hb o q=>keepOther j f e h1 b hb o q
 ·by_cases w:b∈a::r
  ·rcases I.nw b (fT ha w)with y | y
   ·exact absurd y n
   ·rw[y]at e;cases e
  ·exact kp b o w (I.fr b o n e)
 ·rcases mem b hb with z | z
  ·exact I.nw b z
  ·exact I.n0 z
 ·intro z;rcases mem b hb with w | w
  ·exact I.gd b w z
  ·exact I.G4 w (.inl z)
 ·obtain⟨o,q,m⟩:=I.gs b hb;refine⟨o,kp b o (λz=>I.gd b (fT ha z) hb) q,m⟩
theorem DI.put(I:DI J H0 A0 G al H st){k:Nat}{a:Addr}{zs xs:List PyData}{ys:List V}(ha:al[k]?=some [a])(hs:st[k]?=some (.live zs))(hy:bR (aE J (Fb G al st) H) ys xs):Ext al H st al (upd H a (.lst ys)) (st.set k (.live xs))/\DI J H0 A0 G al (upd H a (.lst ys)) (st.set k (.live xs)):=by
 have ea:al.set k [a]=al:=by
  apply abJ;intro j;by_cases e:k=j
  ·subst e;rw[aar (bz ha).1,ha]
  ·rw[aaq e]
 obtain⟨b,ws,e0,g1,g2⟩:=I.cel k [a] _ ha hs;cases e0;have z:=I.turn (H1:=upd H a (.lst ys)) (r:=[]) (r':=[]) (c':=.live xs) ha hs rfl (λb o n e=>by rw[uN (λz=>n (by rw[z];exact List.mem_cons_self))];exact e) (λb hb=>nomatch hb) (λb hb=>by rw[ik hb];exact⟨_,uS⟩) (by simp) (λb hb=>nomatch hb) (λs=>⟨a,ys,rfl,uS,hy.imp λy x z=>aX.same s z⟩) (λb hb=>by rw[ik hb];exact⟨_,g1,.inl ⟨_,rfl⟩⟩);rw[ea]at z;exact z
theorem zP{k:Nat}{fp:List Addr}(ha:al[k]?=some fp):al.set k fp=al:=by
 apply abJ;intro j;by_cases e:k=j
 ·subst e;rw[aar (bz ha).1,ha]
 ·rw[aaq e]
theorem DI.putD(I:DI J H0 A0 G al H st){k:Nat}{a:Addr}{zs xs:List DV}{ys:List V}(ha:al[k]?=some [a])(hs:st[k]?=some (.deep zs))(hy:bR (fS J (Fb G al st) H al) ys xs):Ext al H st al (upd H a (.lst ys)) (st.set k (.deep xs))/\DI J H0 A0 G al (upd H a (.lst ys)) (st.set k (.deep xs)):=by
 obtain⟨b,ws,e0,g1,g2⟩:=I.cel k [a] _ ha hs;cases e0
 have z:=I.turn (H1:=upd H a (.lst ys)) (r:=[]) (r':=[]) (c':=.deep xs) ha hs rfl (λb o n e=>by rw[uN (λz=>n (by rw[z];exact List.mem_cons_self))];exact e) (λb hb=>nomatch hb) (λb hb=>by rw[ik hb];exact⟨_,uS⟩) (by simp) (λb hb=>nomatch hb) (λs=>⟨a,ys,rfl,uS,hy.imp λy x z=>by
    cases x with
    | dat d=>exact aX.same s z
    | ref j=>rw[zP ha];exact z⟩) (λb hb=>by rw[ik hb];exact⟨_,g1,.inl ⟨_,rfl⟩⟩)
 rw[zP ha]at z;exact z
theorem DI.K7(I:DI J H0 A0 G al H st){p:Addr}{xs:List V}(h:dG J H p xs):dG J (cutH (Fb G al st) H) p xs:=by
 have n:∀o,H p=some o->¬ kJ o->¬ Fb G al st p:=λo e m z=>by
  obtain⟨o',e',m'⟩:=I.qB z;rw[e]at e';cases e';exact m m'
 rcases h with(h | ⟨o,h⟩) | h
 ·exact .inl (.inl (ba.mpr ⟨n _ h (λm=>by rcases m with⟨ys,m⟩ | ⟨C,dx,fs,m⟩ | ⟨φ,m⟩<;>cases m),h⟩))
 ·exact .inl (.inr ⟨o,ba.mpr ⟨n _ h (λm=>by rcases m with⟨ys,m⟩ | ⟨C,dx,fs,m⟩ | ⟨φ,m⟩<;>cases m),h⟩⟩)
 ·exact .inr h
end
abbrev DC:=DV->aF->Prop
abbrev DX:=bt->aF->DC->Prop
abbrev n9:=bt->aF->(List DV->aF->Prop)->Prop
abbrev DT:=bt->aF->(Bool->aF->Prop)->Prop
abbrev JP:=DV->DV->aF->DC->Prop
abbrev Vf:=List DV->aF->DC->Prop
def Kn(J:KF)(H0:Hp)(A0:Addr->Prop)(G:Addr->Prop)(al:List (List Addr))(H:Hp)(st:aF)(Q:DC)(R:VK):Prop:=∀dv st' al' v H',Ext al H st al' H' st'->DI J H0 A0 G al' H' st'->fS J (Fb G al' st') H' al' v dv->Q dv st'->R v H'
def Tu(J:KF)(H0:Hp)(A0:Addr->Prop)(G:Addr->Prop)(al:List (List Addr))(H:Hp)(st:aF)(Q:Bool->aF->Prop)(R:Bool->Hp->Prop):Prop:=∀b st' al' H',Ext al H st al' H' st'->DI J H0 A0 G al' H' st'->Q b st'->R b H'
def Yy(J:KF)(H0:Hp)(A0:Addr->Prop)(G:Addr->Prop)(al:List (List Addr))(H:Hp)(st:aF)(Q:List DV->aF->Prop)(R:List V->Hp->Prop):Prop:=∀dvs st' al' vs H',Ext al H st al' H' st'->DI J H0 A0 G al' H' st'->bR (fS J (Fb G al' st') H' al') vs dvs->Q dvs st'->R vs H'
def AE(J:KF)(t:TE)(e:DX):Prop:=∀(H0:Hp) (A0:Addr->Prop) (G:Addr->Prop) (al:List (List Addr)) (H:Hp) (st:aF) (s:St) (env:bt) (Q:DC) (R:VK),DI J H0 A0 G al H st->jz J (Fb G al st) H al s env->e env st Q->Kn J H0 A0 G al H st Q R->t s H R
def AT(J:KF)(t:TT)(e:DT):Prop:=∀(H0:Hp) (A0:Addr->Prop) (G:Addr->Prop) (al:List (List Addr)) (H:Hp) (st:aF) (s:St) (env:bt) (Q:Bool->aF->Prop) (R:Bool->Hp->Prop),DI J H0 A0 G al H st->jz J (Fb G al st) H al s env->e env st Q->Tu J H0 A0 G al H st Q R->t s H R
def AA(J:KF)(t:TA)(n:Nat)(e:n9):Prop:=∀(H0:Hp) (A0:Addr->Prop) (G:Addr->Prop) (al:List (List Addr)) (H:Hp) (st:aF) (s:St) (env:bt) (Q:List DV->aF->Prop) (R:List V->Hp->Prop),DI J H0 A0 G al H st->jz J (Fb G al st) H al s env->e env st Q->Yy J H0 A0 G al H st (λl s=>l.length=n/\Q l s) R->t s H R
def AO(J:KF)(r:R2)(o:JP):Prop:=∀(H0:Hp) (A0:Addr->Prop) (G:Addr->Prop) (al:List (List Addr)) (H:Hp) (st:aF) (x y:V) (dx dy:DV) (Q:DC) (R:VK),DI J H0 A0 G al H st->fS J (Fb G al st) H al x dx->fS J (Fb G al st) H al y dy->o dx dy st Q->Kn J H0 A0 G al H st Q R->r x y H R
def AB(J:KF)(r:List V->Hp->VK->Prop)(o:Vf):Prop:=∀(H0:Hp) (A0:Addr->Prop) (G:Addr->Prop) (al:List (List Addr)) (H:Hp) (st:aF) (vs:List V) (ds:List DV) (Q:DC) (R:VK),DI J H0 A0 G al H st->bR (fS J (Fb G al st) H al) vs ds->o ds st Q->Kn J H0 A0 G al H st Q R->r vs H R
structure aZ(X:Cx)(Y:YK)(e:Expr)(d:DX):Prop where
 h:∃t,PE X e t/\AE (kf X Y) t d
structure xj(X:Cx)(Y:YK)(e:Expr)(d:DT):Prop where
 h:∃t,PT X e t/\AT (kf X Y) t d
structure wa(X:Cx)(Y:YK)(e:Expr)(d:DT):Prop where
 h:∃t,PW X e t/\AT (kf X Y) t d
structure qh(X:Cx)(Y:YK)(es:List Expr)(n:Nat)(d:n9):Prop where
 h:∃t,PA X es t/\AA (kf X Y) t n d
section
variable {K:aH} {J:KF} {H0:Hp} {A0:Addr->Prop} {G:Addr->Prop} {al bc bW:List (List Addr)} {H H1 H2:Hp} {st aC bp:aF} {Q:DC} {R:VK}
theorem Kn.here(k:Kn J H0 A0 G al H st Q R)(I:DI J H0 A0 G al H st){v:V}{dv:DV}(h:fS J (Fb G al st) H al v dv)(q:Q dv st):R v H:=k dv st al v H .refl I h q
theorem Kn.laid(k:Kn J H0 A0 G al H st Q R)(I:DI J H0 A0 G al H st){v:V}{dv:DV}(s:aS H H1)(h:fS J (Fb G al st) H1 al v dv)(q:Q dv st):R v H1:=k dv st al v H1 (.same s) (I.same s) h q
theorem Kn.go(k:Kn J H0 A0 G al H st Q R)(I:DI J H0 A0 G bc H1 aC)(e:Ext al H st bc H1 aC):Kn J H0 A0 G bc H1 aC Q R:=λdv st' al' v H' e' I' h q=>k dv st' al' v H' (e.trans I e') I' h q
theorem Tu.go{Q:Bool->aF->Prop}{R:Bool->Hp->Prop}(k:Tu J H0 A0 G al H st Q R)(I:DI J H0 A0 G bc H1 aC)(e:Ext al H st bc H1 aC):Tu J H0 A0 G bc H1 aC Q R:=λdv st' al' H' e' I' q=>k dv st' al' H' (e.trans I e') I' q
theorem eL{a:Addr}{o:HO}(h:H a=none):aS H (upd H a o):=λc p e=>by rw[uN (nN e h)];exact e
end
@[reducible] def G5(i:Nat)(env:bt)(st:aF)(Q:DC):Prop:=match env[i]? with
 | some (some dv)=>Q dv st
 | _=>False
@[reducible] def eC(d:PyData)(_:bt)(st:aF)(Q:DC):Prop:=Q (.dat d) st
section
variable {X:Cx} {Y:YK} {a b c e:Expr} {es:List Expr} {pos:Pos} {ea eb ec:DX}
theorem Pu{J:KF}{i:Nat}:AE J (OD i) (G5 i):=λH0 A0 G al H st s env Q R I E h k=>by
 unfold G5 at h;split at h
 ·rename_i dv hd;obtain⟨v,h1,h2⟩:=E.2 i dv hd;exact⟨v,h1,k.here I h2 h⟩
 ·exact h.elim
theorem G6{J:KF}{v:V}{d:PyData}(h:∀H,aX J H v d):AE J (tC v) (eC d):=λH0 A0 G al H st s env Q R I E q k=>k.here I (.d (h _)) q
theorem ae(i:Nat){x:Str}(hN:X.N[i]?=some x:=by rfl)(hv:U6 X.env.scope x:=by first | exact aad rfl | exact abY (aad rfl) | exact abY (abY rfl))(hd:(x == ("__debug__" : Str))=false:=by decide)
  (hcd:(x == ("__classdict__" : Str))=false:=by decide):aZ X Y (.Name x pos) (G5 i):=⟨_,FI hN hv hd hcd,Pu⟩
theorem aq{i j}:aZ X Y (.Constant (.int i) j pos) (eC (.int i)):=⟨_,pI,G6 λ_=>.int i⟩
theorem fc{i j}:aZ X Y (.Constant (.bool i) j pos) (eC (.bool i)):=⟨_,Sk,G6 λ_=>.bl i⟩
theorem bS{j}:aZ X Y (.Constant .none j pos) (eC .none):=⟨_,rO,G6 λ_=>.non⟩
theorem aA{i j}:aZ X Y (.Constant (.str i) j pos) (eC (.str i)):=⟨_,oZ,G6 λ_=>.str i⟩
theorem dR{x:Str}{v:V}{u:Value}{d:PyData}(hg:Gl X x)(hm:X.mg x=some u)(r:RelV v u)(h:∀H,aX X.K H v d)(hd:(x == ("__debug__" : Str))=false:=by decide):aZ X Y (.Name x pos) (eC d):=⟨_,qq hg hm r hd,G6 h⟩
@[reducible] def rJ(o:JP)(ea eb:DX)(env:bt)(st:aF)(Q:DC):Prop:=ea env st λx aC=>eb env aC λy bp=>o x y bp Q
theorem C9{J:KF}{r:R2}{o:JP}{ta tb:TE}(ho:AO J r o)(ha:AE J ta ea)(hb:AE J tb eb):AE J (Sy r ta tb) (rJ o ea eb):=λH0 A0 G al H st s env Q R I E h k=>by
 refine ha H0 A0 G al H st s env _ _ I E h λx aC bc v H1 e1 I1 d1 q1=>?_
 refine hb H0 A0 G bc H1 aC s env _ _ I1 (E.ext e1) q1 λy bp bW u H2 e2 I2 d2 q2=>?_
 exact ho H0 A0 G bW H2 bp v u x y Q R I2 (d1.ext e2) d2 q2 (k.go I2 (e1.trans I1 e2))
theorem qC{op:Operator}{r:R2}{o:JP}(ho:gQ X (binaryOp op) r)(ao:AO (kf X Y) r o)(ha:aZ X Y a ea)(hb:aZ X Y b eb):aZ X Y (.BinOp a op b pos) (rJ o ea eb):=by
 obtain⟨ta,p1,a1⟩:=ha.h;obtain⟨tb,p2,a2⟩:=hb.h;exact⟨_,wQ ho p1 p2,C9 ao a1 a2⟩
theorem yk{op:CmpOp}{r:R2}{o:JP}(ho:gQ X (compareOp op) r)(ao:AO (kf X Y) r o)(ha:aZ X Y a ea)(hb:aZ X Y b eb)(hm:behindInMarks op b=false):aZ X Y (.Compare a [op] [b] pos) (rJ o ea eb):=by
 obtain⟨ta,p1,a1⟩:=ha.h;obtain⟨tb,p2,a2⟩:=hb.h;exact⟨_,Kk ho p1 p2 hm,C9 ao a1 a2⟩
theorem ph{f:Value->Value->Sem Value}{r r':R2}(h:gQ X f r)(h':gQ X f r'):gQ X f (λx y H Q=>r x y H Q∨r' x y H Q):=λpins s σ H x y v u Q I rx ry q=>by
 rcases q with q | q
 ·exact h pins s σ H x y v u Q I rx ry q
 ·exact h' pins s σ H x y v u Q I rx ry q
@[reducible] def oI(C:Int->Int->Prop)(g:Int->Int->PyData)(x y:DV)(st:aF)(Q:DC):Prop:=match x,y with
 | .dat (.int i),.dat (.int j)=>C i j/\Q (.dat (g i j)) st
 | _,_=>False
@[reducible] def K8(g:Int->Int->PyData)(x y:DV)(st:aF)(Q:DC):Prop:=match x,y with
 | .dat (.int i),.dat (.int j)=>Q (.dat (g i j)) st
 | _,_=>False
theorem G7{J:KF}{C:Int->Int->Prop}{g:Int->Int->V}{d:Int->Int->PyData}(h:∀i j H,aX J H (g i j) (d i j)):AO J (rI C g) (oI C d):=λH0 A0 G al H st x y dx dy Q R I a b q k=>by
 unfold oI at q;split at q
 ·rw[aE.aW a,aE.aW b];exact⟨_,_,rfl,rfl,q.1,k.here I (.d (h _ _ _)) q.2⟩
 ·exact q.elim
theorem cZ{J:KF}{g:Int->Int->V}{d:Int->Int->PyData}(h:∀i j H,aX J H (g i j) (d i j)):AO J (JJ g) (K8 d):=λH0 A0 G al H st x y dx dy Q R I a b q k=>by
 unfold K8 at q;split at q
 ·rw[aE.aW a,aE.aW b];exact⟨_,_,rfl,rfl,k.here I (.d (h _ _ _)) q⟩
 ·exact q.elim
end
@[reducible] def gW(st:aF):DV->Option (List PyData)
 | .dat (.list ds)=>some ds
 | .ref k=>match st[k]? with
  | some (.live ds)=>some ds
  | some (.froz ds)=>some ds
  | _=>none
 | _=>none
@[reducible] def xk(st:aF):DV->Option PyData
 | .dat d=>some d
 | .ref k=>match st[k]? with
  | some (.live ds)=>some (.list ds)
  | some (.froz ds)=>some (.list ds)
  | _=>none
section
variable {K:aH} {J:KF} {H0:Hp} {A0:Addr->Prop} {G:Addr->Prop} {al bc bW:List (List Addr)} {H H1 H2:Hp} {st aC bp:aF} {Q:DC} {R:VK}
theorem EC{k:Nat}{ds:List PyData}(e:gW st (.ref k)=some ds):st[k]?=some (.live ds)∨st[k]?=some (.froz ds):=by
 have e:(match st[k]? with | some (.live ds)=>some ds | some (.froz ds)=>some ds | _=>none)=some ds:=e
 revert e
 cases st[k]? with
 | none=>intro e;cases e
 | some c=>cases c with
  | live xs=>intro e;cases e;exact .inl rfl
  | froz xs=>intro e;cases e;exact .inr rfl
  | deep xs=>intro e;cases e
  | obj o=>intro e;cases e
theorem ED{k:Nat}{d:PyData}(e:xk st (.ref k)=some d):∃ds,gW st (.ref k)=some ds/\d=.list ds:=by
 have e:(match st[k]? with | some (.live ds)=>some (PyData.list ds) | some (.froz ds)=>some (.list ds) | _=>none)=some d:=e;show ∃ds,(match st[k]? with | some (.live ds)=>some ds | some (.froz ds)=>some ds | _=>none)=some ds/\d=.list ds
 revert e
 cases st[k]? with
 | none=>intro e;cases e
 | some c=>cases c with
  | live xs=>intro e;cases e;exact⟨_,rfl,rfl⟩
  | froz xs=>intro e;cases e;exact⟨_,rfl,rfl⟩
  | deep xs=>intro e;cases e
  | obj o=>intro e;cases e
theorem fS.K9(I:DI J H0 A0 G al H st){v:V}{x:DV}{ds:List PyData}(h:fS J (Fb G al st) H al v x)(e:gW st x=some ds):∃(a:Addr) (ys:List V),v=.ref a/\dC J H a ys/\bR (aE J (Fb G al st) H) ys ds:=by
 cases x with
 | dat d =>
  cases d with
  | list xs=>cases e;obtain⟨a,ys,h1,h2,_,h3⟩:=aE.cN h;exact⟨a,ys,h1,h2,h3⟩
  | _=>cases e
 | ref k =>
  obtain⟨a,r,h1,h2⟩:=h;rcases EC e with hs | hs
  ·obtain⟨a',ys,e0,g1,g2⟩:=I.cel k _ _ h1 hs;cases e0;exact⟨a,ys,h2,dC.of g1,g2⟩
  ·obtain⟨a',e0,g0⟩:=I.cel k _ _ h1 hs;cases e0;obtain⟨b,ys,g1,g2,_,g3⟩:=aE.cN g0;cases g1;exact⟨a,ys,h2,g2,g3⟩
theorem fS.Vg(I:DI J H0 A0 G al H st){v:V}{x:DV}{d:PyData}(h:fS J (Fb G al st) H al v x)(e:xk st x=some d):aX J H v d:=by
 cases x with
 | dat d'=>cases e;exact aE.now h
 | ref k =>
  obtain⟨ds,e1,rfl⟩:=ED e;obtain⟨a,ys,rfl,h2,h3⟩:=h.K9 I e1;exact .lst h2 h3.1 λi x d a b=>(h3.2 i x d a b).now
@[reducible] def oY:DV->aF->(PyData->aF->Prop)->Prop
 | .dat d,st,Q=>Q d st
 | .ref k,st,Q=>match st[k]? with
  | some (.froz ds)=>Q (.list ds) st
  | some (.live ds)=>Q (.list ds) (st.set k (.froz ds))
  | _=>False
@[reducible] def dz:List DV->aF->(List PyData->aF->Prop)->Prop
 | [],st,Q=>Q [] st
 | x::r,st,Q=>oY x st λd aC=>dz r aC λds bp=>Q (d::ds) bp
theorem rV(I:DI J H0 A0 G al H st){v:V}{x:DV}{Q:PyData->aF->Prop}(h:fS J (Fb G al st) H al v x)(q:oY x st Q):∃d aC,Ext al H st al H aC/\DI J H0 A0 G al H aC/\aE J (Fb G al aC) H v d/\Q d aC:=by
 cases x with
 | dat d=>exact⟨d,st,.refl,I,h,q⟩
 | ref k =>
  obtain⟨a,r,h1,rfl⟩:=h;unfold oY at q;dsimp only at q;split at q
  ·rename_i ds hs;obtain⟨a',e0,g0⟩:=I.cel k _ _ h1 hs;cases e0;exact⟨_,st,.refl,I,g0,q⟩
  ·rename_i ds hs;obtain⟨a',e0,E,I',F⟩:=I.freeze h1 hs;cases e0;exact⟨_,_,E,I',F,q⟩
  ·exact q.elim
theorem eM:∀{xs:List DV} {st:aF} {vs:List V} {Q:List PyData->aF->Prop},DI J H0 A0 G al H st->bR (fS J (Fb G al st) H al) vs xs->dz xs st Q->∃ds aC,Ext al H st al H aC/\DI J H0 A0 G al H aC/\bR (aE J (Fb G al aC) H) vs ds/\Q ds aC
 | [],st,vs,Q,I,h,q=>by
  have:=h.1
  cases vs with
  | nil=>exact⟨[],st,.refl,I,.nil,q⟩
  | cons v r=>simp at this
 | x::xs,st,vs,Q,I,h,q=>by
  have:=h.1
  cases vs with
  | nil=>simp at this
  | cons v r =>
   obtain⟨d,aC,E1,I1,F1,q1⟩:=rV I (h.2 0 v x rfl rfl) q;have h':bR (fS J (Fb G al aC) H al) r xs:=⟨by simpa using this,λi y z a b=>(h.2 (i + 1) y z (by simpa using a) (by simpa using b)).ext E1⟩;obtain⟨ds,bp,E2,I2,F2,q2⟩:=eM I1 h' q1;exact⟨d::ds,bp,E1.trans I1 E2,I2,.cons (F1.ext E2) F2,q2⟩
end
section
variable {X:Cx} {Y:YK} {a b c e:Expr} {es:List Expr} {pos:Pos} {ea eb ec:DX} {K:aH} {J:KF}
@[reducible] def La(_:bt)(st:aF)(Q:List DV->aF->Prop):Prop:=Q [] st
@[reducible] def Dc(ea:DX)(r:n9)(env:bt)(st:aF)(Q:List DV->aF->Prop):Prop:=ea env st λx aC=>r env aC λxs bp=>Q (x::xs) bp
theorem Pw:AA J SG 0 La:=λH0 A0 G al H st s env Q R I E h k=>k [] st al [] H .refl I .nil ⟨rfl,h⟩
theorem Lb{ta:TE}{tr:TA}{n:Nat}{r:n9}(ha:AE J ta ea)(hr:AA J tr n r):AA J (Np ta tr) (n + 1) (Dc ea r):=λH0 A0 G al H st s env Q R I E h k=>by
 refine ha H0 A0 G al H st s env _ _ I E h λx aC bc v H1 e1 I1 d1 q1=>?_
 refine hr H0 A0 G bc H1 aC s env _ _ I1 (E.ext e1) q1 λxs bp bW vs H2 e2 I2 d2 q2=>?_
 exact k (x::xs) bp bW (v::vs) H2 (e1.trans I1 e2) I2 (.cons (d1.ext e2) d2) ⟨by simp[q2.1],q2.2⟩
theorem af:qh X Y [] 0 La:=⟨_,pN,Pw⟩
theorem aa{n:Nat}{r:n9}(ha:aZ X Y e ea)(hr:qh X Y es n r)(hs:starEach (e::es) X.env=(false,eval e X.env)::starEach es X.env:=by rfl):qh X Y (e::es) (n + 1) (Dc ea r):=by
 obtain⟨ta,p1,a1⟩:=ha.h;obtain⟨tb,p2,a2⟩:=hr.h;exact⟨_,pK p1 p2 hs,Lb a1 a2⟩
@[reducible] def Lc(t:n9)(env:bt)(st:aF)(Q:DC):Prop:=t env st λxs aC=>dz xs aC λds bp=>Q (.dat (.tuple ds)) bp
@[reducible] def Ld(t:n9)(env:bt)(st:aF)(Q:DC):Prop:=t env st λxs aC=>dz xs aC λds bp=>Q (.dat (.list ds)) bp
@[reducible] def Dd(t:n9)(env:bt)(st:aF)(Q:DC):Prop:=t env st λxs aC=>dz xs aC λds bp=>Q (.ref bp.length) (bp++[.live ds])
theorem Px{t:TA}{n:Nat}{d:n9}(hn:n<=sizeLine)(h:AA J t n d):AE J (SJ t) (Lc d):=λH0 A0 G al H st s env Q R I E q k=>by
 refine h H0 A0 G al H st s env _ _ I E q λxs aC bc vs H1 e1 I1 d1 q1=>?_
 obtain⟨ds,bp,E2,I2,F2,q2⟩:=eM I1 d1 q1.2;refine⟨by rw[d1.1,q1.1];exact hn,λp hp=>?_⟩;have k2:=k.go I2 (e1.trans I1 E2);exact k2.laid I2 (eL hp) (.d (aE.tup (I2.G4 hp) uS (F2.imp λy x z=>z.same (eL hp)))) q2
theorem Py{t:TA}{n:Nat}{d:n9}(hn:n<=sizeLine)(h:AA J t n d):AE J (OW t) (Ld d):=λH0 A0 G al H st s env Q R I E q k=>by
 refine h H0 A0 G al H st s env _ _ I E q λxs aC bc vs H1 e1 I1 d1 q1=>?_
 obtain⟨ds,bp,E2,I2,F2,q2⟩:=eM I1 d1 q1.2;refine⟨by rw[d1.1,q1.1];exact hn,λp hp=>?_⟩;have k2:=k.go I2 (e1.trans I1 E2);exact k2.laid I2 (eL hp) (.d (aE.lst (I2.G4 hp) uS (F2.imp λy x z=>z.same (eL hp)))) q2
theorem Kn.cell{H0:Hp}{A0:Addr->Prop}{G:Addr->Prop}{al:List (List Addr)}{H:Hp}{st:aF}{Q:DC}{R:VK}(k:Kn J H0 A0 G al H st Q R)(I:DI J H0 A0 G al H st){p:Addr}{ys:List V}{ds:List PyData}(hp:H p=none)(F:bR (aE J (Fb G al st) H) ys ds)(q:Q (.ref st.length) (st++[.live ds])):R (.ref p) (upd H p (.lst ys)):=by
 obtain⟨E,I'⟩:=I.cell hp F;exact k (.ref st.length) _ _ _ _ E I' ⟨p,[],by rw[← I.len,aam (aaj _),aa3];rfl,rfl⟩ q
theorem Kn.list{H0:Hp}{A0:Addr->Prop}{G:Addr->Prop}{al:List (List Addr)}{H:Hp}{st:aF}{Q:DC}{R:VK}(k:Kn J H0 A0 G al H st Q R)(I:DI J H0 A0 G al H st){p:Addr}{ys:List V}{ds:List PyData}(hp:H p=none)(F:bR (aE J (Fb G al st) H) ys ds)(q:Q (.dat (.list ds)) st):R (.ref p) (upd H p (.lst ys)) :=
 k.laid I (eL hp) (.d (aE.lst (I.G4 hp) uS (F.imp λy x z=>z.same (eL hp)))) q
theorem Le{t:TA}{n:Nat}{d:n9}(hn:n<=sizeLine)(h:AA J t n d):AE J (OW t) (Dd d):=λH0 A0 G al H st s env Q R I E q k=>by
 refine h H0 A0 G al H st s env _ _ I E q λxs aC bc vs H1 e1 I1 d1 q1=>?_
 obtain⟨ds,bp,E2,I2,F2,q2⟩:=eM I1 d1 q1.2;exact⟨by rw[d1.1,q1.1];exact hn,λp hp=>(k.go I2 (e1.trans I1 E2)).cell I2 hp F2 q2⟩
theorem av{k n:Nat}{d:n9}(h:qh X Y es n d)(hn:n<=sizeLine:=by decide):aZ X Y (.Tuple es k pos) (Lc d):=by
 obtain⟨t,p,a⟩:=h.h;exact⟨_,ju p,Px hn a⟩
theorem dD{n:Nat}{d:n9}(h:qh X Y es n d)(hn:n<=sizeLine:=by decide):aZ X Y (.List es pos) (Ld d):=by
 obtain⟨t,p,a⟩:=h.h;exact⟨_,BA p,Py hn a⟩
theorem iu{n:Nat}{d:n9}(h:qh X Y es n d)(hn:n<=sizeLine:=by decide):aZ X Y (.List es pos) (Dd d):=by
 obtain⟨t,p,a⟩:=h.h;exact⟨_,BA p,Le hn a⟩
end
theorem kS{n:Nat}(h:n<=1000000):n<=sizeLine:=aaB h (by decide)
section
variable {X:Cx} {Y:YK} {a b c e:Expr} {es:List Expr} {pos:Pos} {ea eb ec:DX} {K:aH} {J:KF}
@[reducible] def G8(x y:DV)(st:aF)(Q:DC):Prop:=match x,y with
 | .dat (.int i),.dat (.int j)=>Q (.dat (.int (i + j))) st
 | .dat (.str i),.dat (.str j)=>i.length + j.length<=1000000/\Q (.dat (.str (i++j))) st
 | .dat (.tuple i),.dat (.tuple j)=>i.length + j.length<=1000000/\Q (.dat (.tuple (i++j))) st
 | x,y=>match gW st x,gW st y with
  | some i,some j=>i.length + j.length<=1000000/\Q (.dat (.list (i++j))) st
  | _,_=>False
@[reducible] def G9(K:aH):R2:=λx y H Q=>JJ (λi j=>.int (i + j)) x y H Q∨((∃i j,x=.str i/\y=.str j/\i.length + j.length<=sizeLine/\Q (.str (i++j)) H)∨(NB K x y H Q∨Nw K x y H Q))
theorem Lf:gQ X (binaryOp .Add) (G9 X.K):=ph OR (ph Bx (ph KO KC))
theorem bR.len{α:Type}{R:V->α->Prop}{ys:List V}{xs:List α}(h:bR R ys xs):ys.length=xs.length:=h.1
theorem Pz:AO J (G9 J) G8:=λH0 A0 G al H st x y dx dy Q R I h1 h2 q k=>by
 have lists:(match gW st dx,gW st dy with
  | some i,some j=>i.length + j.length<=1000000/\Q (.dat (.list (i++j))) st
  | _,_=>False)->G9 J x y H R:=λq=>by
  split at q
  ·rename_i i j e1 e2;obtain⟨a,ys,rfl,g1,g2⟩:=h1.K9 I e1;obtain⟨b,zs,rfl,g3,g4⟩:=h2.K9 I e2;exact .inr (.inr (.inr ⟨a,b,ys,zs,rfl,rfl,g1,g3,by rw[g2.len,g4.len];exact kS q.1,λp hp=>k.list I hp (g2.append g4) q.2⟩))
  ·exact q.elim
 unfold G8 at q;split at q
 ·rw[aE.aW h1,aE.aW h2];exact .inl ⟨_,_,rfl,rfl,k.here I (.d (.int _)) q⟩
 ·rw[aE.cz h1,aE.cz h2];exact .inr (.inl ⟨_,_,rfl,rfl,kS q.1,k.here I (.d (.str _)) q.2⟩)
 ·obtain⟨a,ys,rfl,g1,_,g2⟩:=aE.bL h1;obtain⟨b,zs,rfl,g3,_,g4⟩:=aE.bL h2;refine .inr (.inr (.inl ⟨a,b,ys,zs,rfl,rfl,g1,g3,by rw[g2.len,g4.len];exact kS q.1,λp H' s hp=>k.laid I s (.d ?_) q.2⟩));have g:=(g2.append g4).imp λy x z=>z.same s
  exact aX.tup ((I.same s).K7 hp) g.1 g.2
 ·exact lists q
theorem aL(ha:aZ X Y a ea)(hb:aZ X Y b eb):aZ X Y (.BinOp a .Add b pos) (rJ G8 ea eb):=qC Lf Pz ha hb
theorem cq(ha:aZ X Y a ea)(hb:aZ X Y b eb):aZ X Y (.BinOp a .Sub b pos) (rJ (K8 λi j=>.int (i - j)) ea eb):=qC FZ (cZ λ_ _ _=>.int _) ha hb
def MulOk(i j:Int):Prop:=OQ i j∨Gx i j
theorem Lg:gQ X (binaryOp .Mult) (rI MulOk λi j=>.int (i * j)):=SA λ_ _ _ _ _ _ _ hc q=>mul_int q (by rcases hc with h | h;exact h.ok;exact h.ok)
theorem pj(ha:aZ X Y a ea)(hb:aZ X Y b eb):aZ X Y (.BinOp a .Mult b pos) (rJ (oI MulOk λi j=>.int (i * j)) ea eb):=qC Lg (G7 λ_ _ _=>.int _) ha hb
def NJ(j:Int):Prop:=0 < j/\j < 18446744073709551616
theorem Ha:gQ X (binaryOp .FloorDiv) (rI (λ_ j=>NJ j) λi j=>.int (i / j)):=SA λi j _ _ _ _ _ hc q=>by
 have h1:(0:Int) < j:=hc.1;have h2:j < 18446744073709551616:=hc.2;exact floordiv_int (by omega) (by rw[Int.fdiv_eq_ediv_of_nonneg i (by omega)];exact q) (.inl (GR.ok (i:=i) ⟨by omega,by omega⟩))
theorem cA(ha:aZ X Y a ea)(hb:aZ X Y b eb):aZ X Y (.BinOp a .FloorDiv b pos) (rJ (oI (λ_ j=>NJ j) λi j=>.int (i / j)) ea eb):=qC Ha (G7 λ_ _ _=>.int _) ha hb
theorem aU(ha:aZ X Y a ea)(hb:aZ X Y b eb):aZ X Y (.BinOp a .Mod b pos) (rJ (oI (λ_ j=>0 < j) λi j=>.int (i % j)) ea eb):=qC uI (G7 λ_ _ _=>.int _) ha hb
theorem BO(ha:aZ X Y a ea)(hb:aZ X Y b eb):aZ X Y (.BinOp a .Pow b pos) (rJ (oI Kj λi j=>.int (i ^ j.toNat)) ea eb):=qC OS (G7 λ_ _ _=>.int _) ha hb
theorem uZ(ha:aZ X Y a ea)(hb:aZ X Y b eb):aZ X Y (.BinOp a .LShift b pos) (rJ (oI Kj λi j=>.int (i * 2 ^ j.toNat)) ea eb):=qC OT (G7 λ_ _ _=>.int _) ha hb
theorem Hb(ha:aZ X Y a ea)(hb:aZ X Y b eb):aZ X Y (.BinOp a .BitAnd b pos) (rJ (K8 λi j=>.int (Builtin.bitAnd i j)) ea eb):=qC OU (cZ λ_ _ _=>.int _) ha hb
@[reducible] def PB(ea:DX)(env:bt)(st:aF)(Q:DC):Prop:=ea env st λx aC=>match x with
 | .dat (.int i)=>Q (.dat (.int (-i))) aC
 | _=>False
theorem jA(ha:aZ X Y a ea):aZ X Y (.UnaryOp .USub a pos) (PB ea):=by
 obtain⟨ta,p1,a1⟩:=ha.h;refine⟨_,Sz OV p1,λH0 A0 G al H st s env Q R I E h k=>a1 H0 A0 G al H st s env _ _ I E h λx aC bc v H1 e1 I1 d1 q1=>?_⟩;split at q1
 ·rw[aE.aW d1];exact⟨_,rfl,(k.go I1 e1).here I1 (.d (.int _)) q1⟩
 ·exact q1.elim
theorem NK(ha:aZ X Y a ea)(hb:aZ X Y b eb):aZ X Y (.Compare a [.Gt] [b] pos) (rJ (K8 λi j=>.bool (decide (j < i))) ea eb):=yk Ge (cZ λ_ _ _=>.bl _) ha hb (dX _)
@[reducible] def ym(n:Bool->Bool)(x y:DV)(st:aF)(Q:DC):Prop:=match x,y with
 | .dat (.int i),.dat (.int j)=>Q (.dat (.bool (n (decide (i=j))))) st
 | .dat (.str i),.dat (.str j)=>Q (.dat (.bool (n (decide (i=j))))) st
 | x,y=>match xk st x,xk st y with
  | some i,some j=>(PySem.SeqAt.shaped i=true/\PySem.SeqAt.shaped j=true)/\Q (.dat (.bool (n (PyData.eqv i j)))) st
  | _,_=>False
@[reducible] def Wa(K:aH):R2:=λx y H Q=>Yi x y H Q∨SW K x y H Q
@[reducible] def Wb(K:aH):R2:=λx y H Q=>Yj x y H Q∨SX K x y H Q
theorem Tv{i j:Int}:decide (V.int i=V.int j)=decide (i=j):=decide_eq_decide.mpr ⟨V.int.inj,λh=>by rw[h]⟩
theorem Tw{i j:Str}:decide (V.str i=V.str j)=decide (i=j):=decide_eq_decide.mpr ⟨V.str.inj,λh=>by rw[h]⟩
theorem NL:AO J (Wa J) (ym id):=λH0 A0 G al H st x y dx dy Q R I h1 h2 q k=>by
 unfold ym at q;split at q
 ·rw[aE.aW h1,aE.aW h2];exact .inl ⟨rfl,k.here I (.d (.bl _)) (by rw[Tv];exact q)⟩
 ·rw[aE.cz h1,aE.cz h2];exact .inl ⟨rfl,k.here I (.d (.bl _)) (by rw[Tw];exact q)⟩
 ·split at q
  ·rename_i i j e1 e2;exact .inr ⟨i,j,h1.Vg I e1,h2.Vg I e2,q.1.1,q.1.2,k.here I (.d (.bl _)) q.2⟩
  ·exact q.elim
theorem Tx:AO J (Wb J) (ym not):=λH0 A0 G al H st x y dx dy Q R I h1 h2 q k=>by
 unfold ym at q;split at q
 ·rw[aE.aW h1,aE.aW h2];exact .inl ⟨rfl,k.here I (.d (.bl _)) (by rw[Tv];exact q)⟩
 ·rw[aE.cz h1,aE.cz h2];exact .inl ⟨rfl,k.here I (.d (.bl _)) (by rw[Tw];exact q)⟩
 ·split at q
  ·rename_i i j e1 e2;exact .inr ⟨i,j,h1.Vg I e1,h2.Vg I e2,q.1.1,q.1.2,k.here I (.d (.bl _)) q.2⟩
  ·exact q.elim
theorem qD(hu:X.A.units + 64 < cLine)(ha:aZ X Y a ea)(hb:aZ X Y b eb):aZ X Y (.Compare a [.Eq] [b] pos) (rJ (ym id) ea eb):=yk (ph Gb (Gv hu)) NL ha hb (dX _)
@[reducible] def De:DV->Bool
 | .dat .none=>true
 | _=>false
@[reducible] def wk(n:Bool->Bool)(x y:DV)(st:aF)(Q:DC):Prop:=match y with
 | .dat .none=>Q (.dat (.bool (n (De x)))) st
 | _=>False
theorem u9{H:Hp}{P:Addr->Prop}{al:List (List Addr)}{v:V}{x:DV}(h:fS K P H al v x):decide (v=.non)=De x:=by
 cases x with
 | ref k=>obtain⟨a,r,_,rfl⟩:=h;rfl
 | dat d =>
  cases d with
  | none=>rw[aE.fU h];rfl
  | bool b=>rw[aE.gU h];rfl
  | int i=>rw[aE.aW h];rfl
  | str i=>rw[aE.cz h];rfl
  | list ds=>obtain⟨a,ys,rfl,_⟩:=aE.cN h;rfl
  | tuple ds=>obtain⟨a,ys,rfl,_⟩:=aE.bL h;rfl
  | dict kv=>have h:aX K (cutH P H) v (.dict kv):=h;cases h
theorem Hc(ha:aZ X Y a ea)(hb:aZ X Y b eb):aZ X Y (.Compare a [.Is] [b] pos) (rJ (wk id) ea eb):=yk Gf (λH0 A0 G al H st x y dx dy Q R I h1 h2 q k=>by
 unfold wk at q;split at q
 ·exact⟨aE.fU h2,k.here I (.d (.bl _)) (by rw[u9 h1];exact q)⟩
 ·exact q.elim) ha hb (dX _)
end
section
variable {X:Cx} {Y:YK} {a b c e:Expr} {es:List Expr} {pos:Pos} {ea eb ec:DX} {K:aH} {J:KF}
theorem bR.sP{α:Type}{R:V->α->Prop}{ys:List V}{xs:List α}(h:bR R ys xs){i:Int}{x:α}(hx:sP xs i=some x):∃y,L2.sP ys i=some y/\R y x:=by
 unfold L2.sP at hx ⊢;rw[h.1]
 cases q:FC xs.length i with
 | none=>rw[q]at hx;cases hx
 | some j =>
  rw[q]at hx;exact h.at hx
@[reducible] def kT(st:aF):DV->Option (List PyData)
 | .dat (.tuple ds)=>some ds
 | x=>gW st x
theorem fS.PD{H0:Hp}{A0:Addr->Prop}{G:Addr->Prop}{al:List (List Addr)}{H:Hp}{st:aF}(I:DI J H0 A0 G al H st){v:V}{x:DV}{ds:List PyData}(h:fS J (Fb G al st) H al v x)(e:kT st x=some ds):∃(a:Addr) (ys:List V),v=.ref a/\(dC J H a ys∨dG J H a ys)/\bR (aE J (Fb G al st) H) ys ds:=by
 unfold kT at e;split at e
 ·cases e;obtain⟨a,ys,h1,h2,_,h3⟩:=aE.bL h;exact⟨a,ys,h1,.inr h2,h3⟩
 ·obtain⟨a,ys,h1,h2,h3⟩:=h.K9 I e;exact⟨a,ys,h1,.inl h2,h3⟩
@[reducible] def Tz(x y:DV)(st:aF)(Q:DC):Prop:=match x,y with
 | .dat (.str z),.dat (.int i)=>z.length<=1000000/\∃c,L2.sP z.cps.toList i=some c/\Q (.dat (.str ⟨#[c]⟩)) st
 | x,.dat (.int i)=>match kT st x with
  | some ds=>∃d,L2.sP ds i=some d/\Q (.dat d) st
  | none=>False
 | _,_=>False
theorem TB:AO J (Ym J) Tz:=λH0 A0 G al H st x y dx dy Q R I h1 h2 q k=>by
 unfold Tz at q;split at q
 ·obtain⟨q1,c,q2,q3⟩:=q;rw[aE.cz h1,aE.aW h2];exact .inr (.inr ⟨_,_,c,rfl,rfl,kS q1,q2,k.here I (.d (.str _)) q3⟩)
 ·split at q
  ·rename_i ds e;obtain⟨d,q1,q2⟩:=q;rw[aE.aW h2];obtain⟨a,ys,rfl,g1,g2⟩:=h1.PD I e;obtain⟨z,g3,g4⟩:=g2.sP q1;rcases g1 with g1 | g1
   ·exact .inl ⟨a,ys,_,z,rfl,rfl,g1,g3,k.here I (.d g4) q2⟩
   ·exact .inr (.inl ⟨a,ys,_,z,rfl,rfl,g1,g3,k.here I (.d g4) q2⟩)
  ·exact q.elim
 ·exact q.elim
theorem bj(ha:aZ X Y a ea)(hb:aZ X Y b eb)(hs:xX b):aZ X Y (.Subscript a b pos) (rJ Tz ea eb):=by
 obtain⟨ta,p1,a1⟩:=ha.h;obtain⟨tb,p2,a2⟩:=hb.h;exact⟨_,cY Gm p1 p2 hs,C9 TB a1 a2⟩
@[reducible] def oR:PyData->Bool
 | .none=>true
 | .bool _=>true
 | .int _=>true
 | .str _=>true
 | _=>false
theorem Df{P:Addr->Prop}{H:Hp}{v:V}{d:PyData}(h:aE K P H v d)(f:oR d=true):oO v=true/\∀H',aX K H' v d:=by
 cases d with
 | none=>rw[aE.fU h];exact⟨rfl,λ_=>.non⟩
 | bool b=>rw[aE.gU h];exact⟨rfl,λ_=>.bl b⟩
 | int i=>rw[aE.aW h];exact⟨rfl,λ_=>.int i⟩
 | str i=>rw[aE.cz h];exact⟨rfl,λ_=>.str i⟩
 | _=>cases f
theorem Lh{P P':Addr->Prop}{H H':Hp}{v u:V}{d d':PyData}(h:aE K P H v d)(h':aE K P' H' u d')(f:oR d=true)(f':oR d'=true):Kt v u=PyData.eqv d d':=by
 cases d with
 | none=>rw[aE.fU h];cases d' with
  | none=>rw[aE.fU h'];rfl
  | bool b=>rw[aE.gU h'];rfl
  | int i=>rw[aE.aW h'];rfl
  | str i=>rw[aE.cz h'];rfl
  | _=>cases f'
 | bool b=>rw[aE.gU h];cases d' with
  | none=>rw[aE.fU h'];rfl
  | bool b=>rw[aE.gU h'];rfl
  | int i=>rw[aE.aW h'];rfl
  | str i=>rw[aE.cz h'];rfl
  | _=>cases f'
 | int i=>rw[aE.aW h];cases d' with
  | none=>rw[aE.fU h'];rfl
  | bool b=>rw[aE.gU h'];rfl
  | int i=>rw[aE.aW h'];rfl
  | str i=>rw[aE.cz h'];rfl
  | _=>cases f'
 | str i=>rw[aE.cz h];cases d' with
  | none=>rw[aE.fU h'];rfl
  | bool b=>rw[aE.gU h'];rfl
  | int i=>rw[aE.aW h'];rfl
  | str i=>rw[aE.cz h'];rfl
  | _=>cases f'
 | _=>cases f
def inD(x:PyData)(ds:List PyData):Bool:=ds.any λd=>PyData.eqv d x
theorem NM{P:Addr->Prop}{H:Hp}{v:V}{d:PyData}(h:aE K P H v d)(f:oR d=true):∀{ys:List V} {ds:List PyData},bR (aE K P H) ys ds->ds.all oR=true->ys.all oO=true/\U9 v ys=inD d ds
 | [],[],_,_=>⟨rfl,rfl⟩
 | [],_::_,r,_=>by have:=r.1;simp at this
 | _::_,[],r,_=>by have:=r.1;simp at this
 | y::ys,x::ds,r,g=>by
  rw[List.all_cons,Bool.and_eq_true]at g;have r0:=r.2 0 y x rfl rfl;obtain⟨z1,z2⟩:=NM h f (ys:=ys) (ds:=ds) ⟨by simpa using r.1,λi p q a b=>r.2 (i + 1) p q (by simpa using a) (by simpa using b)⟩ g.2;unfold U9 inD at z2 ⊢;rw[List.all_cons,List.any_cons,List.any_cons,z1,z2,(Df r0 g.1).1,Lh r0 h g.1 f];exact⟨rfl,rfl⟩
@[reducible] def PF(n:Bool->Bool)(x y:DV)(st:aF)(Q:DC):Prop:=match x with
 | .dat d=>match kT st y with
  | some ds=>(oR d=true/\ds.all oR=true)/\Q (.dat (.bool (n (inD d ds)))) st
  | none=>False
 | _=>False
theorem Hd(neg:Bool):AO J (VL J neg) (PF (if neg then not else id)):=λH0 A0 G al H st x y dx dy Q R I h1 h2 q k=>by
 unfold PF at q;split at q
 ·split at q
  ·rename_i ds e;obtain⟨a,ys,rfl,g1,g2⟩:=h2.PD I e;obtain⟨z1,z2⟩:=NM h1 q.1.1 g2 q.1.2;refine⟨a,ys,rfl,g1,(Df h1 q.1.1).1,z1,k.here I (.d (.bl _)) ?_⟩;rw[z2];cases neg<;>exact q.2
  ·exact q.elim
 ·exact q.elim
theorem TC(ha:aZ X Y a ea)(hb:aZ X Y b eb)(hm:behindInMarks .In b=false):aZ X Y (.Compare a [.In] [b] pos) (rJ (PF id) ea eb):=yk wX (Hd false) ha hb hm
abbrev DO:=bt->aF->(Option Int->aF->Prop)->Prop
@[reducible] def He(_:bt)(st:aF)(Q:Option Int->aF->Prop):Prop:=Q none st
@[reducible] def Hf(e:DX)(env:bt)(st:aF)(Q:Option Int->aF->Prop):Prop:=e env st λx aC=>match x with
 | .dat (.int i)=>Q (some i) aC
 | _=>False
structure Vh(X:Cx)(Y:YK)(e:Option Expr)(d:DO):Prop where
 h:∃t,PO X e t/\∀(H0:Hp) (A0:Addr->Prop) (G:Addr->Prop) (al:List (List Addr)) (H:Hp) (st:aF) (s:St) (env:bt) (Q:Option Int->aF->Prop) (R:Option Int->Hp->Prop),DI (kf X Y) H0 A0 G al H st->jz X.K (Fb G al st) H al s env->d env st Q ->
  (∀i st' al' H',Ext al H st al' H' st'->DI (kf X Y) H0 A0 G al' H' st'->Q i st'->R i H')->t s H R
theorem bN:Vh X Y none He:=⟨_,Kp,λH0 A0 G al H st s env Q R I E q k=>k none st al H .refl I q⟩
theorem bD(ha:aZ X Y a ea):Vh X Y (some a) (Hf ea):=by
 obtain⟨ta,p1,a1⟩:=ha.h;refine⟨_,Kq p1,λH0 A0 G al H st s env Q R I E q k=>a1 H0 A0 G al H st s env _ _ I E q λx aC bc v H1 e1 I1 d1 q1=>?_⟩;split at q1
 ·rw[aE.aW d1];exact⟨_,rfl,k _ _ _ _ e1 I1 q1⟩
 ·exact q1.elim
def cutD(xs:List PyData)(lo hi:Option Int):List PyData:=(xs.drop (HT.dY xs.length 0 lo)).take (HT.dY xs.length xs.length hi - HT.dY xs.length 0 lo)
theorem bR.cut{P:Addr->Prop}{H:Hp}{ys:List V}{ds:List PyData}(h:bR (aE K P H) ys ds)(lo hi:Option Int):bR (aE K P H) (uM ys lo hi) (cutD ds lo hi):=by
 unfold uM cutD;rw[h.1];exact(h.drop _).take _
@[reducible] def Wc(ea:DX)(lo hi:DO)(env:bt)(st:aF)(Q:DC):Prop:=ea env st λx aC=>lo env aC λl bp=>hi env bp λu iS=>match x with
 | .dat (.str z)=>z.length<=1000000/\Q (.dat (.str (Txt.slice z l u))) iS
 | .dat (.tuple ds)=>Q (.dat (.tuple (cutD ds l u))) iS
 | x=>match gW iS x with
  | some ds=>Q (.dat (.list (cutD ds l u))) iS
  | none=>False
theorem Hg{r r':V->Option Int->Option Int->Hp->VK->Prop}(h:JL X r)(h':JL X r'):JL X (λx l u H Q=>r x l u H Q∨r' x l u H Q):=by
 unfold JL at h h' ⊢
 intros
 rename_i q;rcases q with q | q
 ·apply h<;>assumption
 ·apply h'<;>assumption
theorem Wd:JL X (λx l u H Q=>NF x l u H Q∨(Tf X.K x l u H Q∨SU X.K x l u H Q)):=Hg KW (Hg KN Ks)
theorem eB{lo hi:Option Expr}{l u:DO}{p2:Pos}(ha:aZ X Y a ea)(hl:Vh X Y lo l)(hh:Vh X Y hi u):aZ X Y (.Subscript a (.Slice lo hi none p2) pos) (Wc ea l u):=by
 obtain⟨ta,p1,a1⟩:=ha.h;obtain⟨tl,p2,a2⟩:=hl.h;obtain⟨th,p3,a3⟩:=hh.h;refine⟨_,Gk Wd p1 p2 p3,λH0 A0 G al H st s env Q R I E q k=>a1 H0 A0 G al H st s env _ _ I E q λx aC bc v H1 e1 I1 d1 q1=>?_⟩;refine a2 H0 A0 G bc H1 aC s env _ _ I1 (E.ext e1) q1 λi bp bW H2 e2 I2 q2=>?_
 have rW:=e1.trans I1 e2;refine a3 H0 A0 G bW H2 bp s env _ _ I2 (E.ext rW) q2 λj iS Sb H3 e3 I3 q3=>?_
 have k3:=k.go I3 (rW.trans I2 e3);have d3:=(d1.ext e2).ext e3;split at q3
 ·rw[aE.cz d3];exact .inl ⟨_,rfl,kS q3.1,k3.here I3 (.d (.str _)) q3.2⟩
 ·obtain⟨b,ys,rfl,g1,_,g2⟩:=aE.bL d3;refine .inr (.inl ⟨b,ys,rfl,g1,λp H' s hp=>k3.laid I3 s (.d ?_) q3⟩);have g:=(g2.cut i j).imp λy x z=>z.same s
  exact aX.tup ((I3.same s).K7 hp) g.1 g.2
 ·split at q3
  ·rename_i ds e;obtain⟨b,ys,rfl,g1,g2⟩:=d3.K9 I3 e;exact .inr (.inr ⟨b,ys,rfl,g1,λp hp=>k3.list I3 hp (g2.cut i j) q3⟩)
  ·exact q3.elim
@[reducible] def Dg(ea:DX)(env:bt)(st:aF)(Q:Bool->aF->Prop):Prop:=ea env st λx aC=>match x with
 | .dat (.bool b)=>Q b aC
 | _=>False
@[reducible] def Dh(t u:DT)(env:bt)(st:aF)(Q:Bool->aF->Prop):Prop:=t env st λb aC=>if b=true then u env aC Q else Q false aC
@[reducible] def Li(t u:DT)(env:bt)(st:aF)(Q:Bool->aF->Prop):Prop:=t env st λb aC=>if b=true then Q true aC else u env aC Q
@[reducible] def Hh(t:DT)(env:bt)(st:aF)(Q:Bool->aF->Prop):Prop:=t env st λb aC=>Q (!b) aC
theorem BP{t:TE}{e:DX}(h:AE J t e):AT J (Gg t) (Dg e):=λH0 A0 G al H st s env Q R I E q k=>h H0 A0 G al H st s env _ _ I E q λx aC bc v H1 e1 I1 d1 q1=>by
 split at q1
 ·rw[aE.gU d1];exact⟨_,rfl,k _ _ _ _ e1 I1 q1⟩
 ·exact q1.elim
theorem kU{op:CmpOp}{r:R2}{o:JP}(ho:gQ X (compareOp op) r)(ao:AO (kf X Y) r o)(ha:aZ X Y a ea)(hb:aZ X Y b eb)(hm:behindInMarks op b=false):xj X Y (.Compare a [op] [b] pos) (Dg (rJ o ea eb)):=by
 obtain⟨ta,p1,a1⟩:=ha.h;obtain⟨tb,p2,a2⟩:=hb.h;exact⟨_,tR ho p1 p2 hm,BP (C9 ao a1 a2)⟩
theorem oS(ha:aZ X Y a ea)(hb:aZ X Y b eb):xj X Y (.Compare a [.Lt] [b] pos) (Dg (rJ (K8 λi j=>.bool (decide (i < j))) ea eb)):=kU qw (cZ λ_ _ _=>.bl _) ha hb (dX _)
theorem vb(ha:aZ X Y a ea)(hb:aZ X Y b eb):xj X Y (.Compare a [.Gt] [b] pos) (Dg (rJ (K8 λi j=>.bool (decide (j < i))) ea eb)):=kU Ge (cZ λ_ _ _=>.bl _) ha hb (dX _)
theorem bH(hu:X.A.units + 64 < cLine)(ha:aZ X Y a ea)(hb:aZ X Y b eb):xj X Y (.Compare a [.Eq] [b] pos) (Dg (rJ (ym id) ea eb)):=kU (ph Gb (Gv hu)) NL ha hb (dX _)
theorem kH(hu:X.A.units + 64 < cLine)(ha:aZ X Y a ea)(hb:aZ X Y b eb):xj X Y (.Compare a [.NotEq] [b] pos) (Dg (rJ (ym not) ea eb)):=kU (ph SE (Pf hu)) Tx ha hb (dX _)
theorem kW(ha:aZ X Y a ea)(hb:aZ X Y b eb)(hm:behindInMarks .In b=false):xj X Y (.Compare a [.In] [b] pos) (Dg (rJ (PF id) ea eb)):=kU wX (Hd false) ha hb hm
theorem vd(ha:aZ X Y a ea)(hb:aZ X Y b eb)(hm:behindInMarks .NotIn b=false):xj X Y (.Compare a [.NotIn] [b] pos) (Dg (rJ (PF not) ea eb)):=kU xZ (Hd true) ha hb hm
theorem PH:AO J (λx y H Q=>y=.non/\Q (.bl (decide (x=.non))) H) (wk id):=λH0 A0 G al H st x y dx dy Q R I h1 h2 q k=>by
 unfold wk at q;split at q
 ·exact⟨aE.fU h2,k.here I (.d (.bl _)) (by rw[u9 h1];exact q)⟩
 ·exact q.elim
theorem Lj:AO J (λx y H Q=>y=.non/\Q (.bl (!decide (x=.non))) H) (wk not):=λH0 A0 G al H st x y dx dy Q R I h1 h2 q k=>by
 unfold wk at q;split at q
 ·exact⟨aE.fU h2,k.here I (.d (.bl _)) (by rw[u9 h1];exact q)⟩
 ·exact q.elim
theorem Hi(ha:aZ X Y a ea)(hb:aZ X Y b eb):xj X Y (.Compare a [.Is] [b] pos) (Dg (rJ (wk id) ea eb)):=kU Gf PH ha hb (dX _)
theorem jB(ha:aZ X Y a ea)(hb:aZ X Y b eb):xj X Y (.Compare a [.IsNot] [b] pos) (Dg (rJ (wk not) ea eb)):=kU qx Lj ha hb (dX _)
theorem pq(ha:aZ X Y a ea)(he:∀whole,isTrue a X.env whole=(do let v ← whole;standAt a.pos;holding [v] (truthy v)):=by intro _;rfl):xj X Y a (Dg ea):=by
 obtain⟨ta,p1,a1⟩:=ha.h;exact⟨_,FK p1 he,BP a1⟩
variable {rest:List Expr} {ta tb:DT}
theorem ff(ha:xj X Y a ta):xj X Y (.UnaryOp .Not a pos) (Hh ta):=by
 obtain⟨t,p1,a1⟩:=ha.h;exact⟨_,FL p1,λH0 A0 G al H st s env Q R I E q k=>a1 H0 A0 G al H st s env _ _ I E q λb aC bc H1 e1 I1 q1=>k _ _ _ _ e1 I1 q1⟩
theorem jC(ha:xj X Y a ta):wa X Y (.BoolOp .And [a] pos) ta:=by
 obtain⟨t,p1,a1⟩:=ha.h;exact⟨_,pw_and1 p1,a1⟩
theorem px(ha:xj X Y a ta):wa X Y (.BoolOp .Or [a] pos) ta:=by
 obtain⟨t,p1,a1⟩:=ha.h;exact⟨_,pw_or1 p1,a1⟩
theorem PJ{t u:TT}(h1:AT J t ta)(h2:AT J u tb):AT J (Sl t u) (Dh ta tb):=λH0 A0 G al H st s env Q R I E q k=>h1 H0 A0 G al H st s env _ _ I E q λb aC bc H1 e1 I1 q1=>by
 cases b with
 | true=>exact cT (h2 H0 A0 G bc H1 aC s env _ _ I1 (E.ext e1) (by rw[aaD rfl]at q1;exact q1) (k.go I1 e1))
 | false=>exact dI (k _ _ _ _ e1 I1 (by rw[aaF aai]at q1;exact q1))
theorem TH{t u:TT}(h1:AT J t ta)(h2:AT J u tb):AT J (Yd t u) (Li ta tb):=λH0 A0 G al H st s env Q R I E q k=>h1 H0 A0 G al H st s env _ _ I E q λb aC bc H1 e1 I1 q1=>by
 cases b with
 | false=>exact dI (h2 H0 A0 G bc H1 aC s env _ _ I1 (E.ext e1) (by rw[aaF aai]at q1;exact q1) (k.go I1 e1))
 | true=>exact cT (k _ _ _ _ e1 I1 (by rw[aaD rfl]at q1;exact q1))
theorem pA(ha:xj X Y a ta)(hb:wa X Y (.BoolOp .And (b::rest) pos) tb):wa X Y (.BoolOp .And (a::b::rest) pos) (Dh ta tb):=by
 obtain⟨t,p1,a1⟩:=ha.h;obtain⟨u,p2,a2⟩:=hb.h;exact⟨_,pw_and p1 p2,PJ a1 a2⟩
theorem qE(ha:xj X Y a ta)(hb:wa X Y (.BoolOp .Or (b::rest) pos) tb):wa X Y (.BoolOp .Or (a::b::rest) pos) (Li ta tb):=by
 obtain⟨t,p1,a1⟩:=ha.h;obtain⟨u,p2,a2⟩:=hb.h;exact⟨_,pw_or p1 p2,TH a1 a2⟩
theorem wa.dt(h:wa X Y a ta):xj X Y a ta:=by
 obtain⟨t,p1,a1⟩:=h.h;exact⟨_,p1.pt,a1⟩
@[reducible] def Hj(ea eb:DX)(env:bt)(st:aF)(Q:DC):Prop:=ea env st λx aC=>match x with
 | .dat (.bool b)=>if b=true then eb env aC Q else Q (.dat (.bool false)) aC
 | _=>False
@[reducible] def PK(ea eb:DX)(env:bt)(st:aF)(Q:DC):Prop:=ea env st λx aC=>match x with
 | .dat (.bool b)=>if b=true then Q (.dat (.bool true)) aC else eb env aC Q
 | _=>False
@[reducible] def Hk(ea:DX)(env:bt)(st:aF)(Q:DC):Prop:=ea env st λx aC=>match x with
 | .dat (.bool b)=>Q (.dat (.bool (!b))) aC
 | _=>False
theorem kX{op}(h:aZ X Y a ea):aZ X Y (.BoolOp op [a] pos) ea:=by
 obtain⟨t,p1,a1⟩:=h.h;exact⟨_,OG p1,a1⟩
theorem oa(ha:aZ X Y a ea)(hb:aZ X Y (.BoolOp .And (b::rest) pos) eb):aZ X Y (.BoolOp .And (a::b::rest) pos) (Hj ea eb):=by
 obtain⟨t,p1,a1⟩:=ha.h;obtain⟨u,p2,a2⟩:=hb.h;refine⟨_,OH p1 p2,λH0 A0 G al H st s env Q R I E q k=>a1 H0 A0 G al H st s env _ _ I E q λx aC bc v H1 e1 I1 d1 q1=>?_⟩;split at q1
 ·rename_i b;rw[aE.gU d1];refine⟨_,rfl,?_⟩
  cases b with
  | true=>exact cT (a2 H0 A0 G bc H1 aC s env _ _ I1 (E.ext e1) (by rw[aaD rfl]at q1;exact q1) (k.go I1 e1))
  | false=>exact dI ((k.go I1 e1).here I1 (.d (.bl _)) (by rw[aaF aai]at q1;exact q1))
 ·exact q1.elim
theorem Hl(ha:aZ X Y a ea)(hb:aZ X Y (.BoolOp .Or (b::rest) pos) eb):aZ X Y (.BoolOp .Or (a::b::rest) pos) (PK ea eb):=by
 obtain⟨t,p1,a1⟩:=ha.h;obtain⟨u,p2,a2⟩:=hb.h;refine⟨_,So p1 p2,λH0 A0 G al H st s env Q R I E q k=>a1 H0 A0 G al H st s env _ _ I E q λx aC bc v H1 e1 I1 d1 q1=>?_⟩;split at q1
 ·rename_i b;rw[aE.gU d1];refine⟨_,rfl,?_⟩
  cases b with
  | false=>exact dI (a2 H0 A0 G bc H1 aC s env _ _ I1 (E.ext e1) (by rw[aaF aai]at q1;exact q1) (k.go I1 e1))
  | true=>exact cT ((k.go I1 e1).here I1 (.d (.bl _)) (by rw[aaD rfl]at q1;exact q1))
 ·exact q1.elim
theorem Lk(ha:aZ X Y a ea):aZ X Y (.UnaryOp .Not a pos) (Hk ea):=by
 obtain⟨t,p1,a1⟩:=ha.h;refine⟨_,OI p1,λH0 A0 G al H st s env Q R I E q k=>a1 H0 A0 G al H st s env _ _ I E q λx aC bc v H1 e1 I1 d1 q1=>?_⟩;split at q1
 ·rw[aE.gU d1];exact⟨_,rfl,(k.go I1 e1).here I1 (.d (.bl _)) q1⟩
 ·exact q1.elim
end
theorem pB{α:Type}{R:V->α->Prop}{vs:List V}{x:α}(h:bR R vs [x]):∃v,vs=[v]/\R v x:=by
 have:=h.1
 match vs,this,h with
 | [v],_,h=>exact⟨v,rfl,h.2 0 v x rfl rfl⟩
theorem Ll{α:Type}{R:V->α->Prop}{vs:List V}{x y:α}(h:bR R vs [x,y]):∃v u,vs=[v,u]/\R v x/\R u y:=by
 have:=h.1
 match vs,this,h with
 | [v,u],_,h=>exact⟨v,u,rfl,h.2 0 v x rfl rfl,h.2 1 u y rfl rfl⟩
section
variable {X:Cx} {Y:YK} {a b c e:Expr} {es:List Expr} {pos p:Pos} {ea eb ec:DX} {K:aH} {J:KF} {x:Str} {id:String} {n:Nat} {d:n9} {r r':List V->Hp->VK->Prop} {o:Vf}
@[reducible] def xl(o:Vf)(d:n9)(env:bt)(st:aF)(Q:DC):Prop:=d env st λxs aC=>o xs aC Q
theorem NN{t:TA}(ho:AB J r o)(h:AA J t n d):AE J (VI r t) (xl o d):=λH0 A0 G al H st s env Q R I E q k=>h H0 A0 G al H st s env _ _ I E q λxs aC bc vs H1 e1 I1 d1 q1=>ho H0 A0 G bc H1 aC vs xs Q R I1 d1 q1.2 (k.go I1 e1)
theorem jd(hc:eh X (.builtin id) r)(ho:AB (kf X Y) r o)(hg:Gl X x)(hm:X.mg x=none)(hv:bootBuiltins x=some (.builtin id))(ha:qh X Y (e::es) n d)(hn:x≠"__name__":=by decide)(hdb:(x == ("__debug__" : Str))=false:=by decide)
  (he:starEach (e::es) X.env=(false,eval e X.env)::starEach es X.env:=by rfl) (hpl:(backTo pos (starEach es X.env)).any (·.1)=false:=by rfl):aZ X Y (.Call (.Name x p) (e::es) [] pos) (xl o d):=by
 obtain⟨t,p1,a1⟩:=ha.h;exact⟨_,gR hc hg hm hv p1 hn hdb he hpl,NN ho a1⟩
theorem og{T:String}(hc:eh X (.type T) r)(ho:AB (kf X Y) r o)(hg:Gl X x)(hm:X.mg x=none)(hv:bootBuiltins x=some (.type T))(ha:qh X Y (e::es) n d)(hn:x≠"__name__":=by decide)(hdb:(x == ("__debug__" : Str))=false:=by decide)
  (he:starEach (e::es) X.env=(false,eval e X.env)::starEach es X.env:=by rfl) (hpl:(backTo pos (starEach es X.env)).any (·.1)=false:=by rfl):aZ X Y (.Call (.Name x p) (e::es) [] pos) (xl o d):=by
 obtain⟨t,p1,a1⟩:=ha.h;exact⟨_,gK hc hg hm hv p1 hn hdb he hpl,NN ho a1⟩
theorem NO{f:Value}(h:eh X f r)(h':eh X f r'):eh X f (λxs H Q=>r xs H Q∨r' xs H Q):=λpins s σ H xs us Q I rv q=>by
 rcases q with q | q
 ·exact h pins s σ H xs us Q I rv q
 ·exact h' pins s σ H xs us Q I rv q
@[reducible] def Hm(xs:List DV)(st:aF)(Q:DC):Prop:=match xs with
 | [.dat (.str z)]=>z.length<=1000000/\Q (.dat (.int z.length)) st
 | [x]=>match kT st x with
  | some ds=>Q (.dat (.int ds.length)) st
  | none=>False
 | _=>False
theorem PL:AB J (λxs H Q=>(∃p ys,xs=[.ref p]/\(dC J H p ys∨dG J H p ys)/\Q (.int ys.length) H)∨∃z,xs=[.str z]/\z.length<=sizeLine/\Q (.int z.length) H) Hm:=λH0 A0 G al H st vs ds Q R I h q k=>by
 unfold Hm at q;split at q
 ·obtain⟨v,rfl,h1⟩:=pB h;rw[aE.cz h1];exact .inr ⟨_,rfl,kS q.1,k.here I (.d (.int _)) q.2⟩
 ·split at q
  ·rename_i ds e;obtain⟨v,rfl,h1⟩:=pB h;obtain⟨p,ys,rfl,g1,g2⟩:=h1.PD I e;exact .inl ⟨p,ys,rfl,g1,k.here I (.d (.int _)) (by rw[g2.len];exact q)⟩
  ·exact q.elim
 ·exact q.elim
theorem aT(hg:Gl X "len")(hm:X.mg "len"=none)(ha:qh X Y [e] n d)(he:starEach [e] X.env=(false,eval e X.env)::starEach [] X.env:=by rfl):aZ X Y (.Call (.Name "len" p) [e] [] pos) (xl Hm d):=jd (NO gp x6) PL hg hm x9 ha (by decide) (by decide) he rfl
@[reducible] def zQ(xs:List DV)(st:aF)(Q:DC):Prop:=match xs with
 | [x]=>match kT st x with
  | some ds=>Q (.dat (.list ds)) st
  | none=>False
 | _=>False
@[reducible] def ve(xs:List DV)(st:aF)(Q:DC):Prop:=match xs with
 | [x]=>match kT st x with
  | some ds=>Q (.ref st.length) (st++[.live ds])
  | none=>False
 | _=>False
theorem Lm:AB J (λxs H Q=>∃p ys,xs=[.ref p]/\(dC J H p ys∨dG J H p ys)/\∀l,H l=none->Q (.ref l) (upd H l (.lst ys))) zQ:=λH0 A0 G al H st vs ds Q R I h q k=>by
 unfold zQ at q;split at q
 ·split at q
  ·rename_i ds e;obtain⟨v,rfl,h1⟩:=pB h;obtain⟨p,ys,rfl,g1,g2⟩:=h1.PD I e;exact⟨p,ys,rfl,g1,λl hl=>k.list I hl g2 q⟩
  ·exact q.elim
 ·exact q.elim
theorem Hn:AB J (λxs H Q=>∃p ys,xs=[.ref p]/\(dC J H p ys∨dG J H p ys)/\∀l,H l=none->Q (.ref l) (upd H l (.lst ys))) ve:=λH0 A0 G al H st vs ds Q R I h q k=>by
 unfold ve at q;split at q
 ·split at q
  ·rename_i ds e;obtain⟨v,rfl,h1⟩:=pB h;obtain⟨p,ys,rfl,g1,g2⟩:=h1.PD I e;exact⟨p,ys,rfl,g1,λl hl=>k.cell I hl g2 q⟩
  ·exact q.elim
 ·exact q.elim
theorem Di(hg:Gl X "list")(hm:X.mg "list"=none)(ha:qh X Y [e] n d)(he:starEach [e] X.env=(false,eval e X.env)::starEach [] X.env:=by rfl):aZ X Y (.Call (.Name "list" p) [e] [] pos) (xl zQ d):=og cw Lm hg hm jv ha (by decide) (by decide) he rfl
theorem Ho(hg:Gl X "list")(hm:X.mg "list"=none)(ha:qh X Y [e] n d)(he:starEach [e] X.env=(false,eval e X.env)::starEach [] X.env:=by rfl):aZ X Y (.Call (.Name "list" p) [e] [] pos) (xl ve d):=og cw Hn hg hm jv ha (by decide) (by decide) he rfl
@[reducible] def vf(xs:List DV)(st:aF)(Q:DC):Prop:=match xs with
 | [x]=>match kT st x with
  | some ds=>Q (.dat (.tuple ds)) st
  | none=>False
 | _=>False
theorem Hq:AB J (λxs H Q=>∃p ys,xs=[.ref p]/\((dC J H p ys/\∀l,H l=none->Q (.ref l) (upd H l (.tup ys)))∨(dG J H p ys/\Q (.ref p) H))) vf:=λH0 A0 G al H st vs ds Q R I h q k=>by
 unfold vf at q;split at q
 ·split at q
  ·rename_i ds e;obtain⟨v,rfl,h1⟩:=pB h;obtain⟨p,ys,rfl,g1,g2⟩:=h1.PD I e;refine⟨p,ys,rfl,?_⟩;rcases g1 with g1 | g1
   ·exact .inl ⟨g1,λl hl=>k.laid I (eL hl) (.d (aE.tup (I.G4 hl) uS (g2.imp λy x z=>z.same (eL hl)))) q⟩
   ·exact .inr ⟨g1,k.here I (.d (aX.tup (I.K7 g1) g2.1 g2.2)) q⟩
  ·exact q.elim
 ·exact q.elim
theorem zR(hg:Gl X "tuple")(hm:X.mg "tuple"=none)(ha:qh X Y [e] n d)(he:starEach [e] X.env=(false,eval e X.env)::starEach [] X.env:=by rfl):aZ X Y (.Call (.Name "tuple" p) [e] [] pos) (xl vf d):=og wc Hq hg hm Gu ha (by decide) (by decide) he rfl
@[reducible] def Hr(xs:List DV)(st:aF)(Q:DC):Prop:=match xs with
 | [.dat (.int i),.dat (.int j)]=>Q (.dat (.int (if j < i then j else i))) st
 | _=>False
@[reducible] def Hs(xs:List DV)(st:aF)(Q:DC):Prop:=match xs with
 | [.dat (.int i),.dat (.int j)]=>Q (.dat (.int (if j > i then j else i))) st
 | [x]=>match gW st x with
  | some ds=>∃ns:List Int,ds=ns.map PyData.int/\0 < ns.length/\∀m,m∈ns->(∀a∈ns,a<=m)->Q (.dat (.int m)) st
  | none=>False
 | _=>False
theorem yn{P:Addr->Prop}{H:Hp}:∀{ys:List V} {ns:List Int},bR (aE K P H) ys (ns.map PyData.int)->ys=ns.map V.int
 | [],[],_=>rfl
 | [],_::_,h=>by have:=h.1;simp at this
 | _::_,[],h=>by have:=h.1;simp at this
 | y::ys,i::ns,h=>by
  have h0:=aE.aW (h.2 0 y (.int i) rfl rfl);have ht:=yn (ys:=ys) (ns:=ns) ⟨by simpa using h.1,λj p q a b=>h.2 (j + 1) p q (by simpa using a) (by simpa using b)⟩;rw[h0,ht];rfl
theorem PM:AB J (λxs H Q=>∃i j,xs=[.int i,.int j]/\Q (.int (if j < i then j else i)) H) Hr:=λH0 A0 G al H st vs ds Q R I h q k=>by
 unfold Hr at q;split at q
 ·obtain⟨v,u,rfl,h1,h2⟩:=Ll h;rw[aE.aW h1,aE.aW h2];exact⟨_,_,rfl,k.here I (.d (.int _)) q⟩
 ·exact q.elim
theorem PN:AB J (λxs H Q=>(∃i j,xs=[.int i,.int j]/\Q (.int (if j > i then j else i)) H)∨Ny J xs H Q) Hs:=λH0 A0 G al H st vs ds Q R I h q k=>by
 unfold Hs at q;split at q
 ·obtain⟨v,u,rfl,h1,h2⟩:=Ll h;rw[aE.aW h1,aE.aW h2];exact .inl ⟨_,_,rfl,k.here I (.d (.int _)) q⟩
 ·split at q
  ·rename_i ds e;obtain⟨ns,rfl,q1,q2⟩:=q;obtain⟨v,rfl,h1⟩:=pB h;obtain⟨p,ys,rfl,g1,g2⟩:=h1.K9 I e;rw[yn g2]at g1;exact .inr ⟨p,ns,rfl,g1,q1,λm hm ha=>k.here I (.d (.int _)) (q2 m hm ha)⟩
  ·exact q.elim
 ·exact q.elim
theorem PQ(hc:X.calm=true)(hg:Gl X "min")(hm:X.mg "min"=none)(ha:qh X Y (e::es) n d)(he:starEach (e::es) X.env=(false,eval e X.env)::starEach es X.env:=by rfl)(hpl:(backTo pos (starEach es X.env)).any (·.1)=false:=by rfl):aZ X Y (.Call (.Name "min" p) (e::es) [] pos) (xl Hr d):=jd (D7 hc) PM hg hm Pa ha (by decide) (by decide) he hpl
theorem PR(hc:X.calm=true)(hg:Gl X "max")(hm:X.mg "max"=none)(ha:qh X Y (e::es) n d)(he:starEach (e::es) X.env=(false,eval e X.env)::starEach es X.env:=by rfl)(hpl:(backTo pos (starEach es X.env)).any (·.1)=false:=by rfl):aZ X Y (.Call (.Name "max" p) (e::es) [] pos) (xl Hs d):=jd (NO (D6 hc) (Eg hc)) PN hg hm O9 ha (by decide) (by decide) he hpl
@[reducible] def Ht(xs:List DV)(st:aF)(Q:DC):Prop:=match xs with
 | [.dat (.int i)]=>Q (.dat (.int i)) st
 | [.dat (.bool b)]=>Q (.dat (.int (if b then 1 else 0))) st
 | _=>False
theorem PU:AB J (λxs H Q=>(∃i,xs=[.int i]/\Q (.int i) H)∨∃k,xs=[.bl k]/\Q (.int (if k then 1 else 0)) H) Ht:=λH0 A0 G al H st vs ds Q R I h q k=>by
 unfold Ht at q;split at q
 ·obtain⟨v,rfl,h1⟩:=pB h;rw[aE.aW h1];exact .inl ⟨_,rfl,k.here I (.d (.int _)) q⟩
 ·obtain⟨v,rfl,h1⟩:=pB h;rw[aE.gU h1];exact .inr ⟨_,rfl,k.here I (.d (.int _)) q⟩
 ·exact q.elim
theorem vg(hg:Gl X "int")(hm:X.mg "int"=none)(ha:qh X Y [e] n d)(he:starEach [e] X.env=(false,eval e X.env)::starEach [] X.env:=by rfl):aZ X Y (.Call (.Name "int" p) [e] [] pos) (xl Ht d):=og D8 PU hg hm Gs ha (by decide) (by decide) he rfl
@[reducible] def Hu(xs:List DV)(st:aF)(Q:DC):Prop:=match xs with
 | [x]=>match gW st x with
  | some ds=>∃ns:List Int,ds=ns.map PyData.int/\Q (.dat (.int ns.sum)) st
  | none=>False
 | _=>False
theorem PV:AB J (NI J) Hu:=λH0 A0 G al H st vs ds Q R I h q k=>by
 unfold Hu at q;split at q
 ·split at q
  ·rename_i ds e;obtain⟨ns,rfl,q1⟩:=q;obtain⟨v,rfl,h1⟩:=pB h;obtain⟨p,ys,rfl,g1,g2⟩:=h1.K9 I e;rw[yn g2]at g1;exact⟨p,ns,rfl,g1,k.here I (.d (.int _)) q1⟩
  ·exact q.elim
 ·exact q.elim
theorem PY(hc:X.calm=true)(hg:Gl X "sum")(hm:X.mg "sum"=none)(ha:qh X Y [e] n d)(he:starEach [e] X.env=(false,eval e X.env)::starEach [] X.env:=by rfl):aZ X Y (.Call (.Name "sum" p) [e] [] pos) (xl Hu d):=jd (EA hc) PV hg hm Pc ha (by decide) (by decide) he rfl
abbrev NP:=List PyData->(PyData->Prop)->Prop
def oH(K:aH)(T:NP):Sp:=λvs H Q _=>∃(P:Addr->Prop) (ds:List PyData),(∀c,P c->∃o,H c=some o/\kJ o)/\bR (aE K P H) vs ds/\T ds λd=>∀v H',aS H H'->aE K P H' v d->Q v H'
def oU(K:aH)(sp:Sp)(T:NP):Prop:=∀(vs:List V) (H:Hp) (Q:VK) (P:Addr->Prop) (ds:List PyData),(∀c,P c->∃o,H c=some o/\kJ o)->bR (aE K P H) vs ds->T ds (λd=>∀v H',aS H H'->aE K P H' v d->Q v H')->sp vs H Q E0
theorem cu{T:NP}:oU K (oH K T) T:=λvs H Q P ds h1 h2 h3=>⟨P,ds,h1,h2,h3⟩
def cU(T:NP):Prop:=∀ds (Q Q':PyData->Prop),(∀d,Q d->Q' d)->T ds Q->T ds Q'
@[reducible] def Dj(T:NP)(xs:List DV)(st:aF)(Q:DC):Prop:=dz xs st λds aC=>T ds λd=>Q (.dat d) aC
theorem Hv{H:Hp}{v:V}{d:PyData}(h:aX K H v d):aE K (λ_=>False) H v d:=aX.same (λc o e=>ba.mpr ⟨λz=>z,e⟩) h
theorem Ln{sp:Sp}{T:NP}(h:oU J sp T)(m:cU T):AB J (λvs H Q=>sp (vs++[]) H Q E0) (Dj T):=λH0 A0 G al H st vs ds Q R I hp q k=>by
 obtain⟨es,aC,E1,I1,F1,q1⟩:=eM I hp q;rw[abb];refine h vs H R (Fb G al aC) es (λc hc=>I1.qB hc) F1 (m _ _ _ (λd hd v H' s r=>?_) q1);exact(k.go I1 E1).laid I1 s (.d r) hd
theorem Dl{sp:Sp}{t:TA}(h:AB J (λvs H Q=>sp (vs++[]) H Q E0) o)(ha:AA J t n d):AE J (zz sp [] E0 t) (xl o d):=λH0 A0 G al H st s env Q R I E q k=>ha H0 A0 G al H st s env _ _ I E q λxs aC bc vs H1 e1 I1 d1 q1=>h H0 A0 G bc H1 aC vs xs Q R I1 d1 q1.2 (k.go I1 e1)
theorem aw{kk:Nat}{ps:List Str}{sp:Sp}{T:NP}(h:bM X.prog X.w X.K X.mg X.base bf x kk ps sp)(hs:oU X.K sp T)(m:cU T)(hr:cX kk X.A)(hg:Gl X x)(ha:qh X Y (e::es) n d)(hdb:(x == ("__debug__" : Str))=false:=by decide)
  (he:starEach (e::es) X.env=(false,eval e X.env)::starEach es X.env:=by rfl) (hpl:(backTo pos (starEach es X.env)).any (·.1)=false:=by rfl):aZ X Y (.Call (.Name x p) (e::es) [] pos) (xl (Dj T) d):=by
 obtain⟨t,p1,a1⟩:=ha.h;exact⟨_,ip h hr hg p1 hdb he hpl,Dl (Ln hs m) a1⟩
end
abbrev rY:=bt->aF->(List PyData->(aF->Prop)->aF->Prop)->Prop
def Yz(J:KF)(H0:Hp)(A0:Addr->Prop)(G:Addr->Prop)(al:List (List Addr))(H:Hp)(st:aF)(Jj:It)(xs:List PyData)(ok:aF->Prop):Prop:=∀(G1:Addr->Prop) (bc:List (List Addr)) (H1:Hp) (aC:aF) (i:Nat),(∀c,G1 c->G c∨H c=none)->Ext al H st bc H1 aC->DI J H0 A0 G1 bc H1 aC->ok aC ->
 (∀d,xs[i]?=some d->Jj.go i H1/\∀x H2,Jj.yld i H1 x H2->aS H1 H2/\aE J (Fb G1 bc aC) H2 x d)/\(xs.length<=i->i<=xs.length->Jj.stop i H1)
def AI(J:KF)(wi:TI)(di:rY):Prop:=∀(H0:Hp) (A0:Addr->Prop) (G:Addr->Prop) (al:List (List Addr)) (H:Hp) (st:aF) (s:St) (env:bt) (Q:List PyData->(aF->Prop)->aF->Prop) (R:It->Hp->Prop),DI J H0 A0 G al H st->jz J (Fb G al st) H al s env->di env st Q ->
 (∀Jj xs ok st' al' H',Ext al H st al' H' st'->DI J H0 A0 G al' H' st'->Yz J H0 A0 G al' H' st' Jj xs ok->Q xs ok st'->R Jj H')->wi s H R
structure JQ(X:Cx)(Y:YK)(tg iter:Expr)(d:rY):Prop where
 h:∃wi,PI X tg iter wi/\AI (kf X Y) wi d
def YA(K:aH)(tl:TE):TI:=λσ H R=>tl σ H λx H1=>∃a,x=.ref a/\(((∃xs,dC K H1 a xs)/\R (Nl K a) H1)∨((∃xs,dG K H1 a xs)/\R (VD K a) H1))
theorem TJ{X:Cx}{tg l:Expr}{tl:TE}(hl:PE X l tl):PI X tg l (YA X.K tl):=by
 intro pins s σ H R I h;refine bU (hl pins s σ H _ I h) λv s1 ⟨x,H1,I1,r1,q1⟩=>?_
 obtain⟨a,e,q⟩:=q1;subst e;cases r1
 have fin:∀b∈[s1.heap.objs.size],qu X pins H1 b:=λb hb=>by
  have e:b=s1.heap.objs.size:=by simpa using hb
  subst e;exact I1.FV (aaj _) (I1.hok.fresh (aaj _))
 rcases q with⟨⟨xs,hq⟩,q⟩ | ⟨⟨xs,hq⟩,q⟩
 ·obtain⟨its,rv,p,hz⟩:=I1.list hq;refine abF p.isList ?_;exact⟨s1.heap.objs.size,[s1.heap.objs.size],_,_,H1,rfl,I1.kept (t':=s1.toks) λb o e=>aab _ e,wN a _,⟨_,aaz _ rfl,rfl,rfl⟩,fin,q⟩
 ·obtain⟨its,rv,p,hz⟩:=I1.tuple hq;refine wpAny_pyIter_tuple (show s1.heap.IsTuple a its.toArray from p) ?_;exact⟨s1.heap.objs.size,[s1.heap.objs.size],_,_,H1,rfl,I1.kept (t':=s1.toks) λb o e=>aab _ e,Bs a _,⟨_,aaz _ rfl,rfl,rfl⟩,fin,q⟩
def TK(K:aH)(ta:TA):TI:=λσ H R=>ta σ H λvs H1=>∃q1 q2 l1 l2 xs ys,vs=[.ref l1,.ref l2]/\w8 q1 K H1 l1 xs/\w8 q2 K H1 l2 ys/\R (Yr q1 q2 K l1 l2 xs ys) H1
theorem Lo{X:Cx}{elts:List Expr}{kx}{tpos:Pos}{a b:Expr}{ta:TA}{p pos:Pos}(hg:Gl X "zip")(hm:X.mg "zip"=none)(ha:PA X [a,b] ta)(hs:starEach [a,b] X.env=[(false,eval a X.env),(false,eval b X.env)]:=by rfl)(FX:starEach [b] X.env=[(false,eval b X.env)]:=by rfl):
  PI X (.Tuple elts kx tpos) (.Call (.Name "zip" p) [a,b] [] pos) (TK X.K ta):=by
 intro pins s σ H R I h;refine Call_ (kL I hg hm Pd (aaZ (bU (ha pos pins s σ H _ I h) λus s1 ⟨vs,H1,I1,r1,q1⟩=>?_) (by rw[hs,FX]) (by rw[FX];rfl)));obtain⟨w1,w2,l1,l2,xs,ys,rfl,s1',s2',q⟩:=q1;obtain⟨u1,u2,rfl,Pk,V0⟩:=vals2 r1;cases Pk;cases V0;obtain⟨Th,r1,p1⟩:=s1'.heap I1;obtain⟨vs1,r2,p2⟩:=s2'.heap I1;have n1:=p1.lt;have n2:=p2.lt;refine Ei p1 p2 λh' hz hTI hTO h1 h2 kk=>?_
 refine wpAny_pyIter_zip hz ?_;refine⟨s1.heap.objs.size + 4,[s1.heap.objs.size + 4,s1.heap.objs.size + 2,s1.heap.objs.size + 3,s1.heap.objs.size,s1.heap.objs.size + 1],_,_,H1,rfl,I1.kept (t':=s1.toks) kk,GK xs ys ⟨?_,?_,?_,?_,?_,?_,?_,?_,?_,?_,?_,?_,?_,?_,?_,?_,?_,?_⟩,⟨hz,hTI,⟨_,_,hTO⟩,h1,h2⟩,?_,q⟩
 all_goals first | exact aav (Nat.add_lt_add_left (by decide) _) | exact abk (Nat.add_lt_add_left (by decide) _) | exact aav (acN (by decide)) | exact abk (acN (by decide)) | exact aav (aap n1 (Nat.le_add_right _ _)) | exact aav (aap n2 (Nat.le_add_right _ _)) | exact aav n1 | exact aav n2 | skip
 intro c hb
 have hb':s1.heap.objs.size<=c:=by
  simp at hb;rcases hb with e | e | e | e | e<;>(rw[e];first | exact Nat.le_refl _ | exact Nat.le_add_right _ _)
 exact I1.FV hb' (I1.hok.fresh hb')
section
variable {X:Cx} {Y:YK} {tg a b c e:Expr} {es:List Expr} {pos p:Pos} {ea eb ec:DX} {K:aH} {J:KF} {n:Nat} {d:n9}
theorem aE.seq{P:Addr->Prop}{H:Hp}{v:V}{d:PyData}{ds:List PyData}(h:aE K P H v d)(e:d=.list ds∨d=.tuple ds):∃q a ys,v=.ref a/\w8 q K (cutH P H) a ys/\w8 q K H a ys/\bR (aE K P H) ys ds:=by
 rcases e with rfl | rfl
 ·obtain⟨a,ys,h1,h2,h3,h4⟩:=aE.cN h;exact⟨true,a,ys,h1,h3,h2,h4⟩
 ·obtain⟨a,ys,h1,h2,h3,h4⟩:=aE.bL h;exact⟨false,a,ys,h1,h3,h2,h4⟩
theorem w8.cut{P:Addr->Prop}{H:Hp}{q:Bool}{a:Addr}{ys:List V}(h:w8 q K (cutH P H) a ys):w8 q K H a ys:=by
 cases q with
 | true=>exact cn.seq h
 | false=>exact cn.tup h
theorem w8.same{H H':Hp}{q:Bool}{a:Addr}{ys:List V}(h:w8 q K H a ys)(s:aS H H'):w8 q K H' a ys:=by
 cases q with
 | true=>exact s.seq h
 | false=>exact s.tup h
@[reducible] def Lp(ea:DX)(env:bt)(st:aF)(Q:List PyData->(aF->Prop)->aF->Prop):Prop:=ea env st λx aC=>oY x aC λd bp=>match d with
 | .list ds=>Q ds (λ_=>True) bp
 | .tuple ds=>Q ds (λ_=>True) bp
 | _=>False
theorem PZ{t:TE}(h:AE J t ea):AI J (YA J t) (Lp ea):=λH0 A0 G al H st s env Q R I E q k=>h H0 A0 G al H st s env _ _ I E q λx aC bc v H1 e1 I1 d1 q1=>by
 obtain⟨d,bp,E2,I2,F2,q2⟩:=rV I1 d1 q1
 obtain⟨ds,ed,q2⟩:∃ds,(d=.list ds∨d=.tuple ds)/\Q ds (λ_=>True) bp:=by
  split at q2
  ·exact⟨_,.inl rfl,q2⟩
  ·exact⟨_,.inr rfl,q2⟩
  ·exact q2.elim
 obtain⟨w,a,ys,rfl,g1,g2,g3⟩:=F2.seq ed;refine⟨a,rfl,?_⟩;have rW:=e1.trans I1 E2
 cases w with
 | true =>
  refine .inl ⟨⟨ys,g2⟩,k (Nl J a) ds _ bp bc H1 rW I2 (λG1 Sb H3 iS i hG e3 I3 _=>⟨λd hd=>?_,λh1 _=>?_⟩) q2⟩
  ·have s3:=(dn hG e3).seq g1;obtain⟨y,hy,_⟩:=g3.at hd;refine⟨⟨ys,y,cn.seq s3,hy⟩,λx H4 ⟨e4,z⟩=>?_⟩;subst e4;have:=z ys (cn.seq s3);exact⟨.refl _,(g3.2 i x d this hd).jc hG e3⟩
  ·exact⟨ys,cn.seq ((dn hG e3).seq g1),by rw[g3.1];exact h1⟩
 | false =>
  refine .inr ⟨⟨ys,g2⟩,k (VD J a) ds _ bp bc H1 rW I2 (λG1 Sb H3 iS i hG e3 I3 _=>⟨λd hd=>?_,λh1 _=>?_⟩) q2⟩
  ·have s3:=(dn hG e3).tup g1;obtain⟨y,hy,_⟩:=g3.at hd;refine⟨⟨ys,y,cn.tup s3,hy⟩,λx H4 ⟨e4,z⟩=>?_⟩;subst e4;have:=z ys (cn.tup s3);exact⟨.refl _,(g3.2 i x d this hd).jc hG e3⟩
  ·exact⟨ys,cn.tup ((dn hG e3).tup g1),by rw[g3.1];exact h1⟩
theorem rZ(h:aZ X Y a ea):JQ X Y tg a (Lp ea):=by
 obtain⟨t,p1,a1⟩:=h.h;exact⟨_,TJ p1,PZ a1⟩
def yo(lo:Int)(m:Nat):List PyData:=(List.range m).map λ(k:Nat)=>PyData.int (lo + (k:Int))
theorem c9{lo:Int}{m:Nat}:(yo lo m).length=m:=by unfold yo;rw[List.length_map,List.length_range]
theorem jD{lo:Int}{m i:Nat}{d:PyData}(h:(yo lo m)[i]?=some d):i < m/\d=.int (lo + (i:Int)):=by
 have hi:=(bz h).1;rw[c9]at hi;unfold yo at h;rw[List.getElem?_map,List.getElem?_range hi]at h;cases h;exact⟨hi,rfl⟩
@[reducible] def yp(d:n9)(env:bt)(st:aF)(Q:List PyData->(aF->Prop)->aF->Prop):Prop:=d env st λxs aC=>match xs with
 | [.dat (.int j)]=>(-(2 ^ 62)<=j/\j < 2 ^ 62)/\Q (yo 0 j.toNat) (λ_=>True) aC
 | _=>False
@[reducible] def yq(d:n9)(env:bt)(st:aF)(Q:List PyData->(aF->Prop)->aF->Prop):Prop:=d env st λxs aC=>match xs with
 | [.dat (.int i),.dat (.int j)]=>(-(2 ^ 62)<=i/\i < 2 ^ 62/\-(2 ^ 62)<=j/\j < 2 ^ 62)/\Q (yo i (j - i).toNat) (λ_=>True) aC
 | _=>False
theorem Dm{H0:Hp}{A0:Addr->Prop}{G:Addr->Prop}{al:List (List Addr)}{H:Hp}{st:aF}{lo:Int}{m:Nat}{ok:aF->Prop}:Yz J H0 A0 G al H st (Nn lo m) (yo lo m) ok:=λG1 bc H1 aC i hG e1 I1 _=>by
 refine⟨λd hd=>?_,λh1 _=>by rw[c9]at h1;exact h1⟩;obtain⟨hi,rfl⟩:=jD hd;refine⟨hi,λx H2 ⟨e,z⟩=>?_⟩;subst e;subst z;exact⟨.refl _,.int _⟩
theorem je(hg:Gl X "range")(hm:X.mg "range"=none)(ha:qh X Y [a] n d)(hs:starEach [a] X.env=[(false,eval a X.env)]:=by rfl):JQ X Y tg (.Call (.Name "range" p) [a] [] pos) (yp d):=by
 obtain⟨t,p1,a1⟩:=ha.h;refine⟨_,wO hg hm p1 hs,λH0 A0 G al H st s env Q R I E q k=>a1 H0 A0 G al H st s env _ _ I E q λxs aC bc vs H1 e1 I1 d1 q1=>?_⟩;have q1:=q1.2;split at q1
 ·obtain⟨v,rfl,h1⟩:=pB d1;rw[aE.aW h1];exact⟨_,rfl,q1.1.1,q1.1.2,k _ _ _ aC bc H1 e1 I1 Dm q1.2⟩
 ·exact q1.elim
theorem xm(hg:Gl X "range")(hm:X.mg "range"=none)(ha:qh X Y [a,b] n d)(hs:starEach [a,b] X.env=[(false,eval a X.env),(false,eval b X.env)]:=by rfl)(FX:starEach [b] X.env=[(false,eval b X.env)]:=by rfl):JQ X Y tg (.Call (.Name "range" p) [a,b] [] pos) (yq d):=by
 obtain⟨t,p1,a1⟩:=ha.h;refine⟨_,D3 hg hm p1 hs FX,λH0 A0 G al H st s env Q R I E q k=>a1 H0 A0 G al H st s env _ _ I E q λxs aC bc vs H1 e1 I1 d1 q1=>?_⟩;have q1:=q1.2;split at q1
 ·obtain⟨v,u,rfl,h1,h2⟩:=Ll d1;rw[aE.aW h1,aE.aW h2];exact⟨_,_,rfl,q1.1,k _ _ _ aC bc H1 e1 I1 Dm q1.2⟩
 ·exact q1.elim
def vh(xs ys:List PyData):List PyData:=(xs.zip ys).map λp=>PyData.tuple [p.1,p.2]
@[reducible] def Hw:PyData->Option (List PyData)
 | .list ds=>some ds
 | .tuple ds=>some ds
 | _=>none
theorem Dn{d:PyData}{ds:List PyData}(h:Hw d=some ds):d=.list ds∨d=.tuple ds:=by
 cases d with
 | list x=>cases h;exact .inl rfl
 | tuple x=>cases h;exact .inr rfl
 | _=>cases h
@[reducible] def Hx(d:n9)(env:bt)(st:aF)(Q:List PyData->(aF->Prop)->aF->Prop):Prop:=d env st λxs aC=>dz xs aC λds bp=>match ds with
 | [x,y]=>match Hw x,Hw y with
  | some xs,some ys=>Q (vh xs ys) (λ_=>True) bp
  | _,_=>False
 | _=>False
theorem Hy{elts:List Expr}{kx}{tpos:Pos}(hg:Gl X "zip")(hm:X.mg "zip"=none)(ha:qh X Y [a,b] n d)(hs:starEach [a,b] X.env=[(false,eval a X.env),(false,eval b X.env)]:=by rfl)(FX:starEach [b] X.env=[(false,eval b X.env)]:=by rfl):JQ X Y (.Tuple elts kx tpos) (.Call (.Name "zip" p) [a,b] [] pos) (Hx d):=by
 obtain⟨t,p1,a1⟩:=ha.h;refine⟨_,Lo hg hm p1 hs FX,λH0 A0 G al H st s env Q R I E q k=>a1 H0 A0 G al H st s env _ _ I E q λxs aC bc vs H1 e1 I1 d1 q1=>?_⟩;obtain⟨ds,bp,E2,I2,F2,q2⟩:=eM I1 d1 q1.2;have rW:=e1.trans I1 E2;split at q2
 ·split at q2
  ·rename_i us ws c1 c2;obtain⟨v,u,rfl,h1,h2⟩:=Ll F2;obtain⟨w1,l1,ys,rfl,f1,f2,f3⟩:=h1.seq (Dn c1);obtain⟨w2,l2,zs,rfl,g1,g2,g3⟩:=h2.seq (Dn c2);refine⟨w1,w2,l1,l2,ys,zs,rfl,f2,g2,k _ _ _ bp bc H1 rW I2 (λG1 Sb H3 iS i hG e3 I3 _=>⟨λd hd=>?_,λh1 _=>?_⟩) q2⟩
   ·have s1:=(w8.same f1 (dn hG e3)).cut;have s2:=(w8.same g1 (dn hG e3)).cut;unfold vh at hd;rw[List.getElem?_map]at hd
    cases q:(us.zip ws)[i]? with
    | none=>rw[q]at hd;cases hd
    | some pr =>
     rw[q]at hd;cases hd;rw[List.getElem?_zip_eq_some]at q;have l1':=(bz q.1).1;have l2':=(bz q.2).1;refine⟨⟨by rw[f3.1];exact l1',by rw[g3.1];exact l2',s1,s2⟩,λx H4 ⟨T,y,z,nT,ex,eH,hy,hz⟩=>?_⟩;subst ex;subst eH;have sm:=eL (o:=.tup [y,z]) nT;refine⟨sm,aE.tup (I3.G4 nT) uS (.cons ?_ (.cons ?_ .nil))⟩
     ·exact((f3.2 i y _ hy q.1).jc hG e3).same sm
     ·exact((g3.2 i z _ hz q.2).jc hG e3).same sm
   ·unfold vh at h1;rw[List.length_map,List.length_zip]at h1;refine⟨?_,(w8.same f1 (dn hG e3)).cut,(w8.same g1 (dn hG e3)).cut⟩;rw[f3.1,g3.1];omega
  ·exact q2.elim
 ·exact q2.elim
def zS(xs:List PyData):List PyData:=(List.range xs.length).zipWith (λ(i:Nat) x=>PyData.tuple [.int (i:Int),x]) xs
@[reducible] def BQ(d:n9)(env:bt)(st:aF)(Q:List PyData->(aF->Prop)->aF->Prop):Prop:=d env st λxs aC=>dz xs aC λds bp=>match ds with
 | [.list xs]=>Q (zS xs) (λ_=>True) bp
 | _=>False
theorem oh{xs:List PyData}:(zS xs).length=xs.length:=by unfold zS;simp
theorem vj{xs:List PyData}{i:Nat}{d:PyData}(h:(zS xs)[i]?=some d):∃x,xs[i]?=some x/\d=.tuple [.int (i:Int),x]:=by
 have hi:=(bz h).1;rw[oh]at hi;refine⟨xs[i],cW hi,?_⟩;unfold zS at h;rw[List.getElem?_zipWith,List.getElem?_range hi,cW hi]at h;cases h;rfl
theorem Dp{elts:List Expr}{kx}{tpos:Pos}(hg:Gl X "enumerate")(hm:X.mg "enumerate"=none)(ha:qh X Y [a] n d)(hs:starEach [a] X.env=[(false,eval a X.env)]:=by rfl):JQ X Y (.Tuple elts kx tpos) (.Call (.Name "enumerate" p) [a] [] pos) (BQ d):=by
 obtain⟨t,p1,a1⟩:=ha.h;refine⟨_,KR hg hm p1 hs,λH0 A0 G al H st s env Q R I E q k=>a1 H0 A0 G al H st s env _ _ I E q λxs aC bc vs H1 e1 I1 d1 q1=>?_⟩;obtain⟨ds,bp,E2,I2,F2,q2⟩:=eM I1 d1 q1.2;have rW:=e1.trans I1 E2;split at q2
 ·rename_i us;obtain⟨v,rfl,h1⟩:=pB F2;obtain⟨l,ys,rfl,f2,f1,f3⟩:=aE.cN h1;refine⟨l,ys,rfl,f2,k _ _ _ bp bc H1 rW I2 (λG1 Sb H3 iS i hG e3 I3 _=>⟨λd hd=>?_,λh1 h2=>?_⟩) q2⟩
  ·have s1:=cn.seq ((dn hG e3).seq f1);obtain⟨x,hx,rfl⟩:=vj hd;have hi:=(bz hx).1;refine⟨⟨by rw[f3.1];exact hi,s1⟩,λw H4 ⟨T,y,nT,ex,eH,hy⟩=>?_⟩;subst ex;subst eH;have sm:=eL (o:=.tup [.int (i:Int),y]) nT;exact⟨sm,aE.tup (I3.G4 nT) uS (.cons (.int _) (.cons (((f3.2 i y _ hy hx).jc hG e3).same sm) .nil))⟩
  ·rw[oh]at h1;exact⟨by rw[f3.1];exact h1,cn.seq ((dn hG e3).seq f1)⟩
 ·exact q2.elim
abbrev sR:=DV->bt->aF->(bt->aF->Prop)->Prop
abbrev zT:=List PyData->bt->aF->(bt->aF->Prop)->Prop
def NQ(J:KF)(H0:Hp)(A0:Addr->Prop)(G:Addr->Prop)(al:List (List Addr))(H:Hp)(st:aF)(Q:bt->aF->Prop)(R:St->Hp->Prop):Prop:=∀env' st' al' s' H',Ext al H st al' H' st'->DI J H0 A0 G al' H' st'->jz J (Fb G al' st') H' al' s' env'->Q env' st'->R s' H'
theorem NQ.go{H0:Hp}{A0:Addr->Prop}{G:Addr->Prop}{al bc:List (List Addr)}{H H1:Hp}{st aC:aF}{Q:bt->aF->Prop}{R:St->Hp->Prop}(k:NQ J H0 A0 G al H st Q R)(I:DI J H0 A0 G bc H1 aC)(e:Ext al H st bc H1 aC):NQ J H0 A0 G bc H1 aC Q R:=λdv st' al' s' H' e' I' h q=>k dv st' al' s' H' (e.trans I e') I' h q
def AG(J:KF)(g:TG)(dg:sR):Prop:=∀(H0:Hp) (A0:Addr->Prop) (G:Addr->Prop) (al:List (List Addr)) (H:Hp) (st:aF) (s:St) (env:bt) (v:V) (dv:DV) (Q:bt->aF->Prop) (R:St->Hp->Prop),DI J H0 A0 G al H st->jz J (Fb G al st) H al s env->fS J (Fb G al st) H al v dv->dg dv env st Q->NQ J H0 A0 G al H st Q R->g v s H R
def TL(J:KF)(g:D1)(dg:zT):Prop:=∀(H0:Hp) (A0:Addr->Prop) (G:Addr->Prop) (al:List (List Addr)) (H:Hp) (st:aF) (s:St) (env:bt) (vs:List V) (ds:List PyData) (Q:bt->aF->Prop) (R:St->Hp->Prop),DI J H0 A0 G al H st->jz J (Fb G al st) H al s env->bR (aE J (Fb G al st) H) vs ds->dg ds env st Q->NQ J H0 A0 G al H st Q R->g vs s H R
structure Sd(X:Cx)(Y:YK)(tg:Expr)(d:sR):Prop where
 h:∃g,PG X tg g/\AG (kf X Y) g d
structure Lq(X:Cx)(Y:YK)(tg:List Expr)(d:zT):Prop where
 h:∃g,Sr X tg g/\TL (kf X Y) g d
@[reducible] def gN(i:Nat)(dv:DV)(env:bt)(st:aF)(Q:bt->aF->Prop):Prop:=Q (env.set i (some dv)) st
@[reducible] def xn(ds:List PyData)(env:bt)(st:aF)(Q:bt->aF->Prop):Prop:=match ds with
 | []=>Q env st
 | _=>False
@[reducible] def vk(g:sR)(r:zT)(ds:List PyData)(env:bt)(st:aF)(Q:bt->aF->Prop):Prop:=match ds with
 | d::ds=>g (.dat d) env st λenv' st'=>r ds env' st' Q
 | []=>False
@[reducible] def gT(n:Nat)(r:zT)(dv:DV)(env:bt)(st:aF)(Q:bt->aF->Prop):Prop:=match dv with
 | .dat (.tuple ds)=>ds.length=n/\r ds env st Q
 | _=>False
theorem qF{i:Nat}:AG J (gc i) (gN i):=λH0 A0 G al H st s env v dv Q R I E h q k=>k _ _ al _ H .refl I (E.set h i) q
theorem bZ{i:Nat}{x:Str}(hN:X.N.Nodup)(hi:X.N[i]?=some x)(hx:Loc X.env.scope x)(hf:X.fn x=true∨X.env.scope.names.lookup x=some .local:=by first | exact .inl rfl | exact .inr rfl | assumption):Sd X Y (.Name x pos) (gN i):=⟨_,bY hN hi hx hf,qF⟩
theorem qG:Lq X Y [] xn:=⟨_,qt,λH0 A0 G al H st s env vs ds Q R I E h q k=>by
 unfold xn at q;split at q
 ·have:=h.1
  cases vs with
  | nil=>exact⟨rfl,k _ _ al _ H .refl I E q⟩
  | cons v r=>simp at this
 ·exact q.elim⟩
theorem gY{g:TG}{u:D1}{dg:sR}{r:zT}(a1:AG J g dg)(a2:TL J u r):TL J (FQ g u) (vk dg r):=λH0 A0 G al H st s env vs ds Q R I E h q k=>by
 unfold vk at q;split at q
 ·rename_i d ds';have:=h.1
  cases vs with
  | nil=>simp at this
  | cons v vs' =>
   have h':bR (aE J (Fb G al st) H) vs' ds':=⟨by simpa using this,λi p q a b=>h.2 (i + 1) p q (by simpa using a) (by simpa using b)⟩;refine⟨v,vs',rfl,a1 H0 A0 G al H st s env v (.dat d) _ _ I E (.d (h.2 0 v d rfl rfl)) q λenv' st' al' s' H' e' I' E' q'=>?_⟩;exact a2 H0 A0 G al' H' st' s' env' vs' ds' Q R I' E' (h'.imp λy x z=>z.ext e') q' (k.go I' e')
 ·exact q.elim
theorem dM{g:sR}{r:zT}(h1:Sd X Y e g)(h2:Lq X Y es r)(hs:(assignEach (e::es) X.env).map (·.2)=assign e X.env::(assignEach es X.env).map (·.2):=by rfl):Lq X Y (e::es) (vk g r):=by
 obtain⟨t,p1,a1⟩:=h1.h;obtain⟨u,p2,a2⟩:=h2.h;exact⟨_,eG p1 p2 hs,gY a1 a2⟩
theorem Lr{m:Nat}{u:D1}{r:zT}(a1:TL J u r):AG J (Kh J m u) (gT m r):=λH0 A0 G al H st s env v dv Q R I E h q k=>by
 unfold gT at q;split at q
 ·obtain⟨a,ys,rfl,g1,_,g2⟩:=aE.bL h;exact⟨a,ys,rfl,g1,by rw[g2.1];exact q.1,a1 H0 A0 G al H st s env ys _ Q R I E g2 q.2 k⟩
 ·exact q.elim
theorem vm{kx m:Nat}{r:zT}(hc:X.calm=true)(h:Lq X Y es r)(hn:(assignEach es X.env).length=m:=by rfl)(hst:(assignEach es X.env).findIdx? (·.1)=none:=by rfl):Sd X Y (.Tuple es kx pos) (gT m r):=by
 obtain⟨u,p1,a1⟩:=h.h;exact⟨_,uG hc p1 hn hst,Lr a1⟩
@[reducible] def gS(eo ei:DX)(dv:DV)(env:bt)(st:aF)(Q:bt->aF->Prop):Prop:=eo env st λo aC=>ei env aC λi bp=>match o,i with
 | .ref k,.dat (.int j)=>oY dv bp λd iS=>match iS[k]? with
  | some (.live ds)=>∃m,FC ds.length j=some m/\Q env (iS.set k (.live (ds.set m d)))
  | _=>False
 | _,_=>False
theorem We{to ti:TE}{eo ei:DX}(h1:AE J to eo)(h2:AE J ti ei):AG J (Su to ti Nr) (gS eo ei):=λH0 A0 G al H st s env v dv Q R I E h q k=>by
 refine h1 H0 A0 G al H st s env _ _ I E q λo aC bc vo H1 e1 I1 d1 q1=>?_
 refine h2 H0 A0 G bc H1 aC s env _ _ I1 (E.ext e1) q1 λi bp bW vi H2 e2 I2 d2 q2=>?_
 have rW:=e1.trans I1 e2;split at q2
 ·rename_i kk j;obtain⟨d,iS,E3,I3,F3,q3⟩:=rV I2 (h.ext rW) q2;split at q3
  ·rename_i ds hs;obtain⟨m,qm,q4⟩:=q3;obtain⟨a,r0,ha,rfl⟩:=(d1.ext e2).ext E3;obtain⟨a',ys,e0,g1,g2⟩:=I3.cel kk _ _ ha hs;cases e0;rw[aE.aW d2];have Wg:=rW.trans I2 E3;obtain⟨E4,I4⟩:=I3.put ha hs (g2.set F3 m);refine⟨a,ys,j,m,rfl,rfl,g1,by rw[g2.1];exact qm,?_⟩;have TM:=Wg.trans I3 E4;exact k _ _ _ _ _ TM I4 (E.ext TM) q4
  ·exact q3.elim
 ·exact q2.elim
theorem yr{o i:Expr}{eo ei:DX}(h1:aZ X Y o eo)(h2:aZ X Y i ei)(ha:∀v,assign (.Subscript o i pos) X.env v=(do
   let ov ← holding [v] (eval o X.env)
   let iv ← holding [v,ov] (eval i X.env)
   standAt pos
   holding [v,ov,iv] (setItem ov iv v)
   release [v,ov,iv] []):=by intro _;rfl):Sd X Y (.Subscript o i pos) (gS eo ei):=by
 obtain⟨t,p1,a1⟩:=h1.h;obtain⟨u,p2,a2⟩:=h2.h;exact⟨_,FR p1 p2 set_list ha,We a1 a2⟩
end
def TN(J:KF)(e:DX):TE:=λs H R=>∃(H0:Hp) (A0:Addr->Prop) (G:Addr->Prop) (al:List (List Addr)) (st:aF) (env:bt) (Q:DC),DI J H0 A0 G al H st/\jz J (Fb G al st) H al s env/\e env st Q/\Kn J H0 A0 G al H st Q R
def Hz(J:KF)(e:DT):TT:=λs H R=>∃(H0:Hp) (A0:Addr->Prop) (G:Addr->Prop) (al:List (List Addr)) (st:aF) (env:bt) (Q:Bool->aF->Prop),DI J H0 A0 G al H st/\jz J (Fb G al st) H al s env/\e env st Q/\Tu J H0 A0 G al H st Q R
theorem aZ.pe{X:Cx}{Y:YK}{e:Expr}{d:DX}(h:aZ X Y e d):PE X e (TN (kf X Y) d):=by
 obtain⟨t,p,a⟩:=h.h;intro pins s σ H Q I ⟨H0,A0,G,al,st,env,Q',I',E,q,k⟩;exact p pins s σ H Q I (a H0 A0 G al H st σ env Q' Q I' E q k)
structure TQ(X:Cx)(Y:YK)(ifs:List Expr)(d:DT):Prop where
 h:S0 X ifs (Hz (kf X Y) d)
@[reducible] def HA(_:bt)(st:aF)(Q:Bool->aF->Prop):Prop:=Q true st
theorem kY{X:Cx}:TQ X Y [] HA:=⟨λpins s σ H Q I ⟨H0,A0,G,al,st,env,Q',I',E,q,k⟩=>yb pins s σ H Q I (k true st al H .refl I' q)⟩
def GB(own:Nat)(g:TG):Prop:=∀v s H R R',(∀(s2:St) (H2:Hp),s2.drop own=s.drop own->R s2 H2->R' s2 H2)->g v s H R->g v s H R'
def Vi(own:Nat)(g:D1):Prop:=∀v s H R R',(∀(s2:St) (H2:Hp),s2.drop own=s.drop own->R s2 H2->R' s2 H2)->g v s H R->g v s H R'
theorem vn{own i:Nat}(h:i < own):GB own (gc i):=λv s H R R' f q=>f _ _ (by rw[List.drop_set_of_lt h]) q
theorem yt{own:Nat}:Vi own OL:=λv s H R R' f q=>⟨q.1,f _ _ rfl q.2⟩
theorem jf{own:Nat}{g:TG}{u:D1}(h1:GB own g)(h2:Vi own u):Vi own (FQ g u):=λv s H R R' f q=>by
 obtain⟨x,r,e,q⟩:=q;exact⟨x,r,e,h1 _ _ _ _ _ (λs2 H2 e2 q2=>h2 _ _ _ _ _ (λs3 H3 e3 q3=>f _ _ (e3.trans e2) q3) q2) q⟩
theorem P1{own m:Nat}{K:aH}{u:D1}(h:Vi own u):GB own (Kh K m u):=λv s H R R' f q=>by
 obtain⟨a,xs,e1,e2,e3,q⟩:=q;exact⟨a,xs,e1,e2,e3,h _ _ _ _ _ f q⟩
@[reducible] def zU(own:Nat)(ix:List Nat)(env:bt):bt:=List.replicate own none++ix.map λi=>(env[i]?).getD none
def Vj(fin:List PyData->aF->DC->Prop)(dg:sR)(dt:DT)(de:DX)(xs:List PyData)(ok:aF->Prop)(env:bt)(aC:aF)(Q:DC):Prop:=(ok aC/\xs.length<=1000000)/\∃I:Nat->List PyData->Prop,I 0 [] /\
 (∀i ys d,I i ys->xs[i]?=some d->dg (.dat d) env aC λgq bp=>bp=aC/\dt gq aC λb iS=>iS=aC/\if b=true then de gq aC λy uQ=>oY y uQ λdy Bv=>Bv=aC/\I (i + 1) (ys++[dy])else I (i + 1) ys)/\∀ys,I xs.length ys->fin ys aC Q
@[reducible] def EE(fin:List PyData->aF->DC->Prop)(own:Nat)(ix:List Nat)(di:rY)(dg:sR)(dt:DT)(de:DX)(env:bt)(st:aF)(Q:DC):Prop:=di env st λxs ok aC=>Vj fin dg dt de xs ok (zU own ix env) aC Q
theorem zV{fin:List PyData->aF->DC->Prop}{dg:sR}{dt:DT}{de:DX}{xs:List PyData}{env:bt}{aC:aF}{Q:DC}(I:Nat->List PyData->Prop)(hl:xs.length<=1000000)(h0:I 0 [])
  (hs:∀i ys d,xs[i]?=some d->I i ys->dg (.dat d) env aC λgq bp=>bp=aC/\dt gq aC λb iS=>iS=aC/\if b=true then de gq aC λy uQ=>oY y uQ λdy Bv=>Bv=aC/\I (i + 1) (ys++[dy])else I (i + 1) ys) (hd:∀ys,I xs.length ys->fin ys aC Q):Vj fin dg dt de xs (λ_=>True) env aC Q:=⟨⟨trivial,hl⟩,I,h0,λi ys d a b=>hs i ys d b a,hd⟩
@[reducible] def Ls:List PyData->aF->DC->Prop:=λys st Q=>Q (.dat (.list ys)) st
@[reducible] def P2:List PyData->aF->DC->Prop:=λys st Q=>Q (.ref st.length) (st++[.live ys])
theorem jz.oG{K:aH}{P:Addr->Prop}{H:Hp}{al:List (List Addr)}{s:St}{env:bt}(h:jz K P H al s env)(own:Nat)(ix:List Nat):jz K P H al (eJ own ix s) (zU own ix env):=by
 refine⟨by simp[eJ],λi dv hi=>?_⟩;by_cases l:i < own
 ·rw[List.getElem?_append_left (by simpa using l),List.getElem?_replicate,if_pos l]at hi;cases hi
 ·rw[List.getElem?_append_right (by simp;omega),List.length_replicate,List.getElem?_map]at hi
  cases q:ix[i - own]? with
  | none=>rw[q]at hi;cases hi
  | some j =>
   rw[q]at hi;have hi:some ((env[j]?).getD none)=some (some dv):=hi
   have e:env[j]?=some (some dv):=by
    cases w:env[j]? with
    | none=>rw[w]at hi;cases hi
    | some u=>rw[w]at hi;exact hi
   obtain⟨v,h1,h2⟩:=h.2 j dv e;refine⟨v,?_,h2⟩;unfold eJ;rw[List.getElem?_append_right (by simp;omega),List.length_replicate,List.getElem?_map,q];show some ((s[j]?).getD none)=_;rw[h1];rfl
theorem DI.HB{J:KF}{H0:Hp}{A0:Addr->Prop}{G:Addr->Prop}{al:List (List Addr)}{H:Hp}{st:aF}(I:DI J H0 A0 G al H st){D:Addr}{ys:List V}(h:H D=none):Ext al H st al (upd H D (.lst ys)) st/\DI J H0 A0 (λc=>G c∨c=D) al (upd H D (.lst ys)) st:=by
 have E:Ext al H st al (upd H D (.lst ys)) st:=.new h
 have g:∀c,(G c∨c=D)->G c∨H c=none:=λc hc=>by
  rcases hc with z | z
  ·exact .inl z
  ·rw[z];exact .inr h
 have keep:∀c o,H c=some o->upd H D (.lst ys) c=some o:=λc o e=>by rw[uN (nN e h)];exact e
 have I1:=I.new (o:=.lst ys) h;refine⟨E,I.len,I.nd,I1.ok,λk a c h1 h2=>(I.cel k a c h1 h2).jc g E (λc hc=>I.qB hc) λ_ b _ o q=>keep _ _ q,I1.fr,I.nw,λa ha hc=>?_,λc hc=>?_,J.y.up _ _ _ _ (λc hc=>.inl hc) I.lk⟩
 ·rcases hc with z | z
  ·exact I.gd a ha z
  ·obtain⟨o,e⟩:=I.ok a ha;rw[z,h]at e;cases e
 ·rcases hc with z | z
  ·exact I1.gs c z
  ·rw[z];exact⟨_,uS,.inl ⟨_,rfl⟩⟩
theorem DI.grow{J:KF}{H0:Hp}{A0:Addr->Prop}{G:Addr->Prop}{al:List (List Addr)}{H:Hp}{st:aF}{D:Addr}{ys zs:List V}(I:DI J H0 A0 (λc=>G c∨c=D) al H st)(h:H D=some (.lst zs))(n0:A0 D∨H0 D=none):DI J H0 A0 (λc=>G c∨c=D) al (upd H D (.lst ys)) st/\∀v d,aE J (Fb (λc=>G c∨c=D) al st) H v d->aE J (Fb (λc=>G c∨c=D) al st) (upd H D (.lst ys)) v d:=by
 have sm:aS (cutH (Fb (λc=>G c∨c=D) al st) H) (cutH (Fb (λc=>G c∨c=D) al st) (upd H D (.lst ys))):=ft λc o n e=>⟨n,by rw[uN (λz=>n (.inl (.inr z)))];exact e⟩
 have rd:∀v d,aE J (Fb (λc=>G c∨c=D) al st) H v d->aE J (Fb (λc=>G c∨c=D) al st) (upd H D (.lst ys)) v d:=λv d z=>aX.same sm z
 have nD:∀a∈al.flatten,a≠D:=λa ha z=>I.gd a ha (.inr z)
 refine⟨⟨I.len,I.nd,λa ha=>?_,λk fp c h1 h2=>?_,λc o n e=>?_,I.nw,I.gd,λc hc=>?_,I.lk⟩,rd⟩
 ·rw[uN (nD a ha)];exact I.ok a ha
 ·have z:=I.cel k fp c h1 h2;have na:∀a∈fp,a≠D:=λa ha=>nD a (fT h1 ha)
  cases c with
  | live xs =>
   obtain⟨a,ws,e0,g1,g2⟩:=z;exact⟨a,ws,e0,by rw[uN (na a (by rw[e0];exact abc.mpr rfl))];exact g1,g2.imp λy x q=>rd y x q⟩
  | froz ds=>obtain⟨a,e0,g0⟩:=z;exact⟨a,e0,rd _ _ g0⟩
  | deep xs =>
   obtain⟨a,ws,e0,g1,g2⟩:=z;refine⟨a,ws,e0,by rw[uN (na a (by rw[e0];exact abc.mpr rfl))];exact g1,g2.imp λy x q=>?_⟩
   cases x with
   | dat d=>exact rd _ _ q
   | ref j=>exact q
  | obj o=>exact⟨z.1,o.keep _ _ _ _ _ _ z.2 (λc hc=>I.qB hc) (λa ha o e=>by rw[uN (na a ha)];exact e) sm⟩
 ·by_cases w:c=D
  ·rw[w]at n e;rcases n0 with y | y
   ·exact absurd y n
   ·rw[y]at e;cases e
  ·rw[uN w];exact I.fr c o n e
 ·by_cases w:c=D
  ·rw[w];exact⟨_,uS,.inl ⟨_,rfl⟩⟩
  ·rw[uN w];exact I.gs c hc
section
variable {X:Cx} {Y:YK} {tg a b c e:Expr} {es:List Expr} {pos p:Pos} {ea eb ec:DX} {K:aH} {J:KF} {n:Nat} {d:n9}
theorem Ext.YB{al:List (List Addr)}{H:Hp}{st:aF}{D:Addr}{ys:List V}{bc:List (List Addr)}{H1:Hp}{aC:aF}(e:Ext al H st bc H1 aC)(hD:H D=none):Ext al H st bc (upd H1 D (.lst ys)) aC:=⟨λc o n q=>by rw[uN (λz=>by rw[z,hD]at q;cases q)];exact e.keep c o n q,e.pre,e.nws,e.lv⟩
def HC(J:KF)(fin:List PyData->aF->DC->Prop):Prop:=∀(H0:Hp) (A0:Addr->Prop) (G:Addr->Prop) (al:List (List Addr)) (H:Hp) (st:aF) (Q:DC) (R:VK) (D:Addr) (bW:List (List Addr)) (H2:Hp) (vs:List V) (ys:List PyData),DI J H0 A0 G al H st->H D=none->Kn J H0 A0 G al H st Q R->fin ys st Q->DI J H0 A0 (λc=>G c∨c=D) bW H2 st->Ext al H st bW H2 st->H2 D=some (.lst vs)->bR (aE J (Fb (λc=>G c∨c=D) bW st) H2) vs ys->R (.ref D) H2
theorem NR{fin:List PyData->aF->DC->Prop}(hf:HC J fin)
  {own:Nat} {ix:List Nat} {wi:TI} {g:TG} {di:rY} {dg:sR} {dt:DT} {de:DX} (hi:AI J wi di) (hg:AG J g dg) (gb:GB own g):AE J (Va own ix wi g (Hz J dt) (TN J de)) (EE fin own ix di dg dt de):=λH0 A0 G al H st s env Q R I E q k=>by
 refine hi H0 A0 G al H st s env _ _ I E q λJj xs ok aC bc H1 e1 I1 ir q1=>?_
 intro D hD;obtain⟨⟨hok,hlen⟩,Iv,i0,istep,ifin⟩:=q1;have k1:=k.go I1 e1;have E1:=E.ext e1
 have gG:∀c,(G c∨c=D)->G c∨H1 c=none:=λc hc=>by
  rcases hc with z | z
  ·exact .inl z
  ·rw[z];exact .inr hD
 have n0:=I1.n0 hD;obtain⟨EB,IB⟩:=I1.HB (ys:=[]) hD;refine⟨λi m ys H2=>(m=xs.length - i/\i<=xs.length/\ys.length<=i)/\∃ds bW,Iv i ds/\H2 D=some (.lst ys)/\bR (aE J (Fb (λc=>G c∨c=D) bW aC) H2) ys ds/\DI J H0 A0 (λc=>G c∨c=D) bW H2 aC/\Ext bc H1 aC bW H2 aC,⟨_,⟨rfl,aaP _,aaP _⟩,[],bc,i0,uS,.nil,IB,EB⟩,?_⟩;rintro i m ys H2 ⟨⟨em,hil,hyl⟩,ds,bW,hI,gD,hP,I2,E2⟩;refine⟨gD,?_⟩;have IR:=ir (λc=>G c∨c=D) bW H2 aC i gG E2 I2 hok;by_cases hx:i < xs.length
 ·right
  obtain⟨d0,NS⟩:∃d0,xs[i]?=some d0:=⟨xs[i],cW hx⟩;obtain⟨go,yl⟩:=IR.1 d0 NS;refine⟨go,aa0 (aaB hyl hil) (aa0 hlen (by decide)),λys' H'=>∃m',m' < m/\(m'=xs.length - (i + 1)/\i + 1<=xs.length/\ys'.length<=i + 1)/\∃ds bW,Iv (i + 1) ds/\H' D=some (.lst ys')/\bR (aE J (Fb (λc=>G c∨c=D) bW aC) H') ys' ds/\DI J H0 A0 (λc=>G c∨c=D) bW H' aC/\Ext bc H1 aC bW H' aC,λys' H' ⟨m',lt,w⟩=>⟨m',lt,w⟩,λx H3 hy=>?_⟩;obtain⟨s3,r3⟩:=yl x H3 hy;have I3:=I2.same s3;have E3:Ext bc H1 aC bW H3 aC:=E2.trans I2 (.same s3);have P3:=hP.imp λy x z=>z.same s3
  have g3:=s3 _ _ gD;have Wh:=(E1.jc gG E3).oG own ix;refine gb x _ H3 _ _ ?_ (hg H0 A0 (λc=>G c∨c=D) bW H3 aC _ _ x (.dat d0) _ (λσ2 H4=>Hz J dt σ2 H4 λb H5=>if b=true then TN J de σ2 H5 λv H6=>H6 D=some (.lst ys)/\∃m',m' < m/\(m'=xs.length - (i + 1)/\i + 1<=xs.length/\(ys++[v]).length<=i + 1)/\∃ds bW,Iv (i + 1) ds/\upd H6 D (.lst (ys++[v])) D=some (.lst (ys++[v]))/\bR (aE J (Fb (λc=>G c∨c=D) bW aC) (upd H6 D (.lst (ys++[v])))) (ys++[v]) ds/\DI J H0 A0 (λc=>G c∨c=D) bW (upd H6 D (.lst (ys++[v]))) aC/\Ext bc H1 aC bW (upd H6 D (.lst (ys++[v]))) aC else ∃m',m' < m/\(m'=xs.length - (i + 1)/\i + 1<=xs.length/\ys.length<=i + 1)/\∃ds bW,Iv (i + 1) ds/\H5 D=some (.lst ys)/\bR (aE J (Fb (λc=>G c∨c=D) bW aC) H5) ys ds/\DI J H0 A0 (λc=>G c∨c=D) bW H5 aC/\Ext bc H1 aC bW H5 aC) I3 Wh (.d r3) (istep i ds d0 hI NS) λgq bp P4 s2 H4 e4 I4 TR q4=>?_)
  ·intro s2 H4 ed q4;refine⟨?_,q4⟩;rw[ed];unfold eJ;rw[List.drop_left' (by simp)]
  ·obtain⟨rfl,q4⟩:=q4;refine⟨H0,A0,_,P4,bp,gq,_,I4,TR,q4,λb iS TU H5 e5 I5 q5=>?_⟩;obtain⟨rfl,q5⟩:=q5;have P7:=e4.trans I4 e5;have E5:=E3.trans I3 P7;have nL:∀(al':List (List Addr)) (H':Hp),DI J H0 A0 (λc=>G c∨c=D) al' H' iS->¬ Lv al' iS D:=λal' H' I' z=>I'.gd D z.mem (.inr rfl)
   have g5:=P7.keep D _ (nL _ _ I3) g3;have P5:=P3.imp λy x z=>aE.ext z P7
   cases b with
   | false =>
    rw[aaF aai]at q5;exact dI ⟨xs.length - (i + 1),by omega,⟨rfl,hx,by omega⟩,ds,TU,q5,g5,P5,I5,E5⟩
   | true =>
    rw[aaD rfl]at q5;refine cT ⟨H0,A0,_,TU,iS,gq,_,I5,TR.ext e5,q5,λy uQ P8 v H6 e6 I6 d6 q6=>?_⟩;obtain⟨dy,Bv,E7,I7,F7,rfl,q7⟩:=rV I6 d6 q6;have Wi:=e6.trans I6 E7;have E6:=E5.trans I5 Wi;have g6:=Wi.keep D _ (nL _ _ I5) g5;have P6:=P5.imp λy x z=>aE.ext z Wi
    obtain⟨I8,Vk⟩:=I7.grow (ys:=ys++[v]) g6 n0;refine⟨g6,xs.length - (i + 1),by omega,⟨rfl,hx,by simp;omega⟩,ds++[dy],P8,q7,uS,?_,I8,E6.YB hD⟩;exact(P6.imp λy x z=>Vk y x z).append (.cons (Vk _ _ F7) .nil)
 ·left
  have ei:i=xs.length:=by omega
  subst ei;exact⟨IR.2 (aaj _) (aaj _),hf H0 A0 G bc H1 aC Q R D bW H2 ys ds I1 hD k1 (ifin ds hI) I2 E2 gD hP⟩
end
section
variable {X:Cx} {Y:YK} {tg a b c e:Expr} {es:List Expr} {pos p:Pos} {ea eb ec:DX} {K:aH} {J:KF} {n:Nat} {d:n9} {scope:Scope}
theorem DI.less{H0:Hp}{A0:Addr->Prop}{G G':Addr->Prop}{al:List (List Addr)}{H:Hp}{st:aF}(I:DI J H0 A0 G' al H st)(s:∀c,G c->G' c)(y:J.y.Y H0 A0 G):DI J H0 A0 G al H st:=by
 have sub:∀c,Fb G al st c->Fb G' al st c:=λc z=>by
  rcases z with z | z
  ·exact .inl (s c z)
  ·exact .inr z
 have sm:aS (cutH (Fb G' al st) H) (cutH (Fb G al st) H):=ft λc o n e=>⟨λz=>n (sub c z),e⟩
 refine⟨I.len,I.nd,I.ok,λk fp c h1 h2=>?_,I.fr,I.nw,λa ha z=>I.gd a ha (s a z),λc hc=>I.gs c (s c hc),y⟩;have z:=I.cel k fp c h1 h2
 cases c with
 | live xs=>obtain⟨a,ws,e0,g1,g2⟩:=z;exact⟨a,ws,e0,g1,g2.imp λy x q=>aX.same sm q⟩
 | froz ds=>obtain⟨a,e0,g0⟩:=z;exact⟨a,e0,aX.same sm g0⟩
 | deep xs =>
  obtain⟨a,ws,e0,g1,g2⟩:=z;refine⟨a,ws,e0,g1,g2.imp λy x q=>?_⟩
  cases x with
  | dat d=>exact aX.same sm q
  | ref j=>exact q
 | obj o=>exact⟨z.1,o.keep _ _ _ _ _ _ z.2 (λc hc=>I.qB hc) (λ_ _ _ e=>e) sm⟩
theorem NT:HC J Ls:=λH0 A0 G al H st Q R D bW H2 vs ys I hD k q I2 E2 g P=>by
 have sub:∀c,Fb G bW st c->Fb (λc=>G c∨c=D) bW st c:=λc z=>by
  rcases z with z | z
  ·exact .inl (.inl z)
  ·exact .inr z
 have nD:¬ Fb G bW st D:=λz=>by
  rcases z with z | z
  ·exact I.G4 hD (.inl z)
  ·exact I2.gd D z.mem (.inr rfl)
 exact k (.dat (.list ys)) st bW _ H2 E2 (I2.less (λc z=>.inl z) I.lk) (.d (aE.lst nD g (P.imp λy x z=>aE.sub z sub))) q
theorem DI.take{H0:Hp}{A0:Addr->Prop}{G:Addr->Prop}{al:List (List Addr)}{H:Hp}{st:aF}{D:Addr}{vs:List V}{ys:List PyData}(I:DI J H0 A0 (λc=>G c∨c=D) al H st)(nG:¬ G D)(n0:A0 D∨H0 D=none)(g:H D=some (.lst vs))(P:bR (aE J (Fb (λc=>G c∨c=D) al st) H) vs ys)(y:J.y.Y H0 A0 G):DI J H0 A0 G (al++[[D]]) H (st++[.live ys]):=by
 have nal:D∉al.flatten:=λz=>I.gd D z (.inr rfl)
 have mem:∀c∈(al++[[D]]).flatten,c∈al.flatten∨c=D:=λc hc=>by
  rw[abZ,abC]at hc;rcases aaN.mp hc with z | z
  ·exact .inl z
  ·exact .inr (ik z)
 have sub:∀c,Fb G (al++[[D]]) (st++[.live ys]) c->Fb (λc=>G c∨c=D) al st c:=λc z=>by
  rcases z with z | ⟨j,f,ce,z1,z2,z3,z4⟩
  ·exact .inl (.inl z)
  ·by_cases w:j < al.length
   ·rw[aae w]at z1;rw[aae (by rw[← I.len];exact w)]at z3;exact .inr ⟨j,f,ce,z1,z2,z3,z4⟩
   ·rw[aam (by omega)]at z1;have:=aan z1;rw[ik this]at z2;exact .inl (.inr (ik z2))
 have sm:aS (cutH (Fb (λc=>G c∨c=D) al st) H) (cutH (Fb G (al++[[D]]) (st++[.live ys])) H):=ft λc o n e=>⟨λz=>n (sub c z),e⟩
 refine⟨by simp[I.len],?_,λc hc=>?_,λj fp c h1 h2=>?_,I.fr,λc hc=>?_,λc hc=>?_,λc hc=>I.gs c (.inl hc),y⟩
 ·rw[List.flatten_append,List.flatten_singleton,List.nodup_append];exact⟨I.nd,by simp,λx hx y hy=>by rw[ik hy];intro z;exact nal (z ▸ hx)⟩
 ·rcases mem c hc with z | z
  ·exact I.ok c z
  ·rw[z];exact⟨_,g⟩
 ·by_cases w:j < al.length
  ·rw[aae w]at h1;rw[aae (by rw[← I.len];exact w)]at h2;have z:=I.cel j fp c h1 h2
   cases c with
   | live xs=>obtain⟨a,ws,e0,g1,g2⟩:=z;exact⟨a,ws,e0,g1,g2.imp λy x q=>aX.same sm q⟩
   | froz ds=>obtain⟨a,e0,g0⟩:=z;exact⟨a,e0,aX.same sm g0⟩
   | deep xs =>
    obtain⟨a,ws,e0,g1,g2⟩:=z;refine⟨a,ws,e0,g1,g2.imp λy x q=>?_⟩
    cases x with
    | dat d=>exact aX.same sm q
    | ref i =>
     obtain⟨b,r,q1,q2⟩:=q;exact⟨b,r,by rw[aae (bz q1).1];exact q1,q2⟩
   | obj o=>exact⟨z.1,o.keep _ _ _ _ _ _ z.2 (λc hc=>I.qB hc) (λ_ _ _ e=>e) sm⟩
  ·have hj:j=al.length:=by have:=(bz h1).1;simp at this;omega
   subst hj;rw[aam (aaj _),aa3]at h1;rw[I.len,aam (aaj _),aa3]at h2;cases h1;cases h2;exact⟨D,vs,rfl,g,P.imp λy x z=>aX.same sm z⟩
 ·rcases mem c hc with z | z
  ·exact I.nw c z
  ·rw[z];exact n0
 ·rcases mem c hc with z | z
  ·exact λw=>I.gd c z (.inl w)
  ·rw[z];exact nG
theorem TV:HC J P2:=λH0 A0 G al H st Q R D bW H2 vs ys I hD k q I2 E2 g P=>by
 have I3:=I2.take (λz=>I.G4 hD (.inl z)) (I.n0 hD) g P I.lk;have gt:(bW++[[D]])[st.length]?=some [D]:=by rw[← I2.len,aam (aaj _),aa3];rfl
 refine k (.ref st.length) (st++[.live ys]) (bW++[[D]]) _ H2 ⟨E2.keep,λj a r h=>?_,λc hc=>?_,λc ⟨j,f,ce,z1,z2,z3,z4⟩=>?_⟩ I3 ⟨D,[],gt,rfl⟩ q
 ·obtain⟨r',h'⟩:=E2.pre j a r h;exact⟨r',by rw[aae (bz h').1];exact h'⟩
 ·rw[abZ,abC]at hc;rcases aaN.mp hc with z | z
  ·exact E2.nws c z
  ·rw[ik z];exact .inr hD
 ·by_cases w:j < bW.length
  ·rw[aae w]at z1;rw[aae (by rw[← I2.len];exact w)]at z3;exact E2.lv c ⟨j,f,ce,z1,z2,z3,z4⟩
  ·rw[aam (by omega)]at z1;have:=aan z1;rw[ik this]at z2;rw[ik z2];exact .inr hD
@[reducible] def Wj:Nat->List Nat->rY->sR->DT->DX->DX:=EE Ls
theorem P9{fin:List PyData->aF->DC->Prop}(hf:HC (kf X Y) fin)
  {elt iter:Expr} {ifs:List Expr} {g:TG} {di:rY} {dg:sR} {dt:DT} {de:DX} (own:Nat) (N:List Str) (ix:List Nat) (B:oQ X own N ix scope) (hi:JQ X Y tg iter di)
  (hg:∀(C:Addr) (fp:List Addr) (s:Shared) (H:Hp),PG (X.oG N scope C fp s H) tg g) (ag:AG (kf X Y) g dg) (gb:GB own g)
  (hin:∀(C:Addr) (fp:List Addr) (s:Shared) (H:Hp),TQ (X.oG N scope C fp s H) Y ifs dt/\aZ (X.oG N scope C fp s H) Y elt de)
  (hs:∀x,foldedSetIterable iter X.env x=pure x:=by intro _;rfl):aZ X Y (.ListComp elt [⟨tg,iter,ifs,0⟩] scope pos) (EE fin own ix di dg dt de):=by
 obtain⟨wi,p1,a1⟩:=hi.h;exact⟨_,Gy own N ix B p1 (λC fp s H=>⟨hg C fp s H,(hin C fp s H).1.h,(hin C fp s H).2.pe⟩) hs,NR hf a1 ag gb⟩
theorem zW{elt iter:Expr}{ifs:List Expr}{g:TG}{di:rY}{dg:sR}{dt:DT}{de:DX}(own:Nat)(N:List Str)(ix:List Nat)(B:oQ X own N ix scope)(hi:JQ X Y tg iter di)
  (hg:∀(C:Addr) (fp:List Addr) (s:Shared) (H:Hp),PG (X.oG N scope C fp s H) tg g) (ag:AG (kf X Y) g dg) (gb:GB own g)
  (hin:∀(C:Addr) (fp:List Addr) (s:Shared) (H:Hp),TQ (X.oG N scope C fp s H) Y ifs dt/\aZ (X.oG N scope C fp s H) Y elt de)
  (hs:∀x,foldedSetIterable iter X.env x=pure x:=by intro _;rfl):aZ X Y (.ListComp elt [⟨tg,iter,ifs,0⟩] scope pos) (Wj own ix di dg dt de):=P9 NT own N ix B hi hg ag gb hin hs
@[reducible] def Se(st:aF)(k:Nat):Bool:=match st[k]? with
 | some (.live _)=>true
 | some (.froz _)=>true
 | some (.deep _)=>true
 | _=>false
@[reducible] def yu(eo:DX)(dx:n9)(env:bt)(st:aF)(Q:DC):Prop:=eo env st λo aC=>match o with
 | .ref k=>Se aC k=true/\dx env aC λxs bp=>match xs with
  | [x]=>match bp[k]? with
   | some (.deep ys)=>ys.length < 1000000/\Q (.dat .none) (bp.set k (.deep (ys++[x])))
   | _=>oY x bp λd iS=>match iS[k]? with
    | some (.live ds)=>ds.length < 1000000/\Q (.dat .none) (iS.set k (.live (ds++[d])))
    | _=>False
  | _=>False
 | _=>False
theorem Dq{H0:Hp}{A0:Addr->Prop}{G:Addr->Prop}{al:List (List Addr)}{H:Hp}{st:aF}(I:DI J H0 A0 G al H st){v:V}{k:Nat}(h:fS J (Fb G al st) H al v (.ref k))(hl:Se st k=true):∃a ys,v=.ref a/\dC J H a ys:=by
 obtain⟨a,r,h1,rfl⟩:=h;have hk:k < st.length:=by rw[← I.len];exact(bz h1).1
 have hs:=cW hk;have z:=I.cel k _ _ h1 hs;refine⟨a,?_⟩
 cases q:st[k]with
 | live ds=>rw[q]at z;obtain⟨a',ys,e0,g,_⟩:=z;cases e0;exact⟨ys,rfl,dC.of g⟩
 | deep ds=>rw[q]at z;obtain⟨a',ys,e0,g,_⟩:=z;cases e0;exact⟨ys,rfl,dC.of g⟩
 | froz ds =>
  rw[q]at z;obtain⟨a',e0,g0⟩:=z;cases e0;obtain⟨b,ys,g1,g2,_⟩:=aE.cN g0;cases g1;exact⟨ys,rfl,g2⟩
 | obj o =>
  unfold Se at hl;rw[hs,q]at hl;cases hl
theorem HD{H:Hp}{v:V}(h:∃a ys,v=.ref a/\dC K H a ys):VM K "list" v H:=by
 obtain⟨a,ys,rfl,g⟩:=h;exact .inl ⟨rfl,ys,g⟩
theorem bq{apos cpos:Pos}{o:Expr}{eo:DX}(ho:aZ X Y o eo)(ha:qh X Y (e::es) n d)(hbase:attributeBase o "append" X.env (eval o X.env)=eval o X.env:=by rfl)
  (hfew:((backTo cpos (starEach (e::es) X.env)).all (λx=>!x.1)&&(backToKw cpos (keywordEach [] X.env)).all (λx=>x.1.isSome)
   && decide ((e::es).length + ([]:List Keyword).length + (if ([]:List Keyword).isEmpty then 0 else 1) < 30))=true:=by rfl)
  (hline:(apos.endLine == cpos.line)=true:=by rfl) (hs:starEach (e::es) X.env=(false,eval e X.env)::starEach es X.env:=by rfl) (hplain:(backTo cpos (starEach es X.env)).any (·.1)=false:=by rfl) :
  aZ X Y (.Call (.Attribute o "append" apos) (e::es) [] cpos) (yu eo d):=by
 obtain⟨t,p1,a1⟩:=ho.h;obtain⟨u,p2,a2⟩:=ha.h;refine⟨_,SV PySem.F.plainAttrs_list PySem.F.slot_list_append PySem.F.type_list_append wY p1 p2 hbase hfew hline hs hplain,λH0 A0 G al H st s env Q R I E q k=>a1 H0 A0 G al H st s env _ _ I E q λx aC bc v H1 e1 I1 d1 q1=>?_⟩;split at q1
 ·rename_i kk;refine⟨HD (Dq I1 d1 q1.1),a2 H0 A0 G bc H1 aC s env _ _ I1 (E.ext e1) q1.2 λxs bp bW vs H2 e2 I2 d2 q2=>?_⟩;have q2:=q2.2;split at q2
  ·obtain⟨w,rfl,hw⟩:=pB d2;have rW:=e1.trans I1 e2;split at q2
   ·rename_i zs hs;obtain⟨a,r0,ha,rfl⟩:=d1.ext e2;obtain⟨a',ys,e0,g1,g2⟩:=I2.cel kk _ _ ha hs;cases e0;obtain⟨E4,I4⟩:=I2.putD ha hs (g2.append (.cons hw .nil));exact⟨a,ys,w,rfl,rfl,g1,by rw[g2.1];exact aap q2.1 (by decide),(k.go I2 rW) _ _ _ _ _ E4 I4 (.d .non) q2.2⟩
   ·obtain⟨dd,iS,E3,I3,F3,q3⟩:=rV I2 hw q2;split at q3
    ·rename_i ds hs;have TX:=rW.trans I2 E3;obtain⟨a,r0,ha,rfl⟩:=(d1.ext e2).ext E3;obtain⟨a',ys,e0,g1,g2⟩:=I3.cel kk _ _ ha hs;cases e0;obtain⟨E4,I4⟩:=I3.put ha hs (g2.append (.cons F3 .nil));exact⟨a,ys,w,rfl,rfl,g1,by rw[g2.1];exact aap q3.1 (by decide),(k.go I3 TX) _ _ _ _ _ E4 I4 (.d .non) q3.2⟩
    ·exact q3.elim
  ·exact q2.elim
 ·exact q1.elim
structure cb where
 nx:bt->aF->Prop
 rt:DC
 bk:bt->aF->Prop:=λ_ _=>False
 ct:bt->aF->Prop:=λ_ _=>False
abbrev DS:=cb->bt->aF->Prop
structure uf(J:KF)(H0:Hp)(A0:Addr->Prop)(G:Addr->Prop)(al:List (List Addr))(H:Hp)(st:aF)(DD:cb)(D:Ends):Prop where
 nx:NQ J H0 A0 G al H st DD.nx D.nx
 rt:Kn J H0 A0 G al H st DD.rt D.rt
 bk:NQ J H0 A0 G al H st DD.bk D.bk
 ct:NQ J H0 A0 G al H st DD.ct D.ct
theorem uf.go{H0:Hp}{A0:Addr->Prop}{G:Addr->Prop}{al bc:List (List Addr)}{H H1:Hp}{st aC:aF}{DD:cb}{D:Ends}(k:uf J H0 A0 G al H st DD D)(I:DI J H0 A0 G bc H1 aC)(e:Ext al H st bc H1 aC):uf J H0 A0 G bc H1 aC DD D:=⟨k.nx.go I e,k.rt.go I e,k.bk.go I e,k.ct.go I e⟩
def AS(J:KF)(t:TS)(s:DS):Prop:=∀(H0:Hp) (A0:Addr->Prop) (G:Addr->Prop) (al:List (List Addr)) (H:Hp) (st:aF) (σ:St) (env:bt) (DD:cb) (D:Ends),DI J H0 A0 G al H st->jz J (Fb G al st) H al σ env->s DD env st->uf J H0 A0 G al H st DD D->t D σ H
structure BR(X:Cx)(Y:YK)(stm:Stmt)(s:DS):Prop where
 h:∃t,PS X stm t/\AS (kf X Y) t s
structure ug(X:Cx)(Y:YK)(stms:List Stmt)(s:DS):Prop where
 h:∃t,qo X stms t/\AS (kf X Y) t s
@[reducible] def Dr(DD:cb)(env:bt)(st:aF):Prop:=DD.nx env st
@[reducible] def HE(s u:DS)(DD:cb)(env:bt)(st:aF):Prop:=s {DD with nx:=u DD} env st
@[reducible] def HG(e:DX)(DD:cb)(env:bt)(st:aF):Prop:=e env st λ_ aC=>DD.nx env aC
@[reducible] def Qa(e:DX)(DD:cb)(env:bt)(st:aF):Prop:=e env st DD.rt
@[reducible] def Wk(c:DT)(s u:DS)(DD:cb)(env:bt)(st:aF):Prop:=c env st λb aC=>if b=true then s DD env aC else u DD env aC
@[reducible] def EF(e:DX)(g:sR)(DD:cb)(env:bt)(st:aF):Prop:=e env st λdv aC=>g dv env aC DD.nx
@[reducible] def HH(c:DT)(s:DS)(DD:cb)(env:bt)(st:aF):Prop:=∃W:Nat->bt->aF->Prop,(∃m,W m env st)/\∀m env st,W m env st->c env st λb aC=>if b=true then s {DD with nx:=λenv' st'=>∃m',m' < m/\W m' env' st',ct:=λenv' st'=>∃m',m' < m/\W m' env' st',bk:=DD.nx} env aC else DD.nx env aC
def NU(g:sR)(s:DS)(DD:cb)(xs:List PyData)(ok:aF->Prop)(env:bt)(st:aF):Prop:=∃W:Nat->bt->aF->Prop,W 0 env st/\∀i env st,i<=xs.length->W i env st->ok st/\(i=xs.length->DD.nx env st)/\∀d,xs[i]?=some d->g (.dat d) env st λenv' st'=>s {DD with nx:=W (i + 1),ct:=W (i + 1),bk:=DD.nx} env' st'
@[reducible] def Qb(di:rY)(g:sR)(s:DS)(DD:cb)(env:bt)(st:aF):Prop:=di env st λxs ok aC=>NU g s DD xs ok env aC
theorem gu{g:sR}{s:DS}{DD:cb}{xs:List PyData}{ok:aF->Prop}{env:bt}{st:aF}(W:Nat->bt->aF->Prop)(h0:W 0 env st)(hok:∀i env st,W i env st->ok st)
  (hs:∀i env st d,xs[i]?=some d->W i env st->g (.dat d) env st λenv' st'=>s {DD with nx:=W (i + 1),ct:=W (i + 1),bk:=DD.nx} env' st') (hd:∀env st,W xs.length env st->DD.nx env st):NU g s DD xs ok env st :=
 ⟨W,h0,λi env st _ w=>⟨hok i env st w,λe=>hd env st (e ▸ w),λd h=>hs i env st d h w⟩⟩
theorem Ds{c:DT}{s:DS}{DD:cb}{env:bt}{st:aF}(W:Nat->bt->aF->Prop)(h0:∃m,W m env st)
  (hs:∀m env st,W m env st->c env st λb aC=>if b=true then s {DD with nx:=λenv' st'=>∃m',m' < m/\W m' env' st',ct:=λenv' st'=>∃m',m' < m/\W m' env' st',bk:=DD.nx} env aC else DD.nx env aC):HH c s DD env st:=⟨W,h0,hs⟩
variable {stm:Stmt} {stms rest:List Stmt} {s u:DS}
theorem Lu:AS J uF Dr:=λH0 A0 G al H st σ env DD D I E h k=>k.nx env st al σ H .refl I E h
theorem HI{t r:TS}(h1:AS J t s)(h2:AS J r u):AS J (FO t r) (HE s u):=λH0 A0 G al H st σ env DD D I E h k=>h1 H0 A0 G al H st σ env _ _ I E h ⟨λenv' st' al' σ' H' e' I' E' q'=>h2 H0 A0 G al' H' st' σ' env' DD D I' E' q' (k.go I' e'),k.rt,k.bk,k.ct⟩
theorem ay:ug X Y [] Dr:=⟨_,il,Lu⟩
theorem cI(h1:BR X Y stm s)(h2:ug X Y rest u):ug X Y (stm::rest) (HE s u):=by
 obtain⟨t,p1,a1⟩:=h1.h;obtain⟨r,p2,a2⟩:=h2.h;exact⟨_,qK p1 p2,HI a1 a2⟩
theorem au(h1:BR X Y stm s):ug X Y [stm] s:=by
 obtain⟨t,p1,a1⟩:=h1.h;exact⟨_,qO p1,a1⟩
theorem bT(he:aZ X Y e ea)(hs:swapsWith e none pos.line X.env=pure false:=by rfl):BR X Y (.Expr e pos) (HG ea):=by
 obtain⟨t,p1,a1⟩:=he.h;exact⟨_,Kg p1 hs,λH0 A0 G al H st σ env DD D I E h k=>a1 H0 A0 G al H st σ env _ _ I E h λdv aC bc v H1 e1 I1 d1 q1=>k.nx env aC bc σ H1 e1 I1 (E.ext e1) q1⟩
theorem ax(he:aZ X Y e ea):BR X Y (.Return (some e) pos) (Qa ea):=by
 obtain⟨t,p1,a1⟩:=he.h;exact⟨_,kM p1,λH0 A0 G al H st σ env DD D I E h k=>a1 H0 A0 G al H st σ env _ _ I E h k.rt⟩
theorem aG{c:Expr}{tc:DT}{x y:List Stmt}(hc:xj X Y c tc)(ha:ug X Y x s)(hb:ug X Y y u):BR X Y (.If c x y pos) (Wk tc s u):=by
 obtain⟨t,p1,a1⟩:=hc.h;obtain⟨r,p2,a2⟩:=ha.h;obtain⟨w,p3,a3⟩:=hb.h;refine⟨_,qr p1 p2 p3,λH0 A0 G al H st σ env DD D I E h k=>a1 H0 A0 G al H st σ env _ _ I E h λb aC bc H1 e1 I1 q1=>?_⟩
 cases b with
 | true=>exact cT (a2 H0 A0 G bc H1 aC σ env DD D I1 (E.ext e1) (by rw[aaD rfl]at q1;exact q1) (k.go I1 e1))
 | false=>exact dI (a3 H0 A0 G bc H1 aC σ env DD D I1 (E.ext e1) (by rw[aaF aai]at q1;exact q1) (k.go I1 e1))
theorem BS{t:TE}{g:TG}{dg:sR}(h1:AE J t ea)(h2:AG J g dg):AS J (Ki t g) (EF ea dg):=λH0 A0 G al H st σ env DD D I E h k=>h1 H0 A0 G al H st σ env _ _ I E h λdv aC bc v H1 e1 I1 d1 q1=>h2 H0 A0 G bc H1 aC σ env v dv _ _ I1 (E.ext e1) d1 q1 (k.nx.go I1 e1)
theorem az{i:Nat}{x:Str}{pos':Pos}(hN:X.N.Nodup)(hi:X.N[i]?=some x)(hx:Loc X.env.scope x)(he:aZ X Y e ea)(hs:swapsWith e (some (.Name x pos')) pos.line X.env=pure false:=by rfl)(hf:X.fn x=true∨X.env.scope.names.lookup x=some .local:=by first | exact .inl rfl | exact .inr rfl | assumption):BR X Y (.Assign [.Name x pos'] e pos) (EF ea (gN i)):=by
 obtain⟨t,p1,a1⟩:=he.h;exact⟨_,eI hN hi hx p1 hs hf,BS a1 qF⟩
theorem pC{g:sR}(he:aZ X Y e ea)(hg:Sd X Y tg g)(hs:swapsWithSole [tg] e pos.line X.env=pure false:=by rfl)(hw:swappedStores [tg] e X.env=pure none:=by rfl)(h1:(assignEach [tg] X.env).map (·.2)=[assign tg X.env]:=by rfl):BR X Y (.Assign [tg] e pos) (EF ea g):=by
 obtain⟨t,p1,a1⟩:=he.h;obtain⟨gg,p2,a2⟩:=hg.h;exact⟨_,FT p1 p2 hs hw h1,BS a1 a2⟩
theorem xo{fin:List PyData->aF->DC->Prop}(hf:HC (kf X Y) fin)
  {i:Nat} {x:Str} {pos' spos:Pos} (hN:X.N.Nodup) (hxi:X.N[i]?=some x) (hx:Loc X.env.scope x) {elt iter:Expr} {ifs:List Expr} {g:TG} {di:rY} {dg:sR} {dt:DT} {de:DX} (own:Nat) (N:List Str) (ix:List Nat) (B:oQ X own N ix scope) (hi:JQ X Y tg iter di)
  (hg:∀(C:Addr) (fp:List Addr) (s:Shared) (H:Hp),PG (X.oG N scope C fp s H) tg g) (ag:AG (kf X Y) g dg) (gb:GB own g)
  (hin:∀(C:Addr) (fp:List Addr) (s:Shared) (H:Hp),TQ (X.oG N scope C fp s H) Y ifs dt/\aZ (X.oG N scope C fp s H) Y elt de)
  (hsw:swapsWith (.ListComp elt [⟨tg,iter,ifs,0⟩] scope pos) (some (.Name x pos')) spos.line X.env=pure true:=by rfl) (hs:∀x,foldedSetIterable iter X.env x=pure x:=by intro _;rfl)
  (hfn:X.fn x=true∨X.env.scope.names.lookup x=some .local:=by first | exact .inl rfl | exact .inr rfl):BR X Y (.Assign [.Name x pos'] (.ListComp elt [⟨tg,iter,ifs,0⟩] scope pos) spos) (EF (EE fin own ix di dg dt de) (gN i)):=by
 obtain⟨wi,p1,a1⟩:=hi.h;exact⟨_,zG hN hxi hx own N ix B p1 (λC fp s H=>⟨hg C fp s H,(hin C fp s H).1.h,(hin C fp s H).2.pe⟩) hsw hs hfn,BS (NR hf a1 ag gb) qF⟩
theorem zX{c:Expr}{tc:DT}{body:List Stmt}(hp:PassesOwn (model X.prog X.w) X.A X.env X.xe)(hc:xj X Y c tc)(hb:ug X Y body s):BR X Y (.While c body [] pos) (HH tc s):=by
 obtain⟨t,p1,a1⟩:=hc.h;obtain⟨r,p2,a2⟩:=hb.h;refine⟨_,FU hp p1 p2,λH0 A0 G al H st σ env DD D I E h k=>?_⟩;obtain⟨W,⟨m0,w0⟩,step⟩:=h;refine⟨λm σ' H'=>∃env' st' al',Ext al H st al' H' st'/\DI (kf X Y) H0 A0 G al' H' st'/\jz X.K (Fb G al' st') H' al' σ' env'/\W m env' st',⟨m0,env,st,al,.refl,I,E,w0⟩,?_⟩;rintro m σ1 H1 ⟨Lw,aC,bc,e1,I1,E1,w1⟩;refine a1 H0 A0 G bc H1 aC σ1 Lw _ _ I1 E1 (step m Lw aC w1) λb bp bW H2 e2 I2 q2=>?_
 have rW:=e1.trans I1 e2
 cases b with
 | false=>exact dI (k.nx Lw bp bW σ1 H2 rW I2 (E1.ext e2) (by rw[aaF aai]at q2;exact q2))
 | true =>
  rw[aaD rfl]at q2;refine cT ⟨_,λσ' H' z=>z,a2 H0 A0 G bW H2 bp σ1 Lw _ _ I2 (E1.ext e2) q2 ⟨?_,k.rt.go I2 rW,k.nx.go I2 rW,?_⟩⟩
  ·rintro env' st' al' σ' H' e' I' E' ⟨m',lt,w'⟩;exact⟨m',lt,env',st',al',rW.trans I2 e',I',E',w'⟩
  ·rintro env' st' al' σ' H' e' I' E' ⟨m',lt,w'⟩;exact⟨m',lt,env',st',al',rW.trans I2 e',I',E',w'⟩
theorem jE{iter:Expr}{body:List Stmt}{di:rY}{g:sR}(hp:PassesOwn (model X.prog X.w) X.A X.env X.xe)(hc:X.calm=true)(hi:JQ X Y tg iter di)(hg:Sd X Y tg g)(hb:ug X Y body s)(hs:∀x,foldedSetIterable iter X.env x=pure x:=by intro _;rfl):BR X Y (.For tg iter body [] pos) (Qb di g s):=by
 obtain⟨t,p1,a1⟩:=hi.h;obtain⟨gg,p2,a2⟩:=hg.h;obtain⟨r,p3,a3⟩:=hb.h;refine⟨_,Bu hp hc p1 p2 p3 hs,λH0 A0 G al H st σ env DD D I E h k=>a1 H0 A0 G al H st σ env _ _ I E h λJj xs ok aC bc H1 e1 I1 ir q1=>?_⟩;obtain⟨W,w0,step⟩:=q1;refine⟨λi m σ' H'=>(m=xs.length - i/\i<=xs.length)/\∃env' st' al',Ext bc H1 aC al' H' st'/\DI (kf X Y) H0 A0 G al' H' st'/\jz X.K (Fb G al' st') H' al' σ' env'/\W i env' st',⟨_,⟨rfl,aaP _⟩,env,aC,bc,.refl,I1,E.ext e1,w0⟩,?_⟩;rintro i m σ2 H2 ⟨⟨em,hil⟩,gq,bp,bW,e2,I2,E2,w2⟩;obtain⟨hok,hnx,hst⟩:=step i gq bp hil w2;have IR:=ir G bW H2 bp i (λc z=>.inl z) e2 I2 hok;have rW:=e1.trans I1 e2;by_cases hx:i < xs.length
 ·obtain⟨d0,NS⟩:∃d0,xs[i]?=some d0:=⟨xs[i],cW hx⟩;obtain⟨go,yl⟩:=IR.1 d0 NS;refine .inr ⟨go,λσ' H'=>∃m',m' < m/\(m'=xs.length - (i + 1)/\i + 1<=xs.length)/\∃env' st' al',Ext bc H1 aC al' H' st'/\DI (kf X Y) H0 A0 G al' H' st'/\jz X.K (Fb G al' st') H' al' σ' env'/\W (i + 1) env' st',λσ' H' z=>z,λx H3 hy=>?_⟩;obtain⟨s3,r3⟩:=yl x H3 hy;have I3:=I2.same s3;have YC:Ext bW H2 bp bW H3 bp:=.same s3;refine a2 H0 A0 G bW H3 bp σ2 gq x (.dat d0) _ _ I3 (E2.ext YC) (.d r3) (hst d0 NS) λWl uQ P4 σ4 H4 e4 I4 E4 q4=>?_
  have Wm:=YC.trans I3 e4;have TM:=e2.trans I2 Wm;refine a3 H0 A0 G P4 H4 uQ σ4 Wl _ _ I4 E4 q4 ⟨?_,k.rt.go I4 (rW.trans I2 Wm),k.nx.go I4 (rW.trans I2 Wm),?_⟩
  ·intro env' st' al' σ' H' e' I' E' w';exact⟨xs.length - (i + 1),by omega,⟨rfl,hx⟩,env',st',al',TM.trans I4 e',I',E',w'⟩
  ·intro env' st' al' σ' H' e' I' E' w';exact⟨xs.length - (i + 1),by omega,⟨rfl,hx⟩,env',st',al',TM.trans I4 e',I',E',w'⟩
 ·have ei:i=xs.length:=by omega
  exact .inl ⟨IR.2 (by omega) (by omega),k.nx gq bp bW σ2 H2 rW I2 E2 (hnx ei)⟩
def gZ(X:Cx)(Y:YK)(body:List Stmt)(DD:cb)(env:bt)(st:aF):Prop:=∃s,ug X Y body s/\s DD env st
theorem ah{DD:cb}{env:bt}{st:aF}(h:BR X Y stm s)(k:∀R:bt->aF->Prop,(∀env' st',gZ X Y rest DD env' st'->R env' st')->s {DD with nx:=R} env st):gZ X Y (stm::rest) DD env st:=by
 obtain⟨t,p1,a1⟩:=h.h;refine⟨HE s (λDD env st=>gZ X Y rest DD env st),⟨FO t (λD σ H=>∃r,qo X rest r/\r D σ H),qK p1 (λpins s σ H D I ⟨_,hu,q⟩=>hu pins s σ H D I q),HI a1 λH0 A0 G al H st σ env DD D I E h k=>?_⟩,k _ λ_ _ z=>z⟩;obtain⟨s2,⟨r,p2,a2⟩,q⟩:=h;exact⟨r,p2,a2 H0 A0 G al H st σ env DD D I E q k⟩
theorem aK{DD:cb}{env:bt}{st:aF}(h:BR X Y stm s)(k:s DD env st):gZ X Y [stm] DD env st:=⟨s,au h,k⟩
theorem xp{N:List Str}{body:List Stmt}{vs:List V}{ds:List PyData}{H:Hp}{Q:VK}{P:Addr->Prop}(hP:∀c,P c->∃o,H c=some o/\kJ o)(hv:bR (aE X.K P H) vs ds)(hy:Y.Y H (λ_=>False) P)
  (h:gZ X Y body {nx:=λ_ _=>∀v H',aS H H'->aE X.K P H' v .none->Q v H',rt:=λdv st=>oY dv st λd _=>∀v H',aS H H'->aE X.K P H' v d->Q v H'} (ds.map (λd=>some (DV.dat d))++List.replicate (N.length - ds.length) none) []) :
  ∃t,qo X body t/\t {nx:=λ_ H'=>Q .non H',rt:=Q} (start N vs) H:=by
 obtain⟨s,⟨t,p1,a1⟩,q⟩:=h;have lv:∀c,¬ Lv [] [] c:=λc ⟨k,xs,ce,h,_⟩=>by simp at h
 have I:DI (kf X Y) H (λ_=>False) P [] H []:=⟨rfl,List.nodup_nil,λ_ h=>by simp at h,λk a c h=>by simp at h,λc o _ e=>e,λ_ h=>by simp at h,λ_ h=>by simp at h,hP,hy⟩
 have fb:∀c,Fb P [] [] c->P c:=λc z=>by
  rcases z with z | z
  ·exact z
  ·exact absurd z (lv c)
 refine⟨t,p1,a1 H (λ_=>False) P [] H [] _ _ _ _ I ⟨by unfold start;simp[hv.1],λi dv hi=>?_⟩ q ⟨λenv' st' al' σ' H' e' I' E' q'=>?_,λdv st' al' v H' e' I' d' q'=>?_,λenv' st' al' σ' H' e' I' E' q'=>q'.elim,λenv' st' al' σ' H' e' I' E' q'=>q'.elim⟩⟩
 ·by_cases l:i < ds.length
  ·rw[List.getElem?_append_left (by simpa using l),List.getElem?_map,cW l]at hi;cases hi;obtain⟨y,hy,hr⟩:=hv.at (cW l);refine⟨y,?_,.d (aE.sub hr fb)⟩;unfold start;rw[List.getElem?_append_left (by rw[List.length_map,hv.1];exact l),List.getElem?_map,hy];rfl
  ·rw[List.getElem?_append_right (by simp;omega)]at hi;rw[List.getElem?_replicate]at hi;split at hi
   ·cases hi
   ·cases hi
 ·exact q' .non H' (λc o e=>I'.fr c o id e) .non
 ·obtain⟨d,bp,_,I2,F,q2⟩:=rV I' d' q';exact q2 v H' (λc o e=>I'.fr c o id e) (aE.sub F λc z=>.inl z)
theorem aP{N:List Str}{body:List Stmt}{vs:List V}{ds:List PyData}{H:Hp}{Q:VK}{P:Addr->Prop}(hP:∀c,P c->∃o,H c=some o/\kJ o)(hv:bR (aE X.K P H) vs ds)
  (h:gZ X y0 body {nx:=λ_ _=>∀v H',aS H H'->aE X.K P H' v .none->Q v H',rt:=λdv st=>oY dv st λd _=>∀v H',aS H H'->aE X.K P H' v d->Q v H'} (ds.map (λd=>some (DV.dat d))++List.replicate (N.length - ds.length) none) []) :
  ∃t,qo X body t/\t {nx:=λ_ H'=>Q .non H',rt:=Q} (start N vs) H:=xp hP hv trivial h
end
@[reducible] def TY:DV->String
 | .dat .none=>"NoneType"
 | .dat (.bool _)=>"bool"
 | .dat (.int _)=>"int"
 | .dat (.str _)=>"str"
 | .dat (.list _)=>"list"
 | .dat (.tuple _)=>"tuple"
 | .dat (.dict _)=>"dict"
 | .ref _=>"list"
def IsT(K:aH)(n:String)(f:String->Bool):Prop:=∀t∈(["NoneType","bool","int","str","list","tuple"]:List String),PySem.W.kitOne K (.type t) (.type n)=some (f t)
@[reducible] def Lx:String->Bool:=λt=>t == "int"||t == "bool"
@[reducible] def Dt(n:String):String->Bool:=λt=>t == n
@[reducible] def Qc(f:String->Bool)(ea:DX)(env:bt)(st:aF)(Q:DC):Prop:=ea env st λx aC=>match x with
 | .dat d=>Q (.dat (.bool (f (TY (.dat d))))) aC
 | .ref k=>Se aC k=true/\Q (.dat (.bool (f "list"))) aC
theorem fS.ty{K:aH}{P:Addr->Prop}{al:List (List Addr)}{H:Hp}{v:V}{d:PyData}(h:fS K P H al v (.dat d)):Kz K H v (TY (.dat d))/\TY (.dat d)∈(["NoneType","bool","int","str","list","tuple"]:List String):=by
 cases d with
 | none=>rw[aE.fU h];exact⟨.non,by simp⟩
 | bool b=>rw[aE.gU h];exact⟨.bl _,by simp⟩
 | int b=>rw[aE.aW h];exact⟨.int _,by simp⟩
 | str b=>rw[aE.cz h];exact⟨.str _,by simp⟩
 | list ds=>obtain⟨b,ys,rfl,g2,_⟩:=aE.cN h;exact⟨.lst g2,by simp⟩
 | tuple ds=>obtain⟨b,ys,rfl,g2,_⟩:=aE.bL h;exact⟨.tup g2,by simp⟩
 | dict kv=>have h:aX K _ v (.dict kv):=h;cases h
theorem HJ{X:Cx}{Y:YK}{a:Expr}{ea:DX}{pos p p2:Pos}{T:Str}{n:String}{f:String->Bool}(hf:IsT X.K n f)(hg:Gl X "isinstance")(hm:X.mg "isinstance"=none)(Ly:Gl X T)(JR:X.mg T=none)(hb:bootBuiltins T=some (.type n))(ha:aZ X Y a ea)(hn:T≠"__name__":=by decide)(hd:(T == ("__debug__" : Str))=false:=by decide)
  (h1:starEach [a,.Name T p2] X.env=(false,eval a X.env)::starEach [.Name T p2] X.env:=by rfl):aZ X Y (.Call (.Name "isinstance" p) [a,.Name T p2] [] pos) (Qc f ea):=by
 obtain⟨t,p1,a1⟩:=ha.h;refine⟨_,gR Gw hg hm iT (pK p1 (pK (CN (v:=.ty n) Ly JR hb rfl hn hd) pN rfl) h1) (by decide) (by decide) h1 rfl,λH0 A0 G al H st s env Q R I E q k=>a1 H0 A0 G al H st s env _ _ I E q λx aC bc v H1 e1 I1 d1 q1=>?_⟩;split at q1
 ·obtain⟨ty,mem⟩:=d1.ty;exact⟨v,n,_,_,rfl,ty,hf _ mem,(k.go I1 e1).here I1 (.d (.bl _)) q1⟩
 ·obtain⟨b,ys,rfl,g⟩:=Dq I1 d1 q1.1;exact⟨_,n,"list",_,rfl,.lst g,hf _ (by simp),(k.go I1 e1).here I1 (.d (.bl _)) q1.2⟩
theorem HK{K:aH}{n:String}{f:String->Bool}(h1:PySem.W.kitOne K (.type "NoneType") (.type n)=some (f "NoneType"))(h2:PySem.W.kitOne K (.type "bool") (.type n)=some (f "bool"))(h3:PySem.W.kitOne K (.type "int") (.type n)=some (f "int"))(h4:PySem.W.kitOne K (.type "str") (.type n)=some (f "str"))(h5:PySem.W.kitOne K (.type "list") (.type n)=some (f "list"))(h6:PySem.W.kitOne K (.type "tuple") (.type n)=some (f "tuple")):IsT K n f:=λt ht=>by
 simp only[List.mem_cons,List.not_mem_nil,or_false]at ht;rcases ht with rfl | rfl | rfl | rfl | rfl | rfl<;>assumption
@[reducible] def vp(o1 o2:JP)(ea eb ec:DX)(env:bt)(st:aF)(Q:DC):Prop:=ea env st λx aC=>eb env aC λy bp=>o1 x y bp λz iS=>match z with
 | .dat (.bool b)=>if b=true then ec env iS λw uQ=>o2 y w uQ Q else Q (.dat (.bool false)) iS
 | _=>False
theorem zY{J:KF}{r r':R2}{o1 o2:JP}{ta tb tc:TE}{ea eb ec:DX}(h1:AO J r o1)(h2:AO J r' o2)(ha:AE J ta ea)(hb:AE J tb eb)(hc:AE J tc ec):AE J (Bw r r' ta tb tc) (vp o1 o2 ea eb ec):=λH0 A0 G al H st s env Q R I E q k=>by
 refine ha H0 A0 G al H st s env _ _ I E q λx aC bc v H1 e1 I1 d1 q1=>?_
 refine hb H0 A0 G bc H1 aC s env _ _ I1 (E.ext e1) q1 λy bp bW u H2 e2 I2 d2 q2=>?_
 have rW:=e1.trans I1 e2;refine h1 H0 A0 G bW H2 bp v u x y _ _ I2 (d1.ext e2) d2 q2 λz iS Sb w H3 e3 I3 d3 q3=>?_
 have TX:=rW.trans I2 e3;split at q3
 ·rename_i b;rw[aE.gU d3];refine⟨_,rfl,?_⟩
  cases b with
  | false=>exact dI ((k.go I3 TX).here I3 (.d (.bl _)) (by rw[aaF aai]at q3;exact q3))
  | true =>
   rw[aaD rfl]at q3;refine cT (hc H0 A0 G Sb H3 iS s env _ _ I3 (E.ext TX) q3 λw uQ P4 u4 H4 e4 I4 d4 q4=>?_);exact h2 H0 A0 G P4 H4 uQ u u4 y w Q R I4 ((d2.ext e3).ext e4) d4 q4 (k.go I4 (TX.trans I3 e4))
 ·exact q3.elim
theorem zZ{X:Cx}{Y:YK}{a b c:Expr}{ea eb ec:DX}{pos:Pos}{op op':CmpOp}{r r':R2}{o1 o2:JP}(ho:gQ X (compareOp op) r)(ho':gQ X (compareOp op') r')(h1:AO (kf X Y) r o1)(h2:AO (kf X Y) r' o2)(ha:aZ X Y a ea)(hb:aZ X Y b eb)(hc:aZ X Y c ec)
  (hm:lastMarks [op,op'] [b,c]=false:=by with_unfolding_all rfl):aZ X Y (.Compare a [op,op'] [b,c] pos) (vp o1 o2 ea eb ec):=by
 obtain⟨ta,p1,a1⟩:=ha.h;obtain⟨tb,p2,a2⟩:=hb.h;obtain⟨tc,p3,a3⟩:=hc.h;exact⟨_,Gh ho ho' p1 p2 p3 hm,zY h1 h2 a1 a2 a3⟩
theorem g9{X:Cx}{Y:YK}{a b c:Expr}{ea eb ec:DX}{pos:Pos}{op op':CmpOp}{r r':R2}{o1 o2:JP}(ho:gQ X (compareOp op) r)(ho':gQ X (compareOp op') r')(h1:AO (kf X Y) r o1)(h2:AO (kf X Y) r' o2)(ha:aZ X Y a ea)(hb:aZ X Y b eb)(hc:aZ X Y c ec)
  (hm:lastMarks [op,op'] [b,c]=false:=by with_unfolding_all rfl):xj X Y (.Compare a [op,op'] [b,c] pos) (Dg (vp o1 o2 ea eb ec)):=by
 obtain⟨ta,p1,a1⟩:=ha.h;obtain⟨tb,p2,a2⟩:=hb.h;obtain⟨tc,p3,a3⟩:=hc.h;exact⟨_,Gi ho ho' p1 p2 p3 hm,BP (zY h1 h2 a1 a2 a3)⟩
theorem bO{c:Prop}[Decidable c]{A B:Prop}(h1:c->A)(h2:¬ c->B):if decide c=true then A else B:=by
 by_cases e:c
 ·rw[aaD (aau e)];exact h1 e
 ·rw[aaF (λz=>e (abG z))];exact h2 e
theorem eO{c:Prop}[Decidable c]{A B:Prop}(h1:¬ c->A)(h2:c->B):if (!decide c)=true then A else B:=by
 by_cases e:c
 ·rw[aau e];exact dI (h2 e)
 ·rw[aax e];exact cT (h1 e)
theorem TZ{b:Bool}{A B:Prop}(h1:b=true->A)(h2:b=false->B):if b=true then A else B:=by
 cases b with
 | true=>exact cT (h1 rfl)
 | false=>exact dI (h2 rfl)
theorem yv{α:Type}{xs:List α}{j:Nat}{x:α}(h:xs[j]?=some x):sP xs (j:Int)=some x:=by
 have hl:=(bz h).1;unfold sP FC;rw[if_pos (by omega),if_pos (by omega)];show xs[((j:Nat):Int).toNat]?=some x;rw[Int.toNat_natCast];exact h
theorem Lz{α:Type}{xs:List α}{n:Int}(h:(xs.length:Int)=n)(h0:0 < n)(i:Int):∃x,x∈xs/\sP xs (i % n)=some x:=by
 have a:=aa5 i (b:=n) (by omega);have b:=aaW i h0;obtain⟨j,hj⟩:∃j:Nat,i % n=(j:Int):=⟨(i % n).toNat,by omega⟩;have hl:j < xs.length:=by omega
 rw[hj];exact⟨xs[j],ab8 hl,yv (cW hl)⟩
theorem HL{K:aH}{P:Addr->Prop}{H:Hp}{ns:List Int}:bR (aE K P H) (ns.map V.int) (ns.map PyData.int):=⟨by simp,λi y x hy hx=>by
 rw[aaR]at hy hx
 cases q:ns[i]? with
 | none=>rw[q]at hy;cases hy
 | some n=>rw[q]at hy hx;cases hy;cases hx;exact .int _⟩
theorem dZ{α β:Type}{f:α->β}{l:List α}{i:Nat}{d:β}(h:(l.map f)[i]?=some d):∃a,l[i]?=some a/\d=f a:=by
 rw[aaR]at h
 cases q:l[i]? with
 | none=>rw[q]at h;cases h
 | some a=>rw[q]at h;cases h;exact⟨a,rfl,rfl⟩
theorem Du{xs ys:List PyData}{i:Nat}{d:PyData}(h:(vh xs ys)[i]?=some d):∃x y,xs[i]?=some x/\ys[i]?=some y/\d=.tuple [x,y]:=by
 unfold vh at h;obtain⟨⟨x,y⟩,h1,rfl⟩:=dZ h;rw[List.getElem?_zip_eq_some]at h1;exact⟨x,y,h1.1,h1.2,rfl⟩
theorem z9{xs ys:List PyData}:(vh xs ys).length=min xs.length ys.length:=by
 unfold vh;rw[List.length_map,List.length_zip]
theorem bg{α β:Type}{f:α->β}{l:List α}{j:Nat}{a:α}(h:l[j]?=some a):sP (l.map f) (j:Int)=some (f a):=yv (by rw[aaR,h];rfl)
@[reducible] def Qd(n:Nat)(ea:DX)(env:bt)(st:aF)(Q:DC):Prop:=ea env st λx aC=>match kT aC x with
 | some ds=>match ds[n]? with
  | some d=>Q (.dat d) aC
  | none=>False
 | none=>False
theorem aj{X:Cx}{Y:YK}{a:Expr}{ea:DX}{pos p:Pos}{n:Nat}{j}(ha:aZ X Y a ea)(hs:xX (.Constant (.int (n:Int)) j p):=by exact λ_ _=>rfl):aZ X Y (.Subscript a (.Constant (.int (n:Int)) j p) pos) (Qd n ea):=by
 obtain⟨ta,p1,a1⟩:=ha.h;refine⟨_,cY Gm p1 pI hs,λH0 A0 G al H st s env Q R I E q k=>a1 H0 A0 G al H st s env _ _ I E q λx aC bc v H1 e1 I1 d1 q1=>?_⟩;split at q1
 ·rename_i ds e;split at q1
  ·rename_i d hd;obtain⟨b,ys,rfl,g1,g2⟩:=d1.PD I1 e;obtain⟨z,g3,g4⟩:=g2.sP (yv hd);have kk:=(k.go I1 e1).here I1 (.d g4) q1;rcases g1 with g1 | g1
   ·exact .inl ⟨b,ys,_,z,rfl,rfl,g1,g3,kk⟩
   ·exact .inr (.inl ⟨b,ys,_,z,rfl,rfl,g1,g3,kk⟩)
  ·exact q1.elim
 ·exact q1.elim
structure Sh(n:Nat)(d:PyData):Prop where
 cl:d.canLay0=true
 dp:d.depth<=n
theorem Qe{n:Nat}:Sh n .none:=⟨rfl,aaP _⟩
theorem sf{n:Nat}{i:Int}:Sh n (.int i):=⟨rfl,aaP _⟩
theorem vq{n:Nat}{x:Str}(h:PyData.canLay0 (.str x)=true:=by decide +kernel):Sh n (.str x):=⟨h,aaP _⟩
theorem vt{n:Nat}:∀{ds:List PyData},(∀d∈ds,Sh n d)->PyData.canLayAll0 ds=true/\PyData.depthAll ds<=n
 | [],_=>⟨rfl,aaP _⟩
 | d::r,h=>by
  obtain⟨h1,h2⟩:=vt (ds:=r) λx hx=>h x (aaL _ hx)
  have hd:=h d aaC;refine⟨?_,?_⟩
  ·show(PyData.canLay0 d&&PyData.canLayAll0 r)=true;rw[hd.cl,h1];rfl
  ·show max (PyData.depth d) (PyData.depthAll r)<=n;exact Nat.max_le.mpr ⟨hd.dp,h2⟩
theorem LA{n:Nat}{ds:List PyData}(h:∀d∈ds,Sh n d):Sh (n + 1) (.list ds):=⟨(vt h).1,Nat.succ_le_succ (vt h).2⟩
theorem iU{n:Nat}{ds:List PyData}(h:∀d∈ds,Sh n d):Sh (n + 1) (.tuple ds):=⟨(vt h).1,Nat.succ_le_succ (vt h).2⟩
theorem pD{n:Nat}:∀d∈([]:List PyData),Sh n d:=λ_ h=>nomatch h
theorem cO{n:Nat}{x:PyData}{ds:List PyData}(h:Sh n x)(r:∀d∈ds,Sh n d):∀d∈x::ds,Sh n d:=λd hd=>by
 rcases aay.mp hd with z | z
 ·rw[z];exact h
 ·exact r d z
theorem yw{α:Type}{n:Nat}{f:α->PyData}{l:List α}(h:∀a∈l,Sh n (f a)):∀d∈l.map f,Sh n d:=λd hd=>by
 obtain⟨a,ha,rfl⟩:=abp.mp hd;exact h a ha
theorem Sh.ok{n:Nat}{d:PyData}(h:Sh n d)(l:n<=64:=by decide):PySem.SeqAt.shaped d=true:=by
 show(d.canLay0&&decide (d.depth<=64))=true;rw[h.cl,aau (aaB h.dp l)];rfl
theorem Sh.self{n:Nat}{d:PyData}(h:Sh n d):PyData.eqv d d=true:=PySem.SeqAt.eqv_refl _ h.cl
def sub{α:Type}:List Nat->List α->List α
 | [],_=>[]
 | k::ks,xs=>match xs[k]? with
  | some x=>x::sub ks xs
  | none=>sub ks xs
def Wn{α:Type}:List Nat->List α->List α->List α
 | k::ks,y::ys,xs=>Wn ks ys (xs.set k y)
 | _,_,xs=>xs
def Ce.nd:Ce->Prop
 | .deep _=>False
 | _=>True
section
variable {K:aH} {J:KF} {H0 H H1:Hp} {A0 G:Addr->Prop} {al bc:List (List Addr)} {st aC:aF} {ks:List Nat}
end
theorem iw{s u:DS}{DD:cb}{env:bt}{st:aF}(k:∀R:bt->aF->Prop,(∀env' st',u DD env' st'->R env' st')->s {DD with nx:=R} env st):HE s u DD env st:=k (u DD) (λ_ _ h=>h)
abbrev Bq:=List (Str×PyData)
def EG(K:aH)(P:Addr->Prop)(H:Hp)(dd:Option Addr)(fs:Bq):Prop:=fs=[]∨∃dx vs,dd=some dx/\H dx=some (.ext (XD dx vs))/\¬ P dx/\vs.map (·.1)=fs.map (·.1)/\bR (aE K P H) (vs.map (·.2)) (fs.map (·.2))
theorem EG.sub{K:aH}{P P':Addr->Prop}{H:Hp}{dd:Option Addr}{fs:Bq}(h:EG K P H dd fs)(s:∀c,P' c->P c):EG K P' H dd fs:=by
 rcases h with h | ⟨dx,vs,h1,h2,h3,h4,h5⟩
 ·exact .inl h
 ·exact .inr ⟨dx,vs,h1,h2,λz=>h3 (s _ z),h4,h5.imp λy x z=>z.sub s⟩
def yx(K:aH)(E:XK)(P0:Addr->Prop)(Ex:Addr->Bq->Prop):YK:=⟨λH0 A0 G=>(∀c,P0 c->G c)/\∀C fs dd H',Ex C fs->jb A0 H0 H'->EG K P0 H' dd fs->E (.ref C) dd H',λ_ _ _ _ s h=>⟨λc z=>s c (h.1 c z),h.2⟩⟩
abbrev HM:=List PyData->(PyData->Prop)->(Addr->Bq->Prop)->Prop
def Wo(K:aH)(T:HM):Sp:=λvs H Q E=>∃(P:Addr->Prop) (ds:List PyData),(∀c,P c->∃o,H c=some o/\kJ o)/\bR (aE K P H) vs ds/\T ds (λd=>∀v H',aS H H'->aE K P H' v d->Q v H') (λC fs=>∀dd H',aS H H'->EG K P H' dd fs->E (.ref C) dd H')
def EH(K:aH)(sp:Sp)(T:HM):Prop:=∀(vs:List V) (H:Hp) (Q:VK) (E:XK) (P:Addr->Prop) (ds:List PyData),(∀c,P c->∃o,H c=some o/\kJ o)->bR (aE K P H) vs ds->T ds (λd=>∀v H',aS H H'->aE K P H' v d->Q v H') (λC fs=>∀dd H',aS H H'->EG K P H' dd fs->E (.ref C) dd H')->sp vs H Q E
theorem HN{K:aH}{T:HM}:EH K (Wo K T) T:=λvs H Q E P ds h1 h2 h3=>⟨P,ds,h1,h2,h3⟩
def Aa(T:HM):Prop:=∀ds (Q Q':PyData->Prop) (X X':Addr->Bq->Prop),(∀d,Q d->Q' d)->(∀C fs,X C fs->X' C fs)->T ds Q X->T ds Q' X'
@[reducible] def yy(T:HM)(Ex:Addr->Bq->Prop)(xs:List DV)(st:aF)(Q:DC):Prop:=dz xs st λds aC=>T ds (λd=>Q (.dat d) aC) Ex
section
variable {K:aH} {E:XK} {P0:Addr->Prop} {Ex:Addr->Bq->Prop}
theorem HP{sp:Sp}{T:HM}(h:EH K sp T)(m:Aa T):AB ⟨K,yx K E P0 Ex⟩ (λvs H Q=>sp (vs++[]) H Q E) (yy T Ex):=λH0 A0 G al H st vs ds Q R I hp q k=>by
 obtain⟨es,aC,E1,I1,F1,q1⟩:=eM I hp q;rw[abb];refine h vs H R E (Fb G al aC) es (λc hc=>I1.qB hc) F1 (m _ _ _ _ _ (λd hd v H' s r=>(k.go I1 E1).laid I1 s (.d r) hd) (λC fs hx dd H' s x=>?_) q1);have lk:=I1.lk;exact lk.2 C fs dd H' hx (I1.fr.trans (jb.of s)) (x.sub λc z=>.inl (lk.1 c z))
end
section
variable {X:Cx} {a b c e:Expr} {es:List Expr} {pos p:Pos} {n:Nat} {d:n9} {x:Str} {E:XK} {P0:Addr->Prop} {Ex:Addr->Bq->Prop}
theorem HQ{J:KF}{t:TA}{sp:Sp}{o:Vf}(h:AB J (λvs H Q=>sp (vs++[]) H Q E) o)(ha:AA J t n d):AE J (zz sp [] E t) (xl o d):=λH0 A0 G al H st s env Q R I En q k=>by
 refine ha H0 A0 G al H st s env _ _ I En q λxs aC bc vs H1 e1 I1 d1 q1=>?_
 exact h H0 A0 G bc H1 aC vs xs Q R I1 d1 q1.2 (k.go I1 e1)
theorem HR{kk:Nat}{ps:List Str}{sp:Sp}{T:HM}(h:bM X.prog X.w X.K X.mg X.base (xg X.prog X.w) x kk ps sp)(hx:Passes (xg X.prog X.w) X E)(hs:EH X.K sp T)(m:Aa T)(hr:cX kk X.A)(hg:Gl X x)(ha:qh X (yx X.K E P0 Ex) (e::es) n d)(hdb:(x == ("__debug__" : Str))=false:=by decide)
  (he:starEach (e::es) X.env=(false,eval e X.env)::starEach es X.env:=by rfl) (hpl:(backTo pos (starEach es X.env)).any (·.1)=false:=by rfl):aZ X (yx X.K E P0 Ex) (.Call (.Name x p) (e::es) [] pos) (xl (yy T Ex) d):=by
 obtain⟨t,p1,a1⟩:=ha.h;exact⟨_,Pq h hx hr hg p1 hdb he hpl,HQ (HP hs m) a1⟩
@[reducible] def yz(C:Addr)(fs:List Str)(Ex:Addr->Bq->Prop)(d:n9)(_:cb)(env:bt)(st:aF):Prop:=d env st λxs aC=>xs.length=fs.length/\dz xs aC λds _=>Ex C (fs.zip ds)
theorem EI{C:Addr}{fs:List Str}{np cpos:Pos}(hz:V6 X E)(M:KY X.prog X.w X.K X.mg X.base C fs)(hr:cX 2 X.A)(hg:Gl X x)(hm:X.mg x=some (.ref C))(hc:X.calm=true)(ha:qh X (yx X.K E P0 Ex) (e::es) n d)(hdb:(x == ("__debug__" : Str))=false:=by decide)
  (he:starEach (e::es) X.env=(false,eval e X.env)::starEach es X.env:=by rfl) (hpl:(backTo cpos (starEach es X.env)).any (·.1)=false:=by rfl):BR X (yx X.K E P0 Ex) (.Raise (some (.Call (.Name x np) (e::es) [] cpos)) none pos) (yz C fs Ex d):=by
 obtain⟨t,p1,a1⟩:=ha.h;refine⟨_,Ew hz M hr hg hm hc p1 hdb he hpl,λH0 A0 G al H st σ env DD D I En q k=>?_⟩;refine a1 H0 A0 G al H st σ env _ _ I En q λxs aC bc vs H1 e1 I1 d1 q1=>?_
 obtain⟨_,hl,q1⟩:=q1;obtain⟨ds,bp,E2,I2,F2,q2⟩:=eM I1 d1 q1;refine⟨d1.1.trans hl,λdx H2 nd s g=>?_⟩;have lk:=I2.lk
 have np':¬ P0 dx:=λz=>by
  obtain⟨o,e',_⟩:=I2.gs dx (lk.1 dx z);rw[nd]at e';cases e'
 have lv:vs.length=fs.length:=d1.1.trans hl;have ld:ds.length=fs.length:=by rw[← F2.1];exact lv
 refine lk.2 C _ (some dx) H2 q2 (I2.fr.trans (jb.of s)) (.inr ⟨dx,_,rfl,g,np',?_,?_⟩)
 ·rw[acJ (by omega),acJ (by omega)]
 ·rw[List.map_snd_zip (by omega),List.map_snd_zip (by omega)];exact F2.imp λy x z=>(z.sub λc w=>.inl (lk.1 c w)).same s
theorem xq{N:List Str}{body:List Stmt}{vs:List V}{ds:List PyData}{H:Hp}{Q:VK}{P:Addr->Prop}(hP:∀c,P c->∃o,H c=some o/\kJ o)(hv:bR (aE X.K P H) vs ds)(hE:∀C fs,Ex C fs->∀dd H',aS H H'->EG X.K P H' dd fs->E (.ref C) dd H')
  (h:gZ X (yx X.K E P Ex) body {nx:=λ_ _=>∀v H',aS H H'->aE X.K P H' v .none->Q v H',rt:=λdv st=>oY dv st λd _=>∀v H',aS H H'->aE X.K P H' v d->Q v H'} (ds.map (λd=>some (DV.dat d))++List.replicate (N.length - ds.length) none) []) :
  ∃t,qo X body t/\t {nx:=λ_ H'=>Q .non H',rt:=Q} (start N vs) H :=
 xp (Y:=yx X.K E P Ex) hP hv ⟨λ_ z=>z,λC fs dd H' e k x=>hE C fs e dd H' (λc o q=>k c o id q) x⟩ h
end
def Qf(C:Addr)(fs:Bq):Ob where
 lies K P H fp:=∃a dd,fp=[a]/\H a=some (.ext (NG C a dd))/\EG K P H dd fs
 keep K P H fp P' H' h hP kp s:=by
  obtain⟨a,dd,rfl,h1,h2⟩:=h;refine⟨a,dd,rfl,kp a aaC _ h1,?_⟩;rcases h2 with h | ⟨dx,vs,g1,g2,g3,g4,g5⟩
  ·exact .inl h
  ·obtain⟨n',q'⟩:=ba.mp (s dx _ (ba.mpr ⟨g3,g2⟩));exact .inr ⟨dx,vs,g1,q',n',g4,g5.imp λy x z=>aX.same s z⟩
 mu K P H fp h:=by
  obtain⟨a,dd,rfl,h1,_⟩:=h;intro b hb;rw[ik hb];exact⟨_,h1,.inr (.inr ⟨_,rfl⟩)⟩
section
variable {X:Cx} {CW:Addr} {cx n:Str} {i:Nat} {b₀:Stmt} {suite:List Stmt} {np hpos pos:Pos} {tb:TS}
def Ua(K:aH)(CW:Addr)(i j:Nat)(sp:Sp)(t:TA)(tb:TS):TS:=λD σ H=>t σ H λvs H1=>sp (vs++[]) H1 (λv H2=>D.nx (σ.set j (some v)) H2) (GY K CW i tb D σ)
theorem LB{j:Nat}{y:Str}{py:Pos}{x:Str}{k:Nat}{ps:List Str}{sp:Sp}{e:Expr}{es:List Expr}{t:TA}{p cpos epos:Pos}(h:bM X.prog X.w X.K X.mg X.base (xg X.prog X.w) x k ps sp)(hr:cX k X.A)(hgf:Gl X x)(ha:∀E,PA (X.pb E) (e::es) t)
  (hg:Gl X cx) (hm:X.mg cx=some (.ref CW)) (q:PySem.W.ktsIn X.K CW "BaseException"=true) (hN:X.N.Nodup) (hi:X.N[i]?=some n) (hk:X.env.kindOf n=some .local) (hj:X.N[j]?=some y) (hy:Loc X.env.scope y) (hs:∀a E,qo (X.hand a E) (b₀::suite) tb)
  (hst:X.stack=X.env::X.outer:=by rfl) (hf:X.env.frame=some X.env.locals:=by rfl) (hex:X.ex=[]:=by rfl) (hd:(cx == ("__debug__" : Str))=false:=by decide) (hdb:(x == ("__debug__" : Str))=false:=by decide)
  (he:starEach (e::es) X.env=(false,eval e X.env)::starEach es X.env:=by rfl) (hpl:(backTo cpos (starEach es X.env)).any (·.1)=false:=by rfl) (hsw:swapsWith (.Call (.Name x p) (e::es) [] cpos) (some (.Name y py)) epos.line X.env=pure false:=by rfl) (hfy:X.fn y=true∨X.env.scope.names.lookup y=some .local:=by first | exact .inl rfl | exact .inr rfl | assumption) :
  PS X (.Try [.Assign [.Name y py] (.Call (.Name x p) (e::es) [] cpos) epos] [.ExceptHandler (some (.Name cx np)) (some n) (b₀::suite) hpos] [] [] pos) (Ua X.K CW i j sp t tb):=by
 intro pins s σ H D I hw;obtain⟨f,fd,F,b,kp,m⟩:=h.ex;refine wpAny_Try_except ?_
 let Et:Value->Shared->Prop:=λe s₁=>wpAny (model X.prog X.w) X.A (noteFrame e X.env) (λ_ s₂=>wpAny (model X.prog X.w) X.A (setFlight e none) (λ_ s₃=>wpAny (model X.prog X.w) X.A (handleBy e X.env [.ExceptHandler (some (.Name cx np)) (some n) (b₀::suite) hpos]) (SP X pins D) X.xe s₃) X.xe s₂) X.xe s₁
 have ev:wpAny (model X.prog X.w) X.A (eval (.Call (.Name x p) (e::es) [] cpos) X.env) (EP X pins σ λv H2=>D.nx (σ.set j (some v)) H2) Et s:=by
  refine abw (qp I hgf m ?_ hdb);refine acq (h₀:=X.base) I.ok.mod.kin kp (bU (ha Et cpos pins s σ H _ (I.pb Et) hw) λus s1 ⟨vs,H1,I1,r,q1⟩=>⟨I1.ql,?_⟩) he hpl;have I1':=I1.js;have hl:(us++[]).length=ps.length:=by rw[← (r.append (show Vals [] []from .nil)).length];exact F.len _ _ _ _ q1
  refine acY (acE (F.run X.A X.stack s1 H1 ⟨us,[]⟩ (us++[]) (vs++[]) _ _ hr I1'.OX (b s1 us I1'.ql hl) (r.append .nil) q1) λr s' hq=>?_)
  cases r with
  | error e=>exact K2 hst hf hg hm q hN hi hk hs hd hex I1' hq
  | ok fl =>
   cases fl with
   | ret u=>exact I1'.after hq
   | next=>exact False.elim hq
   | brk=>exact False.elim hq
   | cont=>exact False.elim hq
 have st:wpAny (model X.prog X.w) X.A (execs [.Assign [.Name y py] (.Call (.Name x p) (e::es) [] cpos) epos] X.env) (SP X pins D) Et s:=by
  refine acD (bU (wpAny_Assign_Name (Q:=SP X pins D) (bU ev λv s1 ⟨x,H1,I1,r1,q1⟩=>uE I1 hN hj hy r1 (λs2 I2=>⟨_,H1,I2,q1⟩) hfy) hsw) λfl s1 h1=>?_)
  cases fl with
  | next=>exact abu h1
  | brk=>exact h1
  | cont=>exact h1
  | ret u=>exact h1
 refine aaS st (λfl s1 h1=>?_) λ_ _ z=>z
 cases fl with
 | next=>exact abu h1
 | brk=>exact h1
 | cont=>exact h1
 | ret u=>exact h1
end
@[reducible] def Dv(K:aH)(CW:Addr)(i:Nat)(s:DS)(DD:cb)(env:bt)(st:aF)(C:Addr)(fs:Bq):Prop:=PySem.W.mroIn K C (.ref CW)=some true/\s {nx:=λenv' st'=>DD.nx (env'.set i none) st',rt:=DD.rt,bk:=λenv' st'=>DD.bk (env'.set i none) st',ct:=λenv' st'=>DD.ct (env'.set i none) st'} (env.set i (some (.ref st.length))) (st++[.obj (Qf C fs)])
@[reducible] def HS(K:aH)(CW:Addr)(i j:Nat)(T:HM)(d:n9)(s:DS)(DD:cb)(env:bt)(st:aF):Prop:=d env st λxs aC=>dz xs aC λds bp=>T ds (λv=>DD.nx (env.set j (some (.dat v))) bp) (Dv K CW i s DD env bp)
section
variable {J:KF} {H0:Hp} {A0:Addr->Prop} {G:Addr->Prop} {al bc:List (List Addr)} {H H1:Hp} {st aC:aF}
theorem jz.Qg{K:aH}{P:Addr->Prop}{s:St}{env:bt}(h:jz K P H al s env)(i:Nat):jz K P H al (s.set i none) (env.set i none):=by
 refine⟨by rw[aaH,aaH];exact h.1,λj u hu=>?_⟩;rw[abI]at hu;by_cases hj:i=j
 ·subst hj;rw[aaD rfl]at hu;split at hu
  ·cases hu
  ·cases hu
 ·rw[aaF hj]at hu;obtain⟨w,h1,h2⟩:=h.2 j u hu;exact⟨w,by rw[aaq hj];exact h1,h2⟩
theorem DI.Qh(I:DI J H0 A0 G al H st){H2:Hp}(s:aS H H2){a C:Addr}{dd:Option Addr}{fs:Bq}(h:H2 a=none)(x:EG J (Fb G al st) H2 dd fs):Ext al H st (al++[[a]]) (upd H2 a (.ext (NG C a dd))) (st++[.obj (Qf C fs)])/\DI J H0 A0 G (al++[[a]]) (upd H2 a (.ext (NG C a dd))) (st++[.obj (Qf C fs)]):=by
 have s2:aS H (upd H2 a (.ext (NG C a dd))):=s.trans (eL h);have ha:H a=none:=s.free h;refine I.more (c:=.obj (Qf C fs)) (λb hb=>by rw[ik hb];exact ha) (by simp) s2 (λb hb=>by rw[ik hb];exact⟨_,uS⟩) ⟨by simp,a,dd,rfl,uS,?_⟩;rcases x with x | ⟨dx,vs,g1,g2,g3,g4,g5⟩
 ·exact .inl x
 have hda:dx≠a:=λz=>by rw[z,h]at g2;cases g2
 have hb:∀c,Fb G (al++[[a]]) (st++[.obj (Qf C fs)]) c->Fb G al st c∨c=a:=λc z=>by
  rcases z with z | ⟨k,fp,ce,e1,e2,e3,e4⟩
  ·exact .inl (.inl z)
  ·by_cases hk:k < al.length
   ·rw[aae hk]at e1;rw[aae (by rw[← I.len];exact hk)]at e3;exact .inl (.inr ⟨k,fp,ce,e1,e2,e3,e4⟩)
   ·rw[aam (by omega)]at e1;rw[ik (aan e1)]at e2;exact .inr (ik e2)
 refine .inr ⟨dx,vs,g1,by rw[uN hda];exact g2,λz=>?_,g4,g5.imp λy x z=>aX.same (ft λc o n e=>⟨λw=>?_,?_⟩) z⟩
 ·rcases hb dx z with w | w
  ·exact g3 w
  ·exact hda w
 ·rcases hb c w with w | w
  ·exact n w
  ·rw[w,h]at e;cases e
 ·rw[uN (nN e h)];exact e
theorem uf.hand{DD:cb}{D:Ends}(k:uf J H0 A0 G al H st DD D)(i:Nat):uf J H0 A0 G al H st {nx:=λenv' st'=>DD.nx (env'.set i none) st',rt:=DD.rt,bk:=λenv' st'=>DD.bk (env'.set i none) st',ct:=λenv' st'=>DD.ct (env'.set i none) st'} {nx:=λσ' H'=>D.nx (σ'.set i none) H',rt:=D.rt,bk:=λσ' H'=>D.bk (σ'.set i none) H',ct:=λσ' H'=>D.ct (σ'.set i none) H'} :=
 ⟨λenv' st' al' s' H' e I E q=>k.nx _ st' al' _ H' e I (E.Qg i) q,k.rt,λenv' st' al' s' H' e I E q=>k.bk _ st' al' _ H' e I (E.Qg i) q,λenv' st' al' s' H' e I E q=>k.ct _ st' al' _ H' e I (E.Qg i) q⟩
end
section
variable {X:Cx} {Y:YK} {CW:Addr} {cx n x:Str} {i:Nat} {b₀:Stmt} {suite:List Stmt} {np hpos pos:Pos} {s:DS} {nn:Nat} {d:n9} {e:Expr} {es:List Expr}
theorem LC{J:KF}{tb:TS}{H0:Hp}{A0:Addr->Prop}{G:Addr->Prop}{al:List (List Addr)}{H H2:Hp}{st:aF}{σ:St}{env:bt}{DD:cb}{D:Ends}{C:Addr}{fs:Bq}{dd:Option Addr}(hs:AS J tb s)(I:DI J H0 A0 G al H st)(En:jz J (Fb G al st) H al σ env)(k:uf J H0 A0 G al H st DD D)(q:Dv J CW i s DD env st C fs)(sm:aS H H2)(x:EG J (Fb G al st) H2 dd fs):GY J CW i tb D σ (.ref C) dd H2:=by
 refine⟨C,rfl,q.1,λa ha=>?_⟩;obtain⟨E1,I1⟩:=I.Qh (C:=C) sm ha x;refine hs H0 A0 G _ _ _ _ _ _ _ I1 ((En.ext E1).set ?_ i) q.2 ((k.go I1 E1).hand i);exact⟨a,[],by rw[← I.len,aam (aaj _),aa3];rfl,rfl⟩
theorem LD{j:Nat}{y:Str}{py:Pos}{k:Nat}{ps:List Str}{sp:Sp}{T:HM}{p cpos epos:Pos}(h:bM X.prog X.w X.K X.mg X.base (xg X.prog X.w) x k ps sp)(hsp:EH X.K sp T)(mo:Aa T)(hr:cX k X.A)(hgf:Gl X x)(ha:∃t,(∀E,PA (X.pb E) (e::es) t)/\AA (kf X Y) t nn d)
  (hg:Gl X cx) (hm:X.mg cx=some (.ref CW)) (q:PySem.W.ktsIn X.K CW "BaseException"=true) (hN:X.N.Nodup) (hi:X.N[i]?=some n) (hk:X.env.kindOf n=some .local) (hj:X.N[j]?=some y) (hy:Loc X.env.scope y) (hs:∃tb,(∀a E,qo (X.hand a E) (b₀::suite) tb)/\AS (kf X Y) tb s)
  (hst:X.stack=X.env::X.outer:=by rfl) (hf:X.env.frame=some X.env.locals:=by rfl) (hex:X.ex=[]:=by rfl) (hd:(cx == ("__debug__" : Str))=false:=by decide) (hdb:(x == ("__debug__" : Str))=false:=by decide)
  (he:starEach (e::es) X.env=(false,eval e X.env)::starEach es X.env:=by rfl) (hpl:(backTo cpos (starEach es X.env)).any (·.1)=false:=by rfl) (hsw:swapsWith (.Call (.Name x p) (e::es) [] cpos) (some (.Name y py)) epos.line X.env=pure false:=by rfl) (hfy:X.fn y=true∨X.env.scope.names.lookup y=some .local:=by first | exact .inl rfl | exact .inr rfl | assumption) :
  BR X Y (.Try [.Assign [.Name y py] (.Call (.Name x p) (e::es) [] cpos) epos] [.ExceptHandler (some (.Name cx np)) (some n) (b₀::suite) hpos] [] [] pos) (HS X.K CW i j T d s):=by
 obtain⟨t,p1,a1⟩:=ha;obtain⟨tb,p2,a2⟩:=hs;refine⟨_,LB h hr hgf p1 hg hm q hN hi hk hj hy p2 hst hf hex hd hdb he hpl hsw hfy,λH0 A0 G al H st σ env DD D I En q k=>?_⟩;refine a1 H0 A0 G al H st σ env _ _ I En q λxs aC bc vs H1 e1 I1 d1 q1=>?_
 obtain⟨ds,bp,E2,I2,F2,q2⟩:=eM I1 d1 q1.2;rw[abb];have e2:=e1.trans I1 E2;have YD:=En.ext e2;have k2:=k.go I2 e2;refine hsp vs H1 _ _ (Fb G bc bp) ds (λc hc=>I2.qB hc) F2 (mo _ _ _ _ _ (λd hd v H' s r=>?_) (λC fs hx dd H' s x=>LC a2 I2 YD k2 hx s x) q2);exact k2.nx _ bp bc _ H' (.same s) (I2.same s) ((YD.ext (.same s)).set (.d r) j) hd
@[reducible] def Vl(K:aH)(f:Str)(ea:DX)(env:bt)(st:aF)(Q:DC):Prop:=ea env st λx aC=>match x with
 | .ref k=>match aC[k]? with
  | some (.obj o)=>∃(C:Addr) (fs:Bq) (d:PyData),o=Qf C fs/\(KX K C/\PySem.W.hasDictIn K C=true/\fR K C f)/\fs.lookup f=some d/\Q (.dat d) aC
  | _=>False
 | _=>False
theorem xr{K:aH}{P:Addr->Prop}{H:Hp}{f:Str}{d:PyData}:∀{vs:List (Str×V)} {fs:Bq},vs.map (·.1)=fs.map (·.1)->bR (aE K P H) (vs.map (·.2)) (fs.map (·.2))->fs.lookup f=some d->∃v,vs.lookup f=some v/\aE K P H v d
 | [],[],_,_,h=>by cases h
 | (a,v)::vs,(b,u)::fs,e,h,hl=>by
  have e1:a=b:=by simpa using(List.cons.inj e).1
  have e2:=(List.cons.inj e).2;subst e1;by_cases z:f=a
  ·subst z;rw[acX]at hl;cases hl;exact⟨v,acX,h.2 0 v _ rfl rfl⟩
  ·have zb:(f == a)=false:=by simpa using z
   rw[List.lookup_cons,zb]at hl;rw[List.lookup_cons,zb];exact xr e2 ⟨by have:=h.1;simpa using this,λi y x h1 h2=>h.2 (i + 1) y x (by simpa using h1) (by simpa using h2)⟩ hl
 | [],_::_,e,_,_=>by cases e
 | _::_,[],e,_,_=>by cases e
theorem Ub{a:Expr}{ea:DX}{f:Str}(ha:aZ X Y a ea)(hb:attributeBase a f X.env (eval a X.env)=eval a X.env:=by rfl):aZ X Y (.Attribute a f pos) (Vl X.K f ea):=by
 obtain⟨t,p1,a1⟩:=ha.h;refine⟨_,To p1 hb,λH0 A0 G al H st s env Q R I En q k=>?_⟩;refine a1 H0 A0 G al H st s env _ _ I En q λx aC bc v H1 e1 I1 d1 q1=>?_
 cases x with
 | dat d=>exact q1.elim
 | ref j =>
  dsimp only at q1;split at q1
  ·rename_i o hs;obtain⟨C,fs,d,rfl,⟨g1,g2,g3⟩,hl,q⟩:=q1;obtain⟨b,r,h1,rfl⟩:=d1;obtain⟨_,a',dd,e0,ha',hx⟩:=I1.cel j _ _ h1 hs;cases e0;rcases hx with hx | ⟨dx,vs,rfl,f2,f3,f4,f5⟩
   ·rw[hx]at hl;cases hl
   ·obtain⟨v,hv,hr⟩:=xr f4 f5 hl;exact⟨b,C,dx,vs,v,_,rfl,ha',λh p=>Pr h p,f2,g1,g2,g3,hv,(k.go I1 e1).here I1 (.d hr) q⟩
  ·exact q1.elim
@[reducible] def EJ(K:aH)(D:Value)(ea:DX)(env:bt)(st:aF)(Q:DC):Prop:=ea env st λx aC=>match x with
 | .ref k=>match aC[k]? with
  | some (.obj o)=>∃(C:Addr) (fs:Bq) (b:Bool),o=Qf C fs/\(KX K C/\PySem.W.hasDictIn K C=true)/\PySem.W.kitOne K (.ref C) D=some b/\Q (.dat (.bool b)) aC
  | _=>False
 | _=>False
theorem LF{a:Expr}{ea:DX}{p p2:Pos}{T:Str}{D:Addr}(hg:Gl X "isinstance")(hm:X.mg "isinstance"=none)(Ly:Gl X T)(JR:X.mg T=some (.ref D))(ha:aZ X Y a ea)(hd:(T == ("__debug__" : Str))=false:=by decide)
  (h1:starEach [a,.Name T p2] X.env=(false,eval a X.env)::starEach [.Name T p2] X.env:=by rfl):aZ X Y (.Call (.Name "isinstance" p) [a,.Name T p2] [] pos) (EJ X.K (.ref D) ea):=by
 obtain⟨t,p1,a1⟩:=ha.h;refine⟨_,gR xc hg hm iT (pK p1 (pK (qq (v:=.ref D) Ly JR rfl hd) pN rfl) h1) (by decide) (by decide) h1 rfl,λH0 A0 G al H st s env Q R I En q k=>a1 H0 A0 G al H st s env _ _ I En q λx aC bc v H1 e1 I1 d1 q1=>?_⟩
 cases x with
 | dat d=>exact q1.elim
 | ref j =>
  dsimp only at q1;split at q1
  ·rename_i o hs;obtain⟨C,fs,bb,rfl,⟨g1,g2⟩,hl,q⟩:=q1;obtain⟨b,r,h1,rfl⟩:=d1;obtain⟨_,a',dd,e0,ha',hx⟩:=I1.cel j _ _ h1 hs;cases e0;exact⟨b,C,.ref D,.ref D,bb,_,rfl,ha',λh p=>C6 h p,g1,g2,rfl,hl,(k.go I1 e1).here I1 (.d (.bl _)) q⟩
  ·exact q1.elim
theorem LG{a:Expr}{ea:DX}{p p2:Pos}{T:Str}{n:String}(hg:Gl X "isinstance")(hm:X.mg "isinstance"=none)(Ly:Gl X T)(JR:X.mg T=none)(hb:bootBuiltins T=some (.type n))(ha:aZ X Y a ea)(hn:T≠"__name__":=by decide)(hd:(T == ("__debug__" : Str))=false:=by decide)
  (h1:starEach [a,.Name T p2] X.env=(false,eval a X.env)::starEach [.Name T p2] X.env:=by rfl):aZ X Y (.Call (.Name "isinstance" p) [a,.Name T p2] [] pos) (EJ X.K (.type n) ea):=by
 obtain⟨t,p1,a1⟩:=ha.h;refine⟨_,gR xc hg hm iT (pK p1 (pK (CN (v:=.ty n) Ly JR hb rfl hn hd) pN rfl) h1) (by decide) (by decide) h1 rfl,λH0 A0 G al H st s env Q R I En q k=>a1 H0 A0 G al H st s env _ _ I En q λx aC bc v H1 e1 I1 d1 q1=>?_⟩
 cases x with
 | dat d=>exact q1.elim
 | ref j =>
  dsimp only at q1;split at q1
  ·rename_i o hs;obtain⟨C,fs,bb,rfl,⟨g1,g2⟩,hl,q⟩:=q1;obtain⟨b,r,h1,rfl⟩:=d1;obtain⟨_,a',dd,e0,ha',hx⟩:=I1.cel j _ _ h1 hs;cases e0;exact⟨b,C,.ty n,.type n,bb,_,rfl,ha',λh p=>C6 h p,g1,g2,rfl,hl,(k.go I1 e1).here I1 (.d (.bl _)) q⟩
  ·exact q1.elim
def Uc(J:KF)(n:Nat)(d:n9):TA:=λs H R=>∃(H0:Hp) (A0:Addr->Prop) (G:Addr->Prop) (al:List (List Addr)) (st:aF) (env:bt) (Q:List DV->aF->Prop),DI J H0 A0 G al H st/\jz J (Fb G al st) H al s env/\d env st Q/\Yy J H0 A0 G al H st (λl s=>l.length=n/\Q l s) R
def Ud(J:KF)(s:DS):TS:=λD σ H=>∃(H0:Hp) (A0:Addr->Prop) (G:Addr->Prop) (al:List (List Addr)) (st:aF) (env:bt) (DD:cb),DI J H0 A0 G al H st/\jz J (Fb G al st) H al σ env/\s DD env st/\uf J H0 A0 G al H st DD D
theorem qh.pa(h:qh X Y es nn d):PA X es (Uc (kf X Y) nn d):=by
 obtain⟨t,p1,a1⟩:=h.h;rintro w pins s σ H R I ⟨H0,A0,G,al,st,env,Q,h1,h2,h3,h4⟩;exact p1 w pins s σ H R I (a1 H0 A0 G al H st σ env Q R h1 h2 h3 h4)
theorem ug.ZA{ss:List Stmt}(h:ug X Y ss s):qo X ss (Ud (kf X Y) s):=by
 obtain⟨t,p1,a1⟩:=h.h;rintro pins s σ H D I ⟨H0,A0,G,al,st,env,DD,h1,h2,h3,h4⟩;exact p1 pins s σ H D I (a1 H0 A0 G al H st σ env DD D h1 h2 h3 h4)
theorem Ue(h:∀E,qh (X.pb E) Y es nn d):∃t,(∀E,PA (X.pb E) es t)/\AA (kf X Y) t nn d :=
 ⟨Uc (kf X Y) nn d,λE=>(h E).pa,λH0 A0 G al H st s env Q R h1 h2 h3 h4=>⟨H0,A0,G,al,st,env,Q,h1,h2,h3,h4⟩⟩
theorem Ug{ss:List Stmt}(h:∀a E,ug (X.hand a E) Y ss s):∃tb,(∀a E,qo (X.hand a E) ss tb)/\AS (kf X Y) tb s :=
 ⟨Ud (kf X Y) s,λa E=>(h a E).ZA,λH0 A0 G al H st σ env DD D h1 h2 h3 h4=>⟨H0,A0,G,al,st,env,DD,h1,h2,h3,h4⟩⟩
end
section
variable {X:Cx} {Y:YK} {a b c e:Expr} {es:List Expr} {pos p:Pos} {ea eb ec:DX} {K:aH} {J:KF} {n:Nat} {d:n9}
theorem yA:TL J OL xn:=λH0 A0 G al H st s env vs ds Q R I E h q k=>by
 unfold xn at q;split at q
 ·have:=h.1
  cases vs with
  | nil=>exact⟨rfl,k _ _ al _ H .refl I E q⟩
  | cons v r=>simp at this
 ·exact q.elim
def NV(K:aH):R2:=λx y H Q=>∃l k xs,x=.ref l/\y=.int k/\dC K H l xs/\-(2 ^ 63)<=k/\k < 2 ^ 63/\xs.length * k.toNat<=sizeLine /\
 ∀p,H p=none->Q (.ref p) (upd H p (.lst (List.replicate k.toNat xs).flatten))
theorem EK(l:Addr)(items:Array Value)(n:Nat)(x:Int)(u:Tok)(sl:Array (Option Value))(hc0:¬(!Builtin.List.listFitsIndex x)=true)(hc1:¬items.size * x.toNat > (2 ^ 63 - 1) / 8)(O0:¬Builtin.List.listTooLong (items.size * x.toNat)=true):
  Meets (Builtin.«list.__mul__» ⟨[.ref l,.int x u],[]⟩) (λ_ R s=>s.heap.get? l=some {cls:=.type "list",dict:=none,data:=.seq items n,slots:=sl}/\R (.ok (.ret (Value.ref s.heap.objs.size))) {s with heap:=s.heap.push {cls:=Value.type "list",data:=Data.seq (List.foldl (λx1 x2=>x1++x2) #[] (List.replicate (if items.isEmpty=true then 0 else x.toNat) items))},toks:=s.toks}) :=
 .of_wp λprog w A R s h=>by
  obtain⟨hp,g,d,tk,os⟩:=s;obtain⟨hl,h⟩:=h;have hsz:=AutoListH.joined_fits O0
  wp_walk;refine acg (aax (Nat.not_lt.mpr hsz)) ?_;wp_walk;exact⟨_,rfl,h⟩
theorem EL(a:Int)(t:Tok)(l:Addr)(items:Array Value)(n:Nat)(sl:Array (Option Value)):
  Meets (Builtin.«int.__rmul__» ⟨[.int a t,.ref l],[]⟩) (λ_ R s=>s.heap.get? l=some {cls:=.type "list",dict:=none,data:=.seq items n,slots:=sl}/\R (.ok (.ret Value.notImplemented)) s) :=
 .of_wp λprog w A R s h=>by obtain⟨hp,g,dd,tk,os⟩:=s;obtain⟨hl,h⟩:=h;wp_walk;exact⟨_,rfl,h⟩
theorem LH:gQ X (binaryOp .Mult) (NV X.K):=by
 intro pins s σ H x y v u Q I rx ry h;obtain⟨l,k,xs,rfl,rfl,hH,h1,h2,hz,q⟩:=h;cases rx;obtain⟨t,rfl⟩:=ry;obtain⟨its,r,⟨⟨c1,d1,a1,GA⟩,n,e,rfl,rfl,rfl⟩,z⟩:=I.list hH;have hl:=r.length;have hlen:its.toArray.size * k.toNat<=sizeLine:=by rw[aaV,← hl];exact hz
 have hcap:¬ its.toArray.size * k.toNat > (2 ^ 63 - 1) / 8:=by
  have:(sizeLine:Nat)<=(2 ^ 63 - 1) / 8:=by decide
  omega
 have hfit:¬ (!Builtin.List.listFitsIndex k)=true:=by
  rw[fitsIndex_both h1 h2];exact aai
 have hlong:¬ Builtin.List.listTooLong (its.toArray.size * k.toNat)=true:=by
  rw[Gp hlen];exact aai
 have hnew:List.foldl (λx1 x2=>x1++x2) #[] (List.replicate (if its.toArray.isEmpty=true then 0 else k.toNat) its.toArray)=(List.replicate k.toNat its).flatten.toArray:=by
  have f0:∀m:Nat,List.foldl (λx1 x2=>x1++x2) #[] (List.replicate m its.toArray)=(List.replicate m its).flatten.toArray:=λm=>by
   have:=foldl_rep its m [];rw[List.nil_append]at this;exact this
  rw[f0]
  cases its with
  | nil=>simp
  | cons a r'=>rw[if_neg (by simp)]
 refine acA (T:="list") (U:="int") (by decide) ⟨_,e,rfl⟩ (λs'=>acy s' k t) noFill_list_mul F.fills_int_mul ach repeat_list F.slot_int_index.lookup
  (acz ach (acy s k t) F.entry_int_rmul (F.args_int_rmul_2 _ _) (EL k t l its.toArray n GA)
   ⟨e,rfl,⟨_,e,rfl⟩,acz F.slot_list_mul ⟨_,e,rfl⟩ F.entry_list_mul (F.args_list_mul_2 _ _) (EK l its.toArray n k t GA hfit hcap hlong) ⟨e,?_⟩⟩)
 rw[hnew];exact⟨.ref _,_,I.O7 (t':=s.toks) (r.rep k.toNat) (by rw[len_rep,Nat.mul_comm];exact hz),rfl,q _ I.fresh⟩
theorem bR.rep{α:Type}{R:V->α->Prop}{ys:List V}{xs:List α}(h:bR R ys xs):∀k:Nat,bR R (List.replicate k ys).flatten (List.replicate k xs).flatten
 | 0=>.nil
 | k + 1=>by
  rw[aaT,aaT,aa4,aa4];exact h.append (bR.rep h k)
@[reducible] def HU(x y:DV)(st:aF)(Q:DC):Prop:=match y with
 | .dat (.int k)=>match x with
  | .dat (.tuple i)=>i≠[]/\i.length * k.toNat<=1000000/\k < 9223372036854775808/\-9223372036854775808<=k/\Q (.dat (.tuple (List.replicate k.toNat i).flatten)) st
  | x=>match gW st x with
   | some i=>i.length * k.toNat<=1000000/\k < 9223372036854775808/\-9223372036854775808<=k/\Q (.dat (.list (List.replicate k.toNat i).flatten)) st
   | none=>False
 | _=>False
theorem Qi:AO J (λx y H Q=>NV J x y H Q∨NC J x y H Q) HU:=λH0 A0 G al H st x y dx dy Q R I h1 h2 q k=>by
 unfold HU at q;split at q
 ·rename_i j;rw[aE.aW h2];split at q
  ·obtain⟨a,ys,rfl,g1,_,g2⟩:=aE.bL h1;refine .inr ⟨a,ys,j,rfl,rfl,g1,λz=>q.1 ?_,q.2.2.2.1,q.2.2.1,by rw[g2.len];exact kS q.2.1,λp H' s hp=>k.laid I s (.d ?_) q.2.2.2.2⟩
   ·have:=g2.len;rw[z]at this;exact ab2.mp this.symm
   ·have g:=(g2.rep j.toNat).imp λy x z=>z.same s
    exact aX.tup ((I.same s).K7 hp) g.1 g.2
  ·split at q
   ·rename_i i e1;obtain⟨a,ys,rfl,g1,g2⟩:=h1.K9 I e1;exact .inl ⟨a,j,ys,rfl,rfl,g1,q.2.2.1,q.2.1,by rw[g2.len];exact kS q.1,λp hp=>k.list I hp (g2.rep _) q.2.2.2⟩
   ·exact q.elim
 ·exact q.elim
theorem fv(ha:aZ X Y a ea)(hb:aZ X Y b eb):aZ X Y (.BinOp a .Mult b pos) (rJ HU ea eb):=qC (ph LH KS) Qi ha hb
end
abbrev Ab:=bt->aF->(List DV->(aF->Prop)->aF->Prop)->Prop
def ZC(J:KF)(H0:Hp)(A0:Addr->Prop)(G:Addr->Prop)(al:List (List Addr))(H:Hp)(st:aF)(Jj:It)(xs:List DV)(ok:aF->Prop):Prop:=∀(G1:Addr->Prop) (bc:List (List Addr)) (H1:Hp) (aC:aF) (i:Nat),(∀c,G1 c->G c∨H c=none)->Ext al H st bc H1 aC->DI J H0 A0 G1 bc H1 aC->ok aC ->
 (∀d,xs[i]?=some d->Jj.go i H1/\∀x H2,Jj.yld i H1 x H2->aS H1 H2/\fS J (Fb G1 bc aC) H2 bc x d)/\(xs.length<=i->i<=xs.length->Jj.stop i H1)
def Wq(J:KF)(wi:TI)(di:Ab):Prop:=∀(H0:Hp) (A0:Addr->Prop) (G:Addr->Prop) (al:List (List Addr)) (H:Hp) (st:aF) (s:St) (env:bt) (Q:List DV->(aF->Prop)->aF->Prop) (R:It->Hp->Prop),DI J H0 A0 G al H st->jz J (Fb G al st) H al s env->di env st Q ->
 (∀Jj xs ok st' al' H',Ext al H st al' H' st'->DI J H0 A0 G al' H' st'->ZC J H0 A0 G al' H' st' Jj xs ok->Q xs ok st'->R Jj H')->wi s H R
structure Uh(X:Cx)(Y:YK)(tg iter:Expr)(d:Ab):Prop where
 h:∃wi,PI X tg iter wi/\Wq (kf X Y) wi d
section
variable {X:Cx} {Y:YK} {tg a b c e:Expr} {es:List Expr} {pos p:Pos} {ea eb ec:DX} {K:aH} {J:KF} {n:Nat} {d:n9} {scope:Scope}
@[reducible] def LI(di:rY)(env:bt)(st:aF)(Q:List DV->(aF->Prop)->aF->Prop):Prop:=di env st λxs ok aC=>Q (xs.map DV.dat) ok aC
theorem Qj{wi:TI}{di:rY}(h:AI J wi di):Wq J wi (LI di):=λH0 A0 G al H st s env Q R I E q k=>h H0 A0 G al H st s env _ _ I E q λJj xs ok st' al' H' e1 I1 ir q1=>k Jj _ ok st' al' H' e1 I1 (λG1 bc H1 aC i hG e2 I2 o2=>by
 obtain⟨z1,z2⟩:=ir G1 bc H1 aC i hG e2 I2 o2;refine⟨λd hd=>?_,by rw[aaa];exact z2⟩;rw[aaR]at hd
 cases w:xs[i]? with
 | none=>rw[w]at hd;cases hd
 | some y =>
  rw[w]at hd;cases hd;exact z1 y w) q1
theorem Qk{di:rY}(h:JQ X Y tg a di):Uh X Y tg a (LI di):=by
 obtain⟨w,p1,a1⟩:=h.h;exact⟨_,p1,Qj a1⟩
def ZD(fin:List DV->aF->DC->Prop)(dg:sR)(dt:DT)(de:DX)(xs:List DV)(ok:aF->Prop)(env:bt)(aC:aF)(Q:DC):Prop:=xs.length<=1000000/\∃I:Nat->List DV->aF->Prop,I 0 [] aC/\(∀i ys st,I i ys st->ok st) /\
 (∀i ys st d,I i ys st->xs[i]?=some d->dg d env st λgq bp=>dt gq bp λb iS=>if b=true then de gq iS λy uQ=>I (i + 1) (ys++[y]) uQ else I (i + 1) ys iS)/\∀ys st,I xs.length ys st->fin ys st Q
@[reducible] def LJ(fin:List DV->aF->DC->Prop)(own:Nat)(ix:List Nat)(di:Ab)(dg:sR)(dt:DT)(de:DX)(env:bt)(st:aF)(Q:DC):Prop:=di env st λxs ok aC=>ZD fin dg dt de xs ok (zU own ix env) aC Q
@[reducible] def HV:List DV->aF->DC->Prop:=λys st Q=>∃ds:List PyData,ys=ds.map DV.dat/\Q (.dat (.list ds)) st
def Ql(J:KF)(fin:List DV->aF->DC->Prop):Prop:=∀(H0:Hp) (A0:Addr->Prop) (G:Addr->Prop) (al:List (List Addr)) (H:Hp) (st:aF) (Q:DC) (R:VK) (D:Addr) (bW:List (List Addr)) (H2:Hp) (bp:aF) (vs:List V) (ys:List DV),DI J H0 A0 G al H st->H D=none->Kn J H0 A0 G al H st Q R->fin ys bp Q->DI J H0 A0 (λc=>G c∨c=D) bW H2 bp->Ext al H st bW H2 bp->H2 D=some (.lst vs)->bR (fS J (Fb (λc=>G c∨c=D) bW bp) H2 bW) vs ys->R (.ref D) H2
theorem Qm:Ql J HV:=λH0 A0 G al H st Q R D bW H2 bp vs ys I hD k q I2 E2 g P=>by
 obtain⟨ds,rfl,q⟩:=q
 have sub:∀c,Fb G bW bp c->Fb (λc=>G c∨c=D) bW bp c:=λc z=>by
  rcases z with z | z
  ·exact .inl (.inl z)
  ·exact .inr z
 have nD:¬ Fb G bW bp D:=λz=>by
  rcases z with z | z
  ·exact I.G4 hD (.inl z)
  ·exact I2.gd D z.mem (.inr rfl)
 exact k (.dat (.list ds)) bp bW _ H2 E2 (I2.less (λc z=>.inl z) I.lk) (.d (aE.lst nD g ((bR.Tt P).imp λy x z=>aE.sub z sub))) q
theorem fS.Ui{P:Addr->Prop}{H H':Hp}{al:List (List Addr)}{v:V}{dv:DV}(h:fS J P H al v dv)(s:aS H H'):fS J P H' al v dv:=by
 cases dv with
 | dat d=>exact aE.same h s
 | ref k=>exact h
theorem Qn{fin:List DV->aF->DC->Prop}(hf:Ql J fin)
  {own:Nat} {ix:List Nat} {wi:TI} {g:TG} {di:Ab} {dg:sR} {dt:DT} {de:DX} (hi:Wq J wi di) (hg:AG J g dg) (gb:GB own g):AE J (Va own ix wi g (Hz J dt) (TN J de)) (LJ fin own ix di dg dt de):=λH0 A0 G al H st s env Q R I E q k=>by
 refine hi H0 A0 G al H st s env _ _ I E q λJj xs ok aC bc H1 e1 I1 ir q1=>?_
 intro D hD;obtain⟨hlen,Iv,i0,hok,istep,ifin⟩:=q1;have k1:=k.go I1 e1;have E1:=E.ext e1
 have gG:∀c,(G c∨c=D)->G c∨H1 c=none:=λc hc=>by
  rcases hc with z | z
  ·exact .inl z
  ·rw[z];exact .inr hD
 have n0:=I1.n0 hD;obtain⟨EB,IB⟩:=I1.HB (ys:=[]) hD;refine⟨λi m ys H2=>(m=xs.length - i/\i<=xs.length/\ys.length<=i)/\∃ds bW bp,Iv i ds bp/\H2 D=some (.lst ys)/\bR (fS J (Fb (λc=>G c∨c=D) bW bp) H2 bW) ys ds/\DI J H0 A0 (λc=>G c∨c=D) bW H2 bp/\Ext bc H1 aC bW H2 bp,⟨_,⟨rfl,aaP _,aaP _⟩,[],bc,aC,i0,uS,.nil,IB,EB⟩,?_⟩;rintro i m ys H2 ⟨⟨em,hil,hyl⟩,ds,bW,sx,hI,gD,hP,I2,E2⟩;refine⟨gD,?_⟩;have IR:=ir (λc=>G c∨c=D) bW H2 sx i gG E2 I2 (hok _ _ _ hI);by_cases hx:i < xs.length
 ·right
  obtain⟨d0,NS⟩:∃d0,xs[i]?=some d0:=⟨xs[i],cW hx⟩;obtain⟨go,yl⟩:=IR.1 d0 NS;refine⟨go,aa0 (aaB hyl hil) (aa0 hlen (by decide)),λys' H'=>∃m',m' < m/\(m'=xs.length - (i + 1)/\i + 1<=xs.length/\ys'.length<=i + 1)/\∃ds bW bp,Iv (i + 1) ds bp/\H' D=some (.lst ys')/\bR (fS J (Fb (λc=>G c∨c=D) bW bp) H' bW) ys' ds/\DI J H0 A0 (λc=>G c∨c=D) bW H' bp/\Ext bc H1 aC bW H' bp,λys' H' ⟨m',lt,w⟩=>⟨m',lt,w⟩,λx H3 hy=>?_⟩;obtain⟨s3,r3⟩:=yl x H3 hy;have I3:=I2.same s3;have E3:Ext bc H1 aC bW H3 sx:=E2.trans I2 (.same s3);have P3:=hP.imp λy x z=>z.Ui s3
  have g3:=s3 _ _ gD;have Wh:=(E1.jc gG E3).oG own ix;refine gb x _ H3 _ _ ?_ (hg H0 A0 (λc=>G c∨c=D) bW H3 sx _ _ x d0 _ (λσ2 H4=>Hz J dt σ2 H4 λb H5=>if b=true then TN J de σ2 H5 λv H6=>H6 D=some (.lst ys)/\∃m',m' < m/\(m'=xs.length - (i + 1)/\i + 1<=xs.length/\(ys++[v]).length<=i + 1)/\∃ds bW bp,Iv (i + 1) ds bp/\upd H6 D (.lst (ys++[v])) D=some (.lst (ys++[v]))/\bR (fS J (Fb (λc=>G c∨c=D) bW bp) (upd H6 D (.lst (ys++[v]))) bW) (ys++[v]) ds/\DI J H0 A0 (λc=>G c∨c=D) bW (upd H6 D (.lst (ys++[v]))) bp/\Ext bc H1 aC bW (upd H6 D (.lst (ys++[v]))) bp else ∃m',m' < m/\(m'=xs.length - (i + 1)/\i + 1<=xs.length/\ys.length<=i + 1)/\∃ds bW bp,Iv (i + 1) ds bp/\H5 D=some (.lst ys)/\bR (fS J (Fb (λc=>G c∨c=D) bW bp) H5 bW) ys ds/\DI J H0 A0 (λc=>G c∨c=D) bW H5 bp/\Ext bc H1 aC bW H5 bp) I3 Wh r3 (istep i ds sx d0 hI NS) λgq bp P4 s2 H4 e4 I4 TR q4=>?_)
  ·intro s2 H4 ed q4;refine⟨?_,q4⟩;rw[ed];unfold eJ;rw[List.drop_left' (by simp)]
  ·refine⟨H0,A0,_,P4,bp,gq,_,I4,TR,q4,λb iS TU H5 e5 I5 q5=>?_⟩;have P7:=e4.trans I4 e5;have E5:=E3.trans I3 P7;have nL:∀(al':List (List Addr)) (H':Hp) (st':aF),DI J H0 A0 (λc=>G c∨c=D) al' H' st'->¬ Lv al' st' D:=λal' H' st' I' z=>I'.gd D z.mem (.inr rfl)
   have g5:=P7.keep D _ (nL _ _ _ I3) g3;have P5:=P3.imp λy x z=>fS.ext z P7
   cases b with
   | false =>
    rw[aaF aai]at q5;exact dI ⟨xs.length - (i + 1),by omega,⟨rfl,hx,by omega⟩,ds,TU,iS,q5,g5,P5,I5,E5⟩
   | true =>
    rw[aaD rfl]at q5;refine cT ⟨H0,A0,_,TU,iS,gq,_,I5,TR.ext e5,q5,λy uQ P8 v H6 e6 I6 d6 q6=>?_⟩;have E6:=E5.trans I5 e6;have g6:=e6.keep D _ (nL _ _ _ I5) g5;have P6:=P5.imp λy x z=>fS.ext z e6
    obtain⟨I8,Vk⟩:=I6.grow (ys:=ys++[v]) g6 n0
    have rv':∀w dv,fS J (Fb (λc=>G c∨c=D) P8 uQ) H6 P8 w dv->fS J (Fb (λc=>G c∨c=D) P8 uQ) (upd H6 D (.lst (ys++[v]))) P8 w dv:=λw dv z=>by
     cases dv with
     | dat d=>exact Vk _ _ z
     | ref k=>exact z
    refine⟨g6,xs.length - (i + 1),by omega,⟨rfl,hx,by simp;omega⟩,ds++[y],P8,uQ,q6,uS,?_,I8,E6.YB hD⟩;exact(P6.imp λy x z=>rv' y x z).append (.cons (rv' _ _ d6) .nil)
 ·left
  have ei:i=xs.length:=by omega
  subst ei;exact⟨IR.2 (aaj _) (aaj _),hf H0 A0 G bc H1 aC Q R D bW H2 sx ys ds I1 hD k1 (ifin ds sx hI) I2 E2 gD hP⟩
theorem Qo{fin:List DV->aF->DC->Prop}(hf:Ql (kf X Y) fin)
  {elt iter:Expr} {ifs:List Expr} {g:TG} {di:Ab} {dg:sR} {dt:DT} {de:DX} (own:Nat) (N:List Str) (ix:List Nat) (B:oQ X own N ix scope) (hi:Uh X Y tg iter di)
  (hg:∀(C:Addr) (fp:List Addr) (s:Shared) (H:Hp),PG (X.oG N scope C fp s H) tg g) (ag:AG (kf X Y) g dg) (gb:GB own g)
  (hin:∀(C:Addr) (fp:List Addr) (s:Shared) (H:Hp),TQ (X.oG N scope C fp s H) Y ifs dt/\aZ (X.oG N scope C fp s H) Y elt de)
  (hs:∀x,foldedSetIterable iter X.env x=pure x:=by intro _;rfl):aZ X Y (.ListComp elt [⟨tg,iter,ifs,0⟩] scope pos) (LJ fin own ix di dg dt de):=by
 obtain⟨wi,p1,a1⟩:=hi.h;exact⟨_,Gy own N ix B p1 (λC fp s H=>⟨hg C fp s H,(hin C fp s H).1.h,(hin C fp s H).2.pe⟩) hs,Qn hf a1 ag gb⟩
end
abbrev Wr(h:Heap)(z TI TO:Addr)(f0:Value)(b:Bool):Prop :=
 h.get? z=some {cls:=.type "zip",dict:=none,data:=.fields #[f0,.bool b,.bool false,.ref TI,.ref TO],slots:=#[]}
section
variable {prog:Program} {w:World} {A:Around} {E:Value->Shared->Prop} {s:Shared}
end
namespace FD
theorem fV:entryFor table "dict.update.loop"=some Builtin.«dict.update.loop»:=entryFor_of_tree (by kernel_rfl)
theorem cJ:plainId "dict.update.loop"=true:=by decide +kernel
end FD
structure ZAt(d z TI TO i1 i2 l1 l2:Addr)(xs ys:Array Value)(i:Nat)(h:Heap):Prop where
 zip:(IsZip h z TI TO .none/\∃a b,IsPair h TO a b)∨∃(T:Addr) (bb:Bool) (oT:Obj),Wr h z TI TO (rawInt T) bb/\h.get? T=some oT/\T≠z/\T≠i1/\T≠i2/\T≠d
 ti:IsPair h TI (.ref i1) (.ref i2)
 i1:h.IsListIter i1 l1 i
 i2:h.IsListIter i2 l2 i
 l1:h.IsList l1 xs
 l2:h.IsList l2 ys
section
variable {prog:Program} {w:World} {K:Type} [DecidableEq K] {knd:KeyKind prog w K} {A:Around} {E:Value->Shared->Prop} {s:Shared} {R:Result->Shared->Prop}
variable {d z TI TO i1 i2 l1 l2:Addr} {xs ys:Array Value}
end
namespace FD
end FD
set_option maxHeartbeats 4000000 in
set_option maxHeartbeats 4000000 in
section
variable {prog:Program} {w:World} {K:Type} [DecidableEq K] {knd:KeyKind prog w K} {A:Around} {E:Value->Shared->Prop} {s:Shared} {z TI TO i1 i2 l1 l2:Addr} {xs ys:Array Value}
end
section
variable {X:Cx} {a b:Expr} {ta:TA} {p p2 pos zpos:Pos}
end
section
variable {X:Cx} {CW:Addr} {cx n:Str} {i:Nat} {b₀:Stmt} {suite orelse:List Stmt} {np hpos pos:Pos} {tb te:TS}
end
section
variable {X:Cx} {Y:YK} {CW:Addr} {cx n x:Str} {i:Nat} {b₀:Stmt} {suite orelse:List Stmt} {np hpos pos:Pos} {s se:DS} {nn:Nat} {d:n9} {e:Expr} {es:List Expr}
theorem Ac{u:Addr}{E:Value->Shared->Prop}{a:Expr}{ea:DX}{p p2:Pos}{T:Str}{D:Addr}(hg:Gl X "isinstance")(hm:X.mg "isinstance"=none)(Ly:Gl X T)(JR:X.mg T=some (.ref D))(ha:aZ (X.hand u E) Y a ea)(hd:(T == ("__debug__" : Str))=false:=by decide)
  (h1:starEach [a,.Name T p2] X.env=(false,eval a X.env)::starEach [.Name T p2] X.env:=by rfl):aZ (X.hand u E) Y (.Call (.Name "isinstance" p) [a,.Name T p2] [] pos) (EJ X.K (.ref D) ea):=LF (X:=X.hand u E) hg hm Ly JR ha hd h1
theorem HW{u:Addr}{E:Value->Shared->Prop}{a:Expr}{ea:DX}{p p2:Pos}{T:Str}{m:String}(hg:Gl X "isinstance")(hm:X.mg "isinstance"=none)(Ly:Gl X T)(JR:X.mg T=none)(hb:bootBuiltins T=some (.type m))(ha:aZ (X.hand u E) Y a ea)(hn:T≠"__name__":=by decide)(hd:(T == ("__debug__" : Str))=false:=by decide)
  (h1:starEach [a,.Name T p2] X.env=(false,eval a X.env)::starEach [.Name T p2] X.env:=by rfl):aZ (X.hand u E) Y (.Call (.Name "isinstance" p) [a,.Name T p2] [] pos) (EJ X.K (.type m) ea):=LG (X:=X.hand u E) hg hm Ly JR hb ha hn hd h1
end
abbrev Ad:=List PyData->(List PyData->Prop)->Prop
def Dw(K:aH)(P:Addr->Prop)(H:Hp)(Q:VK)(zs:List PyData):Prop:=∀(a:Addr) (ys:List V) (H':Hp),aS H H'->H a=none->H' a=some (.lst ys)->bR (aE K (λc=>P c∨c=a) H') ys zs->Q (.ref a) H'
def Uj(K:aH)(T:Ad):Sp:=λvs H Q _=>∃(P:Addr->Prop) (ds:List PyData),(∀c,P c->∃o,H c=some o/\kJ o)/\bR (aE K P H) vs ds/\T ds (Dw K P H Q)
def Dx(K:aH)(sp:Sp)(T:Ad):Prop:=∀(vs:List V) (H:Hp) (Q:VK) (P:Addr->Prop) (ds:List PyData),(∀c,P c->∃o,H c=some o/\kJ o)->bR (aE K P H) vs ds->T ds (Dw K P H Q)->sp vs H Q E0
theorem Uk{K:aH}{T:Ad}:Dx K (Uj K T) T:=λ_ _ _ P ds h1 h2 h3=>⟨P,ds,h1,h2,h3⟩
def HY(T:Ad):Prop:=∀ds (Q Q':List PyData->Prop),(∀z,Q z->Q' z)->T ds Q->T ds Q'
@[reducible] def ux(T:Ad)(xs:List DV)(st:aF)(Q:DC):Prop:=dz xs st λds aC=>T ds λzs=>Q (.ref aC.length) (aC++[.live zs])
theorem EM{J:KF}{sp:Sp}{T:Ad}(h:Dx J.K sp T)(m:HY T):AB J (λvs H Q=>sp (vs++[]) H Q E0) (ux T):=λH0 A0 G al H st vs ds Q R I hp q k=>by
 obtain⟨es,aC,E1,I1,F1,q1⟩:=eM I hp q;rw[abb];refine h vs H R (Fb G al aC) es (λc hc=>I1.qB hc) F1 (m _ _ _ (λzs hz a ys H' s na ga r=>?_) q1)
 have hs:∀c,Fb G (al++[[a]]) (aC++[.live zs]) c->Fb G al aC c∨c=a:=λc hc=>by
  rcases hc with z | ⟨j,f,ce,e1,e2,e3,e4⟩
  ·exact .inl (.inl z)
  ·by_cases l:j < al.length
   ·rw[aae l]at e1;rw[aae (by rw[← I1.len];exact l)]at e3;exact .inl (.inr ⟨j,f,ce,e1,e2,e3,e4⟩)
   ·have hj:j=al.length:=by
     have:=(bz e1).1;rw[List.length_append]at this;simp at this;omega
    subst hj;rw[aam (aaj _),aa3]at e1;cases e1;exact .inr (ik e2)
 obtain⟨E2,I2⟩:=I1.more (fp:=[a]) (c:=.live zs) (λb hb=>by rw[ik hb];exact na) (by simp) s (λb hb=>⟨.lst ys,by rw[ik hb];exact ga⟩) ⟨a,ys,rfl,ga,r.imp λy x z=>z.sub hs⟩;exact k (.ref aC.length) _ _ (.ref a) H' (E1.trans I1 E2) I2 ⟨a,[],by rw[← I1.len,List.getElem?_append_right (Nat.le_refl _),Nat.sub_self];rfl,rfl⟩ hz
section
variable {X:Cx} {Y:YK} {x:Str} {e:Expr} {es:List Expr} {p pos:Pos} {n:Nat} {d:n9}
theorem xt{kk:Nat}{ps:List Str}{sp:Sp}{T:Ad}(h:bM X.prog X.w X.K X.mg X.base bf x kk ps sp)(hs:Dx X.K sp T)(m:HY T)(hr:cX kk X.A)(hg:Gl X x)(ha:qh X Y (e::es) n d)(hdb:(x == ("__debug__" : Str))=false:=by decide)
  (he:starEach (e::es) X.env=(false,eval e X.env)::starEach es X.env:=by rfl) (hpl:(backTo pos (starEach es X.env)).any (·.1)=false:=by rfl):aZ X Y (.Call (.Name x p) (e::es) [] pos) (xl (ux T) d):=by
 obtain⟨t,p1,a1⟩:=ha.h;exact⟨_,ip h hr hg p1 hdb he hpl,Dl (EM hs m) a1⟩
@[reducible] def Qp(T:List PyData->Prop)(dv:DV)(st:aF):Prop:=match dv with
 | .ref k=>match st[k]? with
  | some (.live zs)=>T zs
  | _=>False
 | _=>False
theorem BU{N:List Str}{body:List Stmt}{vs:List V}{ds:List PyData}{H:Hp}{Q:VK}{P:Addr->Prop}(hP:∀c,P c->∃o,H c=some o/\kJ o)(hv:bR (aE X.K P H) vs ds)
  (h:gZ X y0 body {nx:=λ_ _=>False,rt:=Qp (Dw X.K P H Q)} (ds.map (λd=>some (DV.dat d))++List.replicate (N.length - ds.length) none) []) :
  ∃t,qo X body t/\t {nx:=λ_ H'=>Q .non H',rt:=Q} (start N vs) H:=by
 obtain⟨s,⟨t,p1,a1⟩,q⟩:=h;have I:DI (kf X y0) H (λ_=>False) P [] H []:=⟨rfl,List.nodup_nil,λ_ h=>by simp at h,λk a c h=>by simp at h,λc o _ e=>e,λ_ h=>by simp at h,λ_ h=>by simp at h,hP,trivial⟩;refine⟨t,p1,a1 H (λ_=>False) P [] H [] _ _ _ _ I ⟨by unfold start;simp[hv.1],λi dv hi=>?_⟩ q ⟨λenv' st' al' σ' H' e' I' E' q'=>q'.elim,λdv st' al' v H' e' I' d' q'=>?_,λenv' st' al' σ' H' e' I' E' q'=>q'.elim,λenv' st' al' σ' H' e' I' E' q'=>q'.elim⟩⟩
 ·by_cases l:i < ds.length
  ·rw[List.getElem?_append_left (by simpa using l),List.getElem?_map,cW l]at hi;cases hi;obtain⟨y,hy,hr⟩:=hv.at (cW l);refine⟨y,?_,?_⟩
   ·unfold start;rw[List.getElem?_append_left (by rw[List.length_map,hv.1];exact l),List.getElem?_map,hy];rfl
   ·exact hr.sub λc hc=>by
     rcases hc with z | ⟨k,f,ce,h,_⟩
     ·exact z
     ·simp at h
  ·rw[List.getElem?_append_right (by simp;omega)]at hi;rw[List.getElem?_replicate]at hi;split at hi
   ·cases hi
   ·cases hi
 ·cases dv with
  | dat d=>exact q'.elim
  | ref k =>
   obtain⟨a,r,ha,rfl⟩:=d';have q':(match st'[k]? with | some (.live zs)=>Dw X.K P H Q zs | _=>False):=q';split at q'
   ·rename_i zs hs;obtain⟨a',ys,e1,e2,e3⟩:=I'.cel k _ _ ha hs;cases e1;have ma:a∈al'.flatten:=fT ha aaC
    have na:H a=none:=by
     rcases I'.nw a ma with z | z
     ·exact z.elim
     ·exact z
    refine q' a ys H' (λc o e=>I'.fr c o (λz=>z) e) na e2 (e3.imp λy x z=>z.sub λc hc=>?_);rcases hc with z | rfl
    ·exact .inl z
    ·exact .inr ⟨k,_,_,ha,aaC,hs,rfl⟩
   ·exact q'.elim
theorem Dy{body:List Stmt}{t:TS}{DD:cb}{env:bt}{st:aF}(h:qo X body t)(q:∀(H0:Hp) (A0 G:Addr->Prop) (al:List (List Addr)) (H:Hp) (σ:St) (D:Ends),DI (kf X Y) H0 A0 G al H st->jz X.K (Fb G al st) H al σ env->uf (kf X Y) H0 A0 G al H st DD D->t D σ H):gZ X Y body DD env st :=
 ⟨λDD env st=>∀(H0:Hp) (A0 G:Addr->Prop) (al:List (List Addr)) (H:Hp) (σ:St) (D:Ends),DI (kf X Y) H0 A0 G al H st->jz X.K (Fb G al st) H al σ env->uf (kf X Y) H0 A0 G al H st DD D->t D σ H,⟨t,h,λH0 A0 G al H st σ env DD D I E q k=>q H0 A0 G al H σ D I E k⟩,q⟩
end
namespace FP
theorem fV:entryFor table "dict.update.loop"=some Builtin.«dict.update.loop»:=entryFor_of_tree (by kernel_rfl)
theorem cJ:plainId "dict.update.loop"=true:=by decide +kernel
theorem yB:typeLookup (.type "list") "keys"=pure none:=by rw[typeLookup_type,builtinLookup_eq_fast];kernel_rfl
end FP
set_option maxHeartbeats 4000000 in
theorem EN{prog:Program}{w:World}{A:Around}{E:Value->Shared->Prop}{s:Shared}{a:Addr}{o:Obj}{xs:Array Value}{n:Nat}{Q:Option Value->Shared->Prop}(hx:s.heap.get? a=some o)(hc:o.cls=.type "list")(hd:o.dict=none)(hdat:o.data=.seq xs n)(hA:A.handled=none)
  (h:∀h' tk,(∀b ob,s.heap.get? b=some ob->h'.get? b=some ob)->Q none {s with heap:=h',toks:=tk}):wpAny (model prog w) A (getAttr? (.ref a) "keys") Q E s:=by
 obtain⟨c,dct,dat,sl⟩:=o;simp only at hc hdat hd;subst hc hdat hd;obtain⟨hp,g,d,tk,os⟩:=s;have hT:∀tk',(⟨hp,g,d,tk',os⟩:Shared).TypeIs (.ref a) "list":=λ_=>⟨_,hx,rfl⟩
 have f1:=sub_AttributeError;have f3:=F.slot_list_getattribute.lookup;have f4:=F.slot_list_getattribute.bind (.ref a);have f5:=am_list_getattr_none;unfold getAttr? getAttrBy? getAttrBy
 repeat (any_goals (first | assumption | exact hT _ | ((with_reducible show wpAny _ _ (call (Value.builtin "list.__getattribute__") _ _) _ _ _);refine acz F.slot_list_getattribute (hT _) am_entry_list_getattribute (F.args_list_getattribute_2 _ _) (meets_getattribute_miss_list a xs n sl "keys" _ FP.yB (by decide +kernel) (by size_fits)) ⟨hx,hA,λh' tk' e hx'=>?_⟩) | wp_step))
 obtain⟨t',u',he⟩:=hx'.there;have kp:=hx'.keeps;show wpAny _ _ (getattributeRaised _ _ _ _ _ _ _) _ _ _;unfold getattributeRaised
 repeat (any_goals (first | assumption | wp_step))
 exact h _ _ kp
section
variable {prog:Program} {w:World} {K:Type} [DecidableEq K] {knd:KeyKind prog w K} {A:Around} {E:Value->Shared->Prop} {R:Result->Shared->Prop} {d it l:Addr} {xs:Array Value}
def Dz(knd:KeyKind prog w K)(h:Heap)(xs:Array Value)(kvs:List (K×Value))(d it:Addr):Prop:=∀(i:Nat) kv,kvs[i]?=some kv->∃(t:Addr) (o:Obj) (n:Nat) (x:Value),xs[i]?=some (.ref t)/\t≠d/\t≠it/\h.get? t=some o/\o.cls=.type "tuple"/\o.data=.seq #[x,kv.2] n/\knd.is kv.1 x=true
theorem BV(hh:A.handled=none)(n1:d≠it)(n2:l≠it)(n3:l≠d){kvs:List (K×Value)}(hn:(kvs.map (·.1)).Nodup)(hxs:xs.size=kvs.length)(hz:kvs.length<=1000):
  ∀(k i:Nat) (t:Tok) (s:Shared),kvs.length - i=k->i<=kvs.length->s.heap.IsListIter it l i->s.heap.IsList l xs->Dz knd s.heap xs kvs d it->s.heap.DictOf knd d (kvs.take i) ->
   (∀h' tk,h'.DictOf knd d kvs->(∀c o,c≠it->c≠d->s.heap.get? c=some o->h'.get? c=some o)->R (.ok (.ret .none)) {s with heap:=h',toks:=tk}) ->
   codeAny (model prog w) A (.builtin "dict.update.loop" ⟨[.ref d,.ref it,.int i t,.none],[]⟩) R s:=by
 intro k
 induction k with
 | zero =>
  intro i t s hk hi hit hl hP hD hR;have hin:i=kvs.length:=by omega
  subst hin;refine codeAny_builtin FP.fV ?_;rw[Around.under_plainId FP.cJ _];show wpAny _ A.in1 (pyNext (.ref it) >>= _) _ _ s;refine wpAny_bind (wpAny_pyNext_list_end (by simp[hh]) hit hl (Array.getElem?_eq_none (by omega)) λh' k=>?_);show wpAny _ A.in1 (Builtin.Dict.addKeywords d [] >>= λ_=>ret Value.none) _ _ _;rw[List.take_length]at hD;refine wpAny_bind (wpAny_pure (wpAny_pure (hR h' s.toks ?_ λc o c1 _ e=>k _ _ c1 e)));obtain⟨o,es,ep,ho,rest⟩:=hD;exact⟨o,es,ep,k _ _ n1 ho,rest⟩
 | succ k ih =>
  intro i t s hk hi hit hl hP hD hR;have hlt:i < kvs.length:=by omega
  have hkvi:kvs[i]?=some kvs[i]:=cW hlt;obtain⟨tt,ot,n,x,hx,m1,m2,hT,hTc,hTd,hkey⟩:=hP i _ hkvi;generalize kvs[i]=kv at hkvi hkey hTd;refine codeAny_builtin FP.fV ?_;rw[Around.under_plainId FP.cJ _];show wpAny _ A.in1 (pyNext (.ref it) >>= _) _ _ s;refine aaf (wpAny_pyNext_list_item hit hl hx λh' hit' k1=>?_);have k1':∀c o,c≠it->s.heap.get? c=some o->h'.get? c=some o:=λc o n e=>k1.extBut _ _ n e
  have hD':h'.DictOf knd d (kvs.take i):=by
   obtain⟨o,es,ep,ho,rest⟩:=hD;exact⟨o,es,ep,k1' _ _ n1 ho,rest⟩
  have hT':=k1' _ _ m2 hT;refine wpAny_bind (wpAny_holding ?_);refine wpAny_bind (wpAny_tryCatch ?_);show wpAny _ _ (Builtin.Dict.pairItems (.ref tt)) _ _ _;unfold Builtin.Dict.pairItems;refine wpAny_bind (wpAny_typeOf (T:="tuple") ⟨_,hT',hTc⟩ ?_);show wpAny _ _ (seqItems? (.ref tt) >>= _) _ _ _;refine wpAny_bind (wpAny_seqItems hT' hTd (wpAny_pure ?_));show wpAny _ _ (holding [x,kv.2] (dictSet d x kv.2)) _ _ _;refine wpAny_holding ?_;unfold dictSet;refine wpAny_holding (wpAny_bind (knd.pyHash (k:=kv.1) hkey ?_));have hlen:(kvs.take i).length<=sizeLine:=by rw[List.length_take,sizeLine_eq];omega
  refine wpAny_dictSetHashed_pairs (s:={s with heap:=h',toks:=s.toks + 1}) hkey hD' (λh2 JS FX=>?_) hlen
  have hst:stored (kvs.take i) kv.1 kv.2=kvs.take (i + 1):=by
   have hm:=merged_take_succ ([]:List (K×Value)) kvs i kv hkvi;have YE:∀j,((kvs.take j).map (·.1)).Nodup:=λj=>by rw[List.map_take];exact(List.take_sublist _ _).nodup hn
   rw[merged_nil_of_nodup _ (YE i),merged_nil_of_nodup _ (YE (i + 1))]at hm;exact hm.symm
  rw[hst]at JS;refine aat ⟨plainId_quiet FP.cJ _,?_⟩;have k2:∀c o,c≠d->h'.get? c=some o->h2.get? c=some o:=λc o n e=>FX.extBut _ _ n e
  refine ih (i + 1) 0 {s with heap:=h2,toks:=s.toks + 1} (by omega) hlt (hit'.at λo e=>k2 _ o n1.symm e) (hl.at λo e=>k2 _ o n3 (k1' _ o n2 e)) (λj kv hj=>?_) JS λh3 tk ZE k3=>hR h3 tk ZE λc o c1 c2 e=>k3 c o c1 c2 (k2 c o c2 (k1' c o c1 e))
  obtain⟨t3,o3,n3',x3,g1,g2,g3,g4,g5,g6,g7⟩:=hP j kv hj;exact⟨t3,o3,n3',x3,g1,g2,g3,k2 _ _ g2 (k1' _ _ g3 g4),g5,g6,g7⟩
variable {s:Shared}
theorem uh{kvs:List (K×Value)}{o:Obj}{n:Nat}{Q:Value->Shared->Prop}(hh:A.handled=none)(hx:s.heap.get? l=some o)(hc:o.cls=.type "list")(hdn:o.dict=none)(hdat:o.data=.seq xs n)(hn:(kvs.map (·.1)).Nodup)(hxs:xs.size=kvs.length)
  (hP:Dz knd s.heap xs kvs s.heap.objs.size s.heap.objs.size) (hsz:kvs.length<=1000)
  (h:∀h' tk,h'.DictOf knd s.heap.objs.size kvs->(∀c o,s.heap.get? c=some o->h'.get? c=some o)->Q (.ref s.heap.objs.size) {s with heap:=h',toks:=tk}) :
  wpAny (model prog w) A (call (.type "dict") [.ref l]) Q E s:=by
 refine callType_codes (Q₁:=λobj s₁=>obj=.ref s.heap.objs.size/\s₁={s with heap:=s.heap.push {cls:=.type "dict",data:=.dict #[]}}) F.kt_called_dict (F.kt_typeCall_dict_1 _) F.entry_dict_init (kt_code_dict_new _ ⟨rfl,rfl⟩) ?_;rintro obj s₁ ⟨rfl,rfl⟩;have up:∀c o,s.heap.get? c=some o->(s.heap.push {cls:=.type "dict",data:=.dict #[]}).get? c=some o:=λc o e=>aab _ e
 have hnew:(s.heap.push {cls:=.type "dict",data:=.dict #[]}).DictOf knd s.heap.objs.size []:=Heap.DictOf.new s.heap;have ne:∀c o,s.heap.get? c=some o->c≠s.heap.objs.size:=λc o e=>aav (aal e)
 refine⟨hnew.typeIs,F.args_dict_init_2 _ _,?_⟩;unfold Builtin.«dict.__init__»;refine wpAny_bind ?_;unfold Builtin.Dict.selfAndRest;refine wpAny_bind (wpAny_notOrdered_dict hnew.typeIs ?_);show wpAny _ _ (pure (s.heap.objs.size,[Value.ref l])) _ _ _;refine wpAny_pure ?_;show wpAny _ _ (Builtin.Dict.updateFrom "dict.__init__" s.heap.objs.size (.ref l) [] .none) _ _ _;unfold Builtin.Dict.updateFrom;refine wpAny_bind (wpAny_typeOf (T:="list") ⟨_,up _ _ hx,hc⟩ ?_);rw[if_pos (by decide)];refine wpAny_bind (EN (up _ _ hx) hc hdn hdat (by simp[hh]) λh1' tk1 k1=>?_);show wpAny _ _ (rule _ >>= _) _ _ _;refine wpAny_bind (wpAny_rule ?_);have V4:h1'.get? l=some o:=k1 _ _ (up _ _ hx)
 have YF:h1'.DictOf knd s.heap.objs.size []:=by
  obtain⟨o,es,ep,ho,rest⟩:=hnew;exact⟨o,es,ep,k1 _ _ ho,rest⟩
 have GH:h1'.IsList l xs:=⟨o,V4,hc,n,hdat⟩;have Ws:s.heap.objs.size < h1'.objs.size:=by obtain⟨o,es,ep,ho,_⟩:=YF;exact aal ho
 refine aaf (abF GH ?_);refine aat ⟨plainId_quiet FP.cJ _,?_⟩;have Vm:∀c o,h1'.get? c=some o->(h1'.push {cls:=.type "list_iterator",data:=.fields #[.ref l,.int 0 0]}).get? c=some o:=λc o e=>aab _ e
 have ne1:∀c o,s.heap.get? c=some o->c≠h1'.objs.size:=λc o e=>aav (ac8 (aal e) Ws)
 refine BV (knd:=knd) (l:=l) (xs:=xs) (kvs:=kvs) (by simp[hh]) (Nat.ne_of_lt Ws) (ne1 _ _ hx) (ne _ _ hx) hn hxs hsz kvs.length 0 0 _ (by omega) (Nat.zero_le _) ⟨_,Heap.get?_push_size _ rfl,rfl,rfl⟩ (GH.at λo e=>Vm _ o e) (λi kv hi=>?_) ?_ ?_
 ·obtain⟨t3,o3,n3',x3,g1,g2,g3,g4,g5,g6,g7⟩:=hP i kv hi;exact⟨t3,o3,n3',x3,g1,g2,ne1 _ _ g4,Vm _ _ (k1 _ _ (up _ _ g4)),g5,g6,g7⟩
 ·obtain⟨o,es,ep,ho,rest⟩:=YF;exact⟨o,es,ep,Vm _ _ ho,rest⟩
 ·intro h' tk hD kk;exact⟨rfl,h h' tk hD λc o e=>kk c o (ne1 c o e) (ne c o e) (Vm _ _ (k1 _ _ (up _ _ e)))⟩
end
section
variable {X:Cx} {a:Expr} {ta:TA} {p pos:Pos}
def Qq(K:aH)(ta:TA):TE:=λσ H Q=>ta σ H λvs H1=>∃(l:Addr) (xs:List V) (kvs:List (Int×V)),vs=[.ref l]/\dC K H1 l xs/\(kvs.map (·.1)).Nodup/\kvs.length<=1000/\xs.length=kvs.length/\(∀(i:Nat) kv,kvs[i]?=some kv->∃t:Addr,xs[i]?=some (.ref t)/\dG K H1 t [.int kv.1,kv.2])/\∀d,H1 d=none->Q (.ref d) (upd H1 d (.dK (kvs.map λp=>(Sum.inl p.1,p.2))))
theorem HZ(hgd:Gl X "dict")(hmd:X.mg "dict"=none)(hc:X.calm=true)(ha:PA X [a] ta)(hs:starEach [a] X.env=[(false,eval a X.env)]:=by rfl):
  PE X (.Call (.Name "dict" p) [a] [] pos) (Qq X.K ta):=by
 intro pins s σ H Q I h;refine Call_ (kL I hgd hmd Ky (aaZ (bU (ha pos pins s σ H _ I h) λus s1 ⟨vs,H1,I1,r1,q1⟩=>?_) hs rfl));obtain⟨l,xs,kvs,rfl,hS,nd,DA,hlen,hp,q⟩:=q1;obtain⟨u1,rfl,Pk⟩:=vals1 r1;cases Pk;obtain⟨Th,rx,⟨o,n,e,c,hdn,hdat⟩,_⟩:=I1.list hS;have lu:Th.length=kvs.length:=by rw[← rx.length,hlen]
 have hnd:∀(L:List (Int×V)),(L.map (·.1)).Nodup->((L.map λp=>((Sum.inl p.1:Key),p.2)).map (·.1)).Nodup:=λL hL=>by
  rw[abN,show((λx:Key×V=>x.1) ∘ λp:Int×V=>(Sum.inl p.1,p.2))=Sum.inl ∘ Prod.fst from rfl,← abN];exact List.Pairwise.map _ (λa b h z=>h (Sum.inl.inj z)) hL
 have ex:∀(L:List (Int×V)) (ys:List V) (us:List Value),Vals ys us->ys.length=L.length->(∀(i:Nat) kv,L[i]?=some kv->∃t:Addr,ys[i]?=some (.ref t)/\dG X.K H1 t [.int kv.1,kv.2])->∃ws:List Value,ws.length=L.length/\KV (L.map λp=>((Sum.inl p.1:Key),p.2)) ((L.zip ws).map λp=>((Sum.inl p.1.1:Key),p.2))/\∀(i:Nat) kv w,L[i]?=some kv->ws[i]?=some w->∃(t:Addr) (o:Obj) (n:Nat) (x:Value),us[i]?=some (.ref t)/\s1.heap.get? t=some o/\o.cls=.type "tuple"/\o.data=.seq #[x,w] n/\∃tk,x=.int kv.1 tk:=by
  intro L
  induction L with
  | nil=>intro ys us _ _ _;exact⟨[],rfl,.nil,λi kv w h=>by simp at h⟩
  | cons kv L ih =>
   intro ys us hv hl hp
   cases hv with
   | nil=>cases hl
   | @cons y u ys us hr ht =>
    obtain⟨t,NW,Vn⟩:=hp 0 kv rfl;have NW:y=.ref t:=by simpa using NW
    subst NW;cases hr;obtain⟨its,ri,⟨ot,et,ct,nt,dt⟩,_⟩:=I1.tuple Vn;obtain⟨x,w,rfl,ZF,ZG⟩:=vals2 ri;obtain⟨tk,rfl⟩:=ZF
    obtain⟨ws,l1,ZH,h1⟩:=ih ys us ht (by simpa using hl) (λi k hk=>by
     have:=hp (i + 1) k (by simpa using hk);simpa using this)
    refine⟨w::ws,by simp[l1],.cons ⟨rfl,ZG⟩ ZH,λi k w' hk hw=>?_⟩
    cases i with
    | zero =>
     simp at hk hw;subst hk hw;exact⟨t,ot,nt,_,rfl,et,ct,dt,tk,rfl⟩
    | succ i=>simpa using h1 i k w' (by simpa using hk) (by simpa using hw)
 obtain⟨ws,lw,hKV,hws⟩:=ex kvs xs Th rx hlen hp;refine uh (knd:=eF X.prog X.w) (kvs:=(kvs.zip ws).map λp=>(Sum.inl p.1.1,p.2)) (xs:=Th.toArray) (show X.A.handled=none from I1.ok.hd hc) e c hdn hdat ?_ ?_ (λi kv hi=>?_) ?_ λh' tk hD kp=>?_
 ·have e1:((kvs.zip ws).map λp=>((Sum.inl p.1.1:Key),p.2)).map (·.1)=(kvs.map λp=>((Sum.inl p.1:Key),p.2)).map (·.1):=by
   rw[abN,abN,show((λx:Key×Value=>x.1) ∘ λp:(Int×V)×Value=>(Sum.inl p.1.1,p.2))=(λp:Int×V=>(Sum.inl p.1:Key)) ∘ Prod.fst from rfl,← abN,acJ (by omega)];rfl
  rw[e1];exact hnd kvs nd
 ·rw[List.length_map,List.length_zip,lw,Nat.min_self];simpa using lu
 ·obtain⟨⟨kv',w'⟩,hz,rfl⟩:=dZ hi;obtain⟨g1,g2⟩:=List.getElem?_zip_eq_some.mp hz;obtain⟨t,ot,nt,x,a1,a2,a3,a4,tk,rfl⟩:=hws i kv' w' g1 g2;exact⟨t,ot,nt,_,by simpa using a1,Nat.ne_of_lt (Heap.lt_size a2),Nat.ne_of_lt (Heap.lt_size a2),a2,a3,a4,sJ _ _ _ _⟩
 ·rw[aaa,List.length_zip];omega
 have hnew:eg X.prog X.w (upd H1 s1.heap.objs.size (.dK (kvs.map λp=>(Sum.inl p.1,p.2)))) h' s1.heap.objs.size (.dK (kvs.map λp=>(Sum.inl p.1,p.2))):=by
  show(kvs.map λp=>((Sum.inl p.1:Key),p.2)).length<=sizeLine/\((s1.heap.objs.size:Nat) == sysModules)=false/\_;refine⟨?_,?_,_,hKV,hD⟩
  ·rw[aaa,sizeLine_eq];omega
  ·have hb:sysModules < s1.heap.objs.size:=ac8 (by decide) (I1.mod.glob.keeps I1.bk).lt;exact beq_false_of_ne (abk hb)
 exact⟨.ref s1.heap.objs.size,_,I1.laid (t':=tk) kp (aaj _) hnew,rfl,q _ (I1.hok.fresh (aaj _))⟩
end
section
variable {X:Cx} {Y:YK} {e:Expr} {pos p:Pos} {J:KF} {n:Nat} {d:n9}
@[reducible] def Qr(xs:List DV)(st:aF)(Q:DC):Prop:=match xs with
 | [x]=>match gW st x with
  | some ds=>∃bs:List Bool,ds=bs.map PyData.bool/\Q (.dat (.bool (bs.all id))) st
  | none=>False
 | _=>False
theorem Ia{K:aH}{P:Addr->Prop}{H:Hp}{ys:List V}{bs:List Bool}(h:bR (aX K H) ys (bs.map PyData.bool)):ys=bs.map V.bl:=by
 apply abJ;intro i;have hl:=h.1;rw[aaa]at hl;by_cases hi:i < ys.length
 ·have:=h.2 i ys[i] (.bool (bs[i]'(by omega))) (cW hi) (by rw[aaR,cW (by omega)];rfl);rw[cW hi,aaR,cW (by omega)];generalize ys[i]=y at this ⊢;cases this;rfl
 ·rw[acd (by omega),acd (by rw[aaa];omega)]
theorem Qs:AB J (S1 J) Qr:=λH0 A0 G al H st vs ds Q R I h q k=>by
 unfold Qr at q;split at q
 ·split at q
  ·rename_i ds e;obtain⟨bs,rfl,q1⟩:=q;obtain⟨v,rfl,h1⟩:=pB h;obtain⟨p,ys,rfl,g1,g2⟩:=h1.K9 I e;rw[Ia (P:=λ_=>False) (g2.imp λ_ _ z=>z.now)]at g1;exact⟨p,bs,rfl,g1,k.here I (.d (.bl _)) q1⟩
  ·exact q.elim
 ·exact q.elim
theorem BW(hc:X.calm=true)(hg:Gl X "all")(hm:X.mg "all"=none)(ha:qh X Y [e] n d)(he:starEach [e] X.env=(false,eval e X.env)::starEach [] X.env:=by rfl):aZ X Y (.Call (.Name "all" p) [e] [] pos) (xl Qr d):=jd (Gz hc) Qs hg hm Pb ha (by decide) (by decide) he rfl
@[reducible] def Ib(xs:List DV)(st:aF)(Q:DC):Prop:=match xs with
 | [.dat (.tuple ds)]=>((PyData.tuple ds).showable=true/\(PyData.tuple ds).hasDict=false/\(PyData.tuple ds).depth<=60/\(PyData.tuple ds).shown.length<=sizeLine)/\Q (.dat (.str (PyData.tuple ds).shown)) st
 | _=>False
theorem LK:AB J (ND J) Ib:=λH0 A0 G al H st vs ds Q R I h q k=>by
 unfold Ib at q;split at q
 ·obtain⟨v,rfl,h1⟩:=pB h;have h1:=id h1;obtain⟨⟨q1,q2,q3,q4⟩,q5⟩:=q;obtain⟨b,ys,rfl,_⟩:=aE.bL h1;exact⟨b,_,rfl,aE.now h1,q1,q2,q3,q4,k.here I (.d (.str _)) q5⟩
 ·exact q.elim
theorem DB(hgd:X.A.guards=some [])(hu:X.A.units + 64 < cLine)(hg:Gl X "repr")(hm:X.mg "repr"=none)(ha:qh X Y [e] n d)(he:starEach [e] X.env=(false,eval e X.env)::starEach [] X.env:=by rfl):aZ X Y (.Call (.Name "repr" p) [e] [] pos) (xl Ib d):=jd (Em hgd hu) LK hg hm Kw ha (by decide) (by decide) he rfl
end
@[reducible] def Qt(_:cb)(_:bt)(_:aF):Prop:=False
theorem jg{X:Cx}{Y:YK}{stm:Stmt}:BR X Y stm Qt:=⟨_,fD,λ_ _ _ _ _ _ _ _ _ _ _ _ q _=>q.elim⟩
theorem BX{X:Cx}{Y:YK}{pos:Pos}{u:Addr}{E:Value->Shared->Prop}{a:Expr}{ea:DX}{f:Str}(ha:aZ (X.hand u E) Y a ea)(hb:attributeBase a f X.env (eval a X.env)=eval a X.env:=by rfl):aZ (X.hand u E) Y (.Attribute a f pos) (Vl X.K f ea):=Ub (X:=X.hand u E) ha hb
theorem Ic{X:Cx}{Y:YK}{rest:List Stmt}{DD:cb}{env:bt}{st:aF}{H0:Hp}{A0 G:Addr->Prop}{al:List (List Addr)}{H:Hp}{σ:St}{D:Ends}(h:gZ X Y rest DD env st)(I:DI (kf X Y) H0 A0 G al H st)(E:jz X.K (Fb G al st) H al σ env)(k:uf (kf X Y) H0 A0 G al H st DD D):∃r,qo X rest r/\r D σ H:=by
 obtain⟨s2,⟨r,p2,a2⟩,q⟩:=h;exact⟨r,p2,a2 H0 A0 G al H st σ env DD D I E q k⟩
theorem LL{X:Cx}{s1 s2:Stmt}{rest:List Stmt}{t1 t2:TS}(h1:PS X s1 t1)(h2:PS X s2 t2):qo X (s1::s2::rest) (FO t1 (FO t2 (λD σ H=>∃r,qo X rest r/\r D σ H))):=qK h1 (qK h2 (λpins s σ H D I ⟨_,hu,q⟩=>hu pins s σ H D I q))
theorem LM{X:Cx}{Y:YK}{s1 s2:Stmt}{rest:List Stmt}{t1 t2:TS}{DD:cb}{env:bt}{st:aF}(h1:PS X s1 t1)(h2:PS X s2 t2)(R:bt->Prop)(k:∀env',R env'->gZ X Y rest DD env' st)
  (q:∀(H0:Hp) (A0 G:Addr->Prop) (al:List (List Addr)) (H:Hp) (σ:St) (N:St->Hp->Prop) (D:Ends),DI (kf X Y) H0 A0 G al H st->jz X.K (Fb G al st) H al σ env->(∀env' σ' H',R env'->aS H H'->jz X.K (Fb G al st) H' al σ' env'->N σ' H')->t1 {D with nx:=t2 {D with nx:=N}} σ H):gZ X Y (s1::s2::rest) DD env st :=
 Dy (LL h1 h2) λH0 A0 G al H σ D I En kk=>q H0 A0 G al H σ _ D I En λenv' _ _ hr s e=>Ic (k env' hr) (I.same s) e (kk.go (I.same s) (.same s))
end L2
local macro_rules | `(tactic| walk_at "cond")=>`(tactic| first | rfl | decide | omega | (show (0:Int) < _; decide) | (show (0:Int) < _; omega) | exact ⟨by decide,by decide⟩ | exact ⟨by omega,by omega⟩ | exact Or.inl ⟨by decide,by decide⟩ | exact Or.inr ⟨by decide,by decide⟩ | exact Or.inl ⟨by omega,by omega⟩ | exact Or.inr ⟨by omega,by omega⟩ | assumption)
local macro_rules | `(tactic| walk_at "rd1")=>`(tactic| first
 | refine⟨_,rfl,?_⟩
 | refine⟨_,_,rfl,rfl,?_⟩
 | (refine And.intro ?_ ?_;walk_at "cond"))
local macro_rules | `(tactic| walk_at "vc")=>`(tactic| try dsimp only [L2.Dr,L2.HE,L2.HG,L2.Qa,L2.Wk,L2.EF,L2.G5,L2.eC,L2.rJ,L2.oI,L2.K8,L2.G8,L2.PB,L2.ym,L2.De,L2.wk,L2.kT,L2.gW,L2.xk,L2.Tz,L2.Qd,L2.oR,L2.PF,L2.He,L2.Hf,L2.Wc,L2.Dg,L2.Dh,L2.Li,L2.Hh,L2.Hj,L2.PK,L2.Hk,L2.xl,L2.Hm,L2.zQ,L2.ve,L2.vf,L2.Hr,L2.Hs,L2.Ht,L2.Hu,L2.HU,L2.LI,L2.LJ,L2.HV,L2.Dj,L2.ux,L2.Qp,L2.yy,L2.yz,L2.Dv,L2.HS,L2.Vl,L2.EJ,List.zip_cons_cons,List.zip_nil_left,List.zip_nil_right,L2.sub,L2.Wn,List.take_succ_cons,List.take_zero,L2.oY,L2.dz,L2.La,L2.Dc,L2.Lc,L2.Ld,L2.Dd,L2.Lp,L2.yp,L2.yq,L2.Hx,L2.BQ,L2.Hw,L2.gN,L2.xn,L2.vk,L2.gT,L2.gS,L2.Se,L2.yu,L2.Wj,L2.EE,L2.Qb,L2.Ls,L2.P2,L2.Qc,L2.TY,L2.Lx,L2.Dt,L2.vp,L2.zU,L2.HA,id_eq,List.map_cons,List.map_nil,List.replicate,List.getElem?_cons_zero,List.getElem?_cons_succ,List.set_cons_zero,List.set_cons_succ,List.nil_append,List.cons_append,List.length_cons,List.length_nil,Nat.zero_add,Nat.reduceAdd,Option.getD_some,Option.getD_none,List.getElem?_nil])
local macro_rules | `(tactic| walk_at "vs")=>`(tactic| try dsimp only [L2.Dr,L2.HG,L2.Qa,L2.Wk,L2.EF,L2.G5,L2.eC,L2.rJ,L2.oI,L2.K8,L2.G8,L2.PB,L2.ym,L2.De,L2.wk,L2.kT,L2.gW,L2.xk,L2.Tz,L2.Qd,L2.oR,L2.PF,L2.He,L2.Hf,L2.Wc,L2.Dg,L2.Dh,L2.Li,L2.Hh,L2.Hj,L2.PK,L2.Hk,L2.xl,L2.Hm,L2.zQ,L2.ve,L2.vf,L2.Hr,L2.Hs,L2.Ht,L2.Hu,L2.HU,L2.LI,L2.LJ,L2.HV,L2.Dj,L2.ux,L2.Qp,L2.yy,L2.yz,L2.Dv,L2.HS,L2.Vl,L2.EJ,List.zip_cons_cons,List.zip_nil_left,List.zip_nil_right,L2.sub,L2.Wn,List.take_succ_cons,List.take_zero,L2.oY,L2.dz,L2.La,L2.Dc,L2.Lc,L2.Ld,L2.Dd,L2.Lp,L2.yp,L2.yq,L2.Hx,L2.BQ,L2.Hw,L2.gN,L2.xn,L2.vk,L2.gT,L2.gS,L2.Se,L2.yu,L2.Wj,L2.EE,L2.Qb,L2.Ls,L2.P2,L2.Qc,L2.TY,L2.Lx,L2.Dt,L2.vp,L2.zU,L2.HA,id_eq,List.map_cons,List.map_nil,List.replicate,List.getElem?_cons_zero,List.getElem?_cons_succ,List.set_cons_zero,List.set_cons_succ,List.nil_append,List.cons_append,List.length_cons,List.length_nil,Nat.zero_add,Nat.reduceAdd,Option.getD_some,Option.getD_none,List.getElem?_nil])
local macro_rules | `(tactic| walk_at "rd")=>`(tactic| repeat walk_at "rd1")
set_option maxHeartbeats 4000000
local macro_rules | `(tactic| walk_at "sc")=>`(tactic| exact ⟨rfl,rfl,rfl,by decide +kernel,rfl,by decide +kernel,by decide +kernel⟩)
namespace Mine
open PySem L2
theorem ZI{α:Type}{P:List α->Prop}(h:P []):∀us:List α,us.length=0->P us:=λus hl=>by
 cases us with
 | nil=>exact h
 | cons a r=>exact absurd hl (abj _)
theorem NX{α:Type}{P:List α->Prop}(h:∀a0:α,P [a0]):∀us:List α,us.length=1->P us:=λus hl=>by
 cases us with
 | nil=>exact absurd hl.symm (abj _)
 | cons a r=>exact ZI (P:=λr=>P (a::r)) (h a) r (ab0 hl)
theorem ln2{α:Type}{P:List α->Prop}(h:∀a0 a1:α,P [a0,a1]):∀us:List α,us.length=2->P us:=λus hl=>by
 cases us with
 | nil=>exact absurd hl.symm (abj _)
 | cons a r=>exact NX (P:=λr=>P (a::r)) (λa1=>h a a1) r (ab0 hl)
theorem DE{α:Type}{P:List α->Prop}(h:∀a0 a1 a2:α,P [a0,a1,a2]):∀us:List α,us.length=3->P us:=λus hl=>by
 cases us with
 | nil=>exact absurd hl.symm (abj _)
 | cons a r=>exact ln2 (P:=λr=>P (a::r)) (λa1 a2=>h a a1 a2) r (ab0 hl)
theorem Qu{α:Type}{P:List α->Prop}(h:∀a0 a1 a2 a3:α,P [a0,a1,a2,a3]):∀us:List α,us.length=4->P us:=λus hl=>by
 cases us with
 | nil=>exact absurd hl.symm (abj _)
 | cons a r=>exact DE (P:=λr=>P (a::r)) (λa1 a2 a3=>h a a1 a2 a3) r (ab0 hl)
theorem Vo{α:Type}{P:List α->Prop}(h:∀a0 a1 a2 a3 a4:α,P [a0,a1,a2,a3,a4]):∀us:List α,us.length=5->P us:=λus hl=>by
 cases us with
 | nil=>exact absurd hl.symm (abj _)
 | cons a r=>exact Qu (P:=λr=>P (a::r)) (λa1 a2 a3 a4=>h a a1 a2 a3 a4) r (ab0 hl)
theorem ZJ{α:Type}{P:List α->Prop}(h:∀a0 a1 a2 a3 a4 a5:α,P [a0,a1,a2,a3,a4,a5]):∀us:List α,us.length=6->P us:=λus hl=>by
 cases us with
 | nil=>exact absurd hl.symm (abj _)
 | cons a r=>exact Vo (P:=λr=>P (a::r)) (λa1 a2 a3 a4 a5=>h a a1 a2 a3 a4 a5) r (ab0 hl)
theorem Ul{α:Type}{xs:List α}(h:xs.length=2):∃a0 a1,xs=[a0,a1]:=ln2 (P:=λxs=>∃a0 a1,xs=[a0,a1]) (λa0 a1=>⟨a0,a1,rfl⟩) xs h
theorem Wt{α:Type}{xs:List α}(h:xs.length=3):∃a0 a1 a2,xs=[a0,a1,a2]:=DE (P:=λxs=>∃a0 a1 a2,xs=[a0,a1,a2]) (λa0 a1 a2=>⟨a0,a1,a2,rfl⟩) xs h
theorem Wu{α:Type}{xs:List α}(h:xs.length=6):∃a0 a1 a2 a3 a4 a5,xs=[a0,a1,a2,a3,a4,a5]:=ZJ (P:=λxs=>∃a0 a1 a2 a3 a4 a5,xs=[a0,a1,a2,a3,a4,a5]) (λa0 a1 a2 a3 a4 a5=>⟨a0,a1,a2,a3,a4,a5,rfl⟩) xs h
def tf(p:Program)(i:Nat):Stmt:=p.main.body.getD i (.Pass ⟨0,0,0,0⟩)
def top(i:Nat):Stmt:=tf PySem.Challenge.pw_stackwarden_k52_papers_that_are_none i
abbrev kZ:Stmt:=top 41
abbrev pE:Stmt:=top 42
abbrev pF:Stmt:=top 45
abbrev lb:Stmt:=top 46
abbrev jF:Stmt:=top 44
abbrev lg:Stmt:=top 47
abbrev pG:Stmt:=top 48
abbrev pH:Stmt:=top 49
abbrev pJ:Stmt:=top 52
abbrev fg:Stmt:=top 54
abbrev eP:Stmt:=top 55
abbrev iV:Stmt:=top 56
abbrev pL:Stmt:=top 50
abbrev eQ:Stmt:=top 57
abbrev sg:Stmt:=top 58
abbrev jG:Stmt:=top 53
abbrev lh:Stmt:=top 43
abbrev lj:Stmt:=top 5
abbrev lq:Stmt:=top 6
abbrev lx:Stmt:=top 8
abbrev si:Stmt:=top 9
abbrev pM:Stmt:=top 35
abbrev jH:Stmt:=top 36
abbrev yC:Stmt:=top 28
abbrev pO:Stmt:=top 7
abbrev sj:Stmt:=top 10
abbrev iW:Stmt:=top 25
abbrev yD:Stmt:=top 14
abbrev vv:Stmt:=top 16
abbrev vw:Stmt:=top 29
abbrev sk:Stmt:=top 17
abbrev lz:Stmt:=top 30
abbrev hJ:Stmt:=top 32
abbrev BY:Stmt:=top 33
abbrev iX:Stmt:=top 38
abbrev fW:Stmt:=top 26
abbrev pP:Stmt:=top 37
abbrev yE:Stmt:=top 39
abbrev pQ:Stmt:=top 51
abbrev cB:Stmt:=top 59
abbrev qH:Stmt:=top 60
def fh:List (Str×PyData):=[("push",.tuple []),("load",.tuple []),("store",.tuple [.tuple [.str "any"]]),("dup",.tuple [.tuple [.str "any"]]),("swap",.tuple [.tuple [.str "any"],.tuple [.str "any"]]),("drop",.tuple [.tuple [.str "any"]]),("add",.tuple [.tuple [.str "number"],.tuple [.str "number"]]),("sub",.tuple [.tuple [.str "number"],.tuple [.str "number"]]),("mul",.tuple [.tuple [.str "number"],.tuple [.str "number"]]),("div",.tuple [.tuple [.str "number"],.tuple [.str "number"]]),("rem",.tuple [.tuple [.str "number"],.tuple [.str "number"]]),("less",.tuple [.tuple [.str "number"],.tuple [.str "number"]]),("same",.tuple [.tuple [.str "number"],.tuple [.str "number"]]),("jump",.tuple []),("zero",.tuple [.tuple [.str "number"]]),("kin",.tuple [.tuple [.str "whole",.int 0]]),("make",.tuple []),("toss",.tuple [.tuple [.str "number"]]),("say",.tuple [.tuple [.str "number"]])]
def xu:PyData:=.tuple [.str "jump",.str "toss",.str "give"]
def sS:PyData:=.tuple [.str "div",.str "rem",.str "toss",.str "call"]
def Ae:PyData:=.tuple [.str "jump",.str "zero",.str "kin"]
def oi:List (Str×PyData):=[("store",.int 0),("dup",.int 2),("swap",.int 2),("drop",.int 0),("jump",.int 0),("zero",.int 0),("put",.int 0),("toss",.int 0),("say",.int 0),("give",.int 0)]
def oV:PyData:=.tuple [.str "make",.str "fill",.str "begin",.str "get",.str "put"]
abbrev gL:Stmt:=inner (top 3)
inductive Kd where
 | any | num | whole (c:Nat) | raw (c m:Nat)
 deriving DecidableEq
def DF:Kd->List PyData
 | .any=>[.str "any"]
 | .num=>[.str "number"]
 | .whole c=>[.str "whole",.int c]
 | .raw c m=>[.str "raw",.int c,.int m]
abbrev dH:=List (Option Nat×List Kd)
def ZK:Option Nat->V
 | none=>.non
 | some n=>.int n
def Af:Option Nat->PyData
 | none=>.none
 | some n=>.int n
def BZ(m:Option Nat×List Kd):PyData:=.tuple [Af m.1,.list (m.2.map λk=>.tuple (DF k))]
def cV(ms:dH):PyData:=.list (ms.map BZ)
structure Wf(ms:dH):Prop where
 ne:0 < ms.length
 few:ms.length<=8
 first:∀m,ms[0]?=some m->m.1=none
 ahead:∀(i:Nat) m,ms[i]?=some m->0 < i->∃j,m.1=some j/\j < i
def sq(ms:dH)(c:Nat):Option Nat:=(ms[c]?).bind (·.1)
theorem Wf.el{ms:dH}(w:Wf ms){c:Nat}(hc:c < ms.length):∃m,ms[c]?=some m/\sq ms c=m.1/\∀j,m.1=some j->j < c:=by
 refine⟨ms[c],cW hc,by unfold sq;rw[cW hc];rfl,λj hj=>?_⟩;rcases Nat.eq_zero_or_pos c with z | z
 ·subst z;have:=w.first _ (cW hc);rw[hj]at this;cases this
 ·obtain⟨j',h1,h2⟩:=w.ahead c _ (cW hc) z;rw[hj]at h1;cases h1;exact h2
def vx(ms:dH):Nat->Nat->List Nat
 | 0,_=>[]
 | n + 1,c=>c::(match sq ms c with | none=>[] | some j=>vx ms n j)
def eR(ms:dH)(c:Nat):List Nat:=vx ms (c + 1) c
theorem LN{ms:dH}(w:Wf ms):∀c:Nat,c < ms.length->∀n,c + 1<=n->vx ms n c=vx ms (c + 1) c:=by
 intro c
 induction c using Nat.strongRecOn with
 | ind c ih =>
  intro hc n hn;obtain⟨n',rfl⟩:∃n',n=n' + 1:=⟨n - 1,by omega⟩;show(c::(match sq ms c with | none=>[] | some j=>vx ms n' j))=c::(match sq ms c with | none=>[] | some j=>vx ms c j);obtain⟨m,_,e,hj⟩:=w.el hc
  cases q:sq ms c with
  | none=>rfl
  | some j =>
   have hlt:j < c:=hj j (by rw[← e,q]);show c::vx ms n' j=c::vx ms c j;rw[ih j hlt (by omega) n' (by omega),ih j hlt (by omega) c (by omega)]
def rest(ms:dH):Option Nat->List Nat
 | none=>[]
 | some j=>eR ms j
theorem iy{ms:dH}(w:Wf ms){c:Nat}(hc:c < ms.length):eR ms c=c::rest ms (sq ms c):=by
 show(c::(match sq ms c with | none=>[] | some j=>vx ms c j))=_;obtain⟨m,_,e,hj⟩:=w.el hc
 cases q:sq ms c with
 | none=>rfl
 | some j =>
  have hlt:j < c:=hj j (by rw[← e,q]);show c::vx ms c j=c::vx ms (j + 1) j;rw[LN w j (by omega) c (by omega)]
theorem sr{ms:dH}(w:Wf ms):∀c:Nat,c < ms.length->(eR ms c).length<=c + 1/\∀x∈eR ms c,x<=c:=by
 intro c
 induction c using Nat.strongRecOn with
 | ind c ih =>
  intro hc;rw[iy w hc];obtain⟨m,_,e,hj⟩:=w.el hc
  cases q:sq ms c with
  | none=>exact⟨by simp[rest],λx hx=>by simp[rest]at hx;omega⟩
  | some j =>
   have hlt:j < c:=hj j (by rw[← e,q]);obtain⟨h1,h2⟩:=ih j hlt (by omega);refine⟨by simp only[rest,List.length_cons];omega,λx hx=>?_⟩;rcases List.mem_cons.mp hx with z | z
   ·omega
   ·have:=h2 x z;omega
def ZL(K:aH)(H:Hp)(xs:List V)(ms:dH):Prop:=xs.length=ms.length/\∀(i:Nat) x m,xs[i]?=some x->ms[i]?=some m->∃(t l:Addr) (ks:List V),x=.ref t/\dG K H t [ZK m.1,.ref l]/\dC K H l ks/\bV K H ks (m.2.map λk=>.tuple (DF k))
def NY(K:aH)(H:Hp)(a:Addr)(ms:dH):Prop:=∃xs,dC K H a xs/\ZL K H xs ms
def lA(zs:List Nat):Kd->Prop
 | .any=>True
 | .num=>True
 | .whole c=>c < zs.length
 | .raw c m=>∃z,zs[c]?=some z/\m < 2 ^ z
theorem sN{H:Hp}{p:Addr}(h:H p=none)(o:HO):aS H (upd H p o):=λb u q=>by rw[uN (nN q h)];exact q
structure Ag(sh:List (Option Nat×Nat))(zs:List Nat):Prop where
 len:sh.length=zs.length
 ne:0 < sh.length
 s0:sh[0]?=some (none,0)
 z0:zs[0]?=some 0
 six:∀z∈zs,z<=6
 go:∀(i:Nat) (s:Option Nat×Nat),0 < i->sh[i]?=some s->∃j z,s.1=some j/\j < i/\zs[j]?=some z/\zs[i]?=some (z + s.2)
theorem Ag.snoc{sh:List (Option Nat×Nat)}{zs:List Nat}(h:Ag sh zs){j n z:Nat}(hj:j < sh.length)(hz:zs[j]?=some z)(h6:z + n<=6):Ag (sh++[(some j,n)]) (zs++[z + n]) where
 len:=by simp[h.len]
 ne:=by simp
 s0:=by rw[aae h.ne];exact h.s0
 z0:=by rw[aae (by rw[← h.len];exact h.ne)];exact h.z0
 six:=λx hx=>by
  rcases aaN.mp hx with q | q
  ·exact h.six x q
  ·simp at q;omega
 go:=λi s h0 hs=>by
  by_cases hi:i < sh.length
  ·rw[aae hi]at hs;obtain⟨j',z',e1,e2,e3,e4⟩:=h.go i s h0 hs;exact⟨j',z',e1,e2,by rw[aae (by rw[← h.len];omega)];exact e3,by rw[aae (by rw[← h.len];exact hi)];exact e4⟩
  ·have hl:i < (sh++[(some j,n)]).length:=(bz hs).1;have e:i=sh.length:=by simp at hl;omega
   subst e;rw[List.getElem?_append_right (Nat.le_refl _)]at hs;simp at hs;subst hs;refine⟨j,z,rfl,hj,by rw[List.getElem?_append_left (by rw[← h.len];exact hj)];exact hz,?_⟩;rw[h.len,List.getElem?_append_right (Nat.le_refl _)];simp
structure Good(ms:dH)(zs:List Nat):Prop where
 wf:Wf ms
 len:ms.length=zs.length
 LO:∀m,ms[0]?=some m->m.2=[]
 z0:zs[0]?=some 0
 six:∀z∈zs,z<=6
 go:∀(i:Nat) m,0 < i->ms[i]?=some m->∃j z,m.1=some j/\j < i/\zs[j]?=some z/\zs[i]?=some (z + m.2.length)
 kds:∀(i:Nat) m,ms[i]?=some m->∀k∈m.2,lA zs k
def ownOf(ms:dH)(c:Nat):List Kd:=match ms[c]? with | some m=>m.2 | none=>[]
def jh(ms:dH):List Nat->List Kd
 | []=>[]
 | e::r=>jh ms r++ownOf ms e
def fields(ms:dH)(c:Nat):List Kd:=jh ms (eR ms c)
theorem jI(ms:dH):∀l:List Nat,jh ms l=(l.reverse.map (ownOf ms)).flatten
 | []=>rfl
 | e::r=>by
  show jh ms r++ownOf ms e=_;rw[jI ms r];simp
theorem Ah{ms:dH}(w:Wf ms){c:Nat}(hc:c < ms.length):fields ms c=jh ms (rest ms (sq ms c))++ownOf ms c:=by
 unfold fields;rw[iy w hc];rfl
theorem Good.B0{ms:dH}{zs:List Nat}(g:Good ms zs):∀c:Nat,c < ms.length->∃z,zs[c]?=some z/\(fields ms c).length=z:=by
 intro c
 induction c using Nat.strongRecOn with
 | ind c ih =>
  intro hc;have hm:=cW hc;rw[Ah g.wf hc];have own:ownOf ms c=(ms[c]).2:=by unfold ownOf;rw[hm]
  have el:sq ms c=(ms[c]).1:=by unfold sq;rw[hm];rfl
  rcases abA c with z | z
  ·subst z;refine⟨0,g.z0,?_⟩;rw[own,g.LO _ hm,el,g.wf.first _ hm];rfl
  ·obtain⟨j,y,e1,e2,e3,e4⟩:=g.go c _ z hm;obtain⟨z',f1,f2⟩:=ih j e2 (by omega);rw[e3]at f1;cases f1;refine⟨_,e4,?_⟩;rw[own,el,e1,abd];show(fields ms j).length + _=_;rw[f2]
abbrev fE(ks:List Kd):List PyData:=ks.map λk=>PyData.tuple (DF k)
theorem B1(m n:Nat):Builtin.bitAnd (m:Int) (n:Int)=((m&&&n:Nat):Int):=by
 unfold Builtin.bitAnd;simp
def below(ms:dH):Kd->Kd->Bool
 | _,.any=>true
 | .num,.num=>true
 | .whole c,.whole d=>decide (d∈eR ms c)
 | .raw c m,.raw d n=>decide (c=d)&&decide (m&&&n=n)
 | _,_=>false
theorem aX.bL{K:aH}{H:Hp}{v:V}{ds:List PyData}(h:aX K H v (.tuple ds)):∃(a:Addr) (xs:List V),v=.ref a/\dG K H a xs/\bV K H xs ds:=by
 cases h with
 | tup h hl hi=>exact⟨_,_,rfl,h,hl,hi⟩
theorem aX.aW{K:aH}{H:Hp}{v:V}{i:Int}(h:aX K H v (.int i)):v=.int i:=by cases h;rfl
def YG(ms:dH):Prop:=∀(i:Nat) m,ms[i]?=some m->m.2.length<=50
theorem Good.Um{ms:dH}{zs:List Nat}(g:Good ms zs):YG ms:=λi m hm=>by
 rcases abA i with z | z
 ·subst z;rw[g.LO m hm]
  decide
 ·obtain⟨j,y,_,_,_,e4⟩:=g.go i m z hm;have:=g.six _ (aan e4);omega
def near(ms:dH)(c d:Nat):Nat:=((eR ms c).filter λe=>decide (e∈eR ms d)).headD 0
def join(ms:dH):Kd->Kd->Kd
 | .num,.num=>.num
 | .whole c,.whole d=>.whole (near ms c d)
 | .raw c m,.raw d n=>if c=d then .raw c (m&&&n)else .any
 | _,_=>.any
inductive Rw where
 | push (w:Int) | load (b:Nat) | store (b:Nat) | bare (s:Str) | jump (t:Nat) | zero (t:Nat) | kin (c t:Nat) | make (c:Nat) | beg (c:Nat) | fill (c f:Nat) | get (c f:Nat) | put (c f:Nat) | call (p:Nat)
def ZM:Rw->Str
 | .push _=>"push" | .load _=>"load" | .store _=>"store" | .bare s=>s | .jump _=>"jump" | .zero _=>"zero" | .kin _ _=>"kin" | .make _=>"make" | .beg _=>"begin" | .fill _ _=>"fill" | .get _ _=>"get" | .put _ _=>"put" | .call _=>"call"
def ZN:Rw->List Int
 | .push w=>[w] | .load b=>[b] | .store b=>[b] | .bare _=>[] | .jump t=>[t] | .zero t=>[t] | .kin c t=>[c,t] | .make c=>[c] | .beg c=>[c] | .fill c f=>[c,f] | .get c f=>[c,f] | .put c f=>[c,f] | .call p=>[p]
def qI(r:Rw):PyData:=.tuple (.str (ZM r)::(ZN r).map PyData.int)
def Uo:List Str:=["dup","swap","drop","add","sub","mul","div","rem","less","same","toss","say","give"]
def Rw.Ok(zs:List Nat)(np nb nr:Nat):Rw->Prop
 | .push w=>-2147483648<=w/\w < 2147483648
 | .load b=>b < nb
 | .store b=>b < nb
 | .bare s=>s∈Uo
 | .jump t=>t < nr
 | .zero t=>t < nr
 | .kin c t=>c < zs.length/\t < nr
 | .make c=>c < zs.length
 | .beg c=>c < zs.length
 | .fill c f=>∃z,zs[c]?=some z/\f < z
 | .get c f=>∃z,zs[c]?=some z/\f < z
 | .put c f=>∃z,zs[c]?=some z/\f < z
 | .call p=>p < np
structure Pt where
 takes:List Kd
 gives:Kd
 boxes:Nat
 height:Nat
 rows:List Rw
 spans:List (Nat×Nat×Nat)
def Vp(s:Nat×Nat×Nat):PyData:=.tuple [.int (s.1:Int),.int (s.2.1:Int),.int (s.2.2:Int)]
def kI(p:Pt):PyData:=.tuple [.list (fE p.takes),.tuple (DF p.gives),.int (p.boxes:Int),.int (p.height:Int),.list (p.rows.map qI),.list (p.spans.map Vp)]
def uy(ms:dH)(ps:List Pt):PyData:=.tuple [cV ms,.list (ps.map kI)]
structure ZO(zs:List Nat)(np:Nat)(p:Pt):Prop where
 tk:∀k∈p.takes,lA zs k
 gv:lA zs p.gives
 bx:p.boxes<=8
 tb:p.takes.length<=p.boxes
 h1:1<=p.height
 h8:p.height<=8
 r1:1<=p.rows.length
 r2:p.rows.length<=100
 ro:∀r∈p.rows,r.Ok zs np p.boxes p.rows.length
 la:∃l r,p.rows=l++[r]/\(r=.bare "toss"∨r=.bare "give"∨∃t,r=.jump t)
 s8:p.spans.length<=8
 so:∀s∈p.spans,s.1 < s.2.1/\s.2.1<=p.rows.length/\s.2.2 < p.rows.length
theorem aX.cN{K:aH}{H:Hp}{v:V}{ds:List PyData}(h:aX K H v (.list ds)):∃(a:Addr) (xs:List V),v=.ref a/\dC K H a xs/\bV K H xs ds:=by
 cases h with
 | lst h hl hi=>exact⟨_,_,rfl,h,hl,hi⟩
theorem bV.at{K:aH}{H:Hp}{xs:List V}{ds:List PyData}{i:Nat}{d:PyData}(h:bV K H xs ds)(hd:ds[i]?=some d):∃x,xs[i]?=some x/\aX K H x d:=by
 have hi:i < xs.length:=by rw[h.1];exact(bz hd).1
 exact⟨xs[i],cW hi,h.2 i _ d (cW hi) hd⟩
theorem sK{n:Nat}(h:n<=1000):n < sizeLine:=aa0 h (by decide)
def Pt.wt(p:Pt)(tk:List Kd):Pt:={p with takes:=tk}
def NZ(ls:List Addr)(H HX:Hp):Prop:=∀c o,c∉ls->H c=some o->HX c=some o
structure Wv(K:aH)(H:Hp)(mk pl:Addr)(ys:List V)(ls:List Addr)(ms:dH)(ps:List Pt):Prop where
 ln:ls.length=ps.length
 nd:ls.Nodup
 pls:H pl=some (.lst ys)
 np:pl∉ls
 my:∀HX,NZ ls H HX->NY K HX mk ms
 pt:∀HX,NZ ls H HX->∀(j:Nat) (p:Pt) (l:Addr),ps[j]?=some p->ls[j]?=some l->∃(t:Addr) (g r s:V) (ks:List V),ys[j]?=some (.ref t)/\dG K HX t [.ref l,g,.int (p.boxes:Int),.int (p.height:Int),r,s]/\H l=some (.lst ks)/\bV K HX ks (fE p.takes)/\∀vs tk,HX l=some (.lst vs)->bV K HX vs (fE tk)->aX K HX (.ref t) (kI (p.wt tk))
theorem bV.set{K:aH}{H:Hp}{xs:List V}{ds:List PyData}{v:V}{d:PyData}{i:Nat}(h:bV K H xs ds)(hv:aX K H v d):bV K H (xs.set i v) (ds.set i d):=by
 refine⟨by rw[aaH,aaH,h.1],λj x e hx he=>?_⟩;rw[abI]at hx he;by_cases hj:i=j
 ·subst hj;rw[aaD rfl]at hx he;split at hx
  ·split at he
   ·cases hx;cases he;exact hv
   ·cases he
  ·cases hx
 ·rw[aaF hj]at hx he;exact h.2 j x e hx he
theorem qJ{n m:Nat}(h:m < n):FC n (m:Int)=some m:=by
 unfold FC;rw[if_pos (by omega),if_pos (by omega),Int.toNat_natCast]
inductive Ie(ms:dH):Str->List V->List Kd->Prop
 | begin {c:Nat} (hc:c < ms.length):Ie ms "begin" [.int c] [.raw c (2 ^ (fields ms c).length - 1)]
 | get {c f:Nat}:Ie ms "get" [.int c,.int f] [.whole c]
 | fill {c f:Nat} {k:Kd} (hc:c < ms.length) (hf:(fields ms c)[f]?=some k):Ie ms "fill" [.int c,.int f] [.raw c 0,k]
 | put {c f:Nat} {k:Kd} (hc:c < ms.length) (hf:(fields ms c)[f]?=some k):Ie ms "put" [.int c,.int f] [.whole c,k]
inductive DG(K:aH)(H:Hp)(mk pl:Addr)(part:Nat):Str->List V->List Kd->Prop
 | always {sign:Str} {xs:List V} {ks:List Kd} (h:jw fh sign=some (.tuple (fE ks))):DG K H mk pl part sign xs ks
 | call {q:Nat} {ys rest vs:List V} {t l:Addr} {ks:List Kd} (h1:dC K H pl ys) (h2:ys[q]?=some (.ref t)) (h3:dG K H t (.ref l::rest)) (h4:dC K H l vs) (h5:bV K H vs (fE ks)):DG K H mk pl part "call" [.int q] ks
 | give {ys rest:List V} {t:Addr} {v0 v:V} {k:Kd} (h1:dC K H pl ys) (h2:ys[part]?=some (.ref t)) (h3:dG K H t (v0::v::rest)) (h4:aX K H v (.tuple (DF k))):DG K H mk pl part "give" [] [k]
 | ofR {ms:dH} {sign:Str} {xs:List V} {ks:List Kd} (hM:NY K H mk ms) (hw:Wf ms) (hf:YG ms) (h:Ie ms sign xs ks):DG K H mk pl part sign xs ks
def iY(sign:Str):Int:=match jw oi sign with | some (.int i)=>i | _=>1
theorem Ig{kds:List (Str×PyData)}{k:Str}{d:PyData}(h:jw kds k=some d):∃kv∈kds,kv.2=d:=by
 unfold jw at h;obtain⟨kv,h1,h2⟩:=Option.map_eq_some_iff.mp h;exact⟨kv,List.mem_of_find?_eq_some h1,h2⟩
theorem Ih{sign:Str}{d:PyData}(h:jw oi sign=some d):∃i,d=.int i:=by
 obtain⟨kv,h1,rfl⟩:=Ig h;simp[oi]at h1;rcases h1 with e | e | e | e | e | e | e | e | e | e<;>exact⟨_,by rw[e]⟩
def dw(l:List Nat):List PyData:=l.map λ(n:Nat)=>PyData.int (n:Int)
theorem xv(l:List Nat)(x:Nat):dw l++[.int (x:Int)]=dw (l++[x]):=by unfold dw;rw[List.map_append];rfl
theorem oj(l:List Nat):(dw l).length=l.length:=aaa ..
theorem om{l:List Nat}{i v:Nat}(h:l[i]?=some v):sP (dw l) (i:Int)=some (.int (v:Int)):=bg (f:=λ(n:Nat)=>PyData.int (n:Int)) h
theorem Ii{c:Nat}{l:List Nat}(h:c∈l):inD (.int (c:Int)) (dw l)=true:=by
 unfold inD dw;rw[List.any_map,List.any_eq_true];exact⟨c,h,by show decide ((c:Int)=(c:Int))=true;exact decide_eq_true rfl⟩
theorem B2(l:List Nat):(dw l).all oR=true:=by
 unfold dw;rw[List.all_map,List.all_eq_true];exact λ_ _=>rfl
theorem e9(v:Int){m:Int}{n:Nat}(e:m=(n:Int))(h:0 < n):∃c:Nat,v % m=(c:Int)/\c < n:=by
 subst e;have a:=aa5 v (show(n:Int)≠0 by omega);have b:=aaW v (show(0:Int) < (n:Int)by omega);exact⟨(v % (n:Int)).toNat,by omega,by omega⟩
theorem N0{α:Type}{fin:List PyData->aF->DC->Prop}{dg:sR}{dt:DT}{de:DX}{xs:List PyData}{env:bt}{aC:aF}{Q:DC}(P:α->Prop)(f:α->PyData)(hl:xs.length<=1000000)
  (hs:∀(i:Nat) d,xs[i]?=some d->∀(W:PyData->Prop) (N:Prop),(∀a,P a->W (f a))->dg (.dat d) env aC λgq bp=>bp=aC/\dt gq aC λb iS=>iS=aC/\if b=true then de gq aC λy uQ=>oY y uQ λdy Bv=>Bv=aC/\W dy else N)
  (hd:∀as:List α,as.length=xs.length->(∀a∈as,P a)->fin (as.map f) aC Q):Vj fin dg dt de xs (λ_=>True) env aC Q:=by
 refine zV (λi ys=>∃as:List α,ys=as.map f/\as.length=i/\∀a∈as,P a) hl ⟨[],rfl,rfl,(λ_ h=>nomatch h)⟩ (λi ys d hd' hy=>?_) (λys hy=>?_)
 ·obtain⟨as,rfl,ha,hp⟩:=hy;refine hs i d hd' (λdy=>∃bs:List α,as.map f++[dy]=bs.map f/\bs.length=i + 1/\∀a∈bs,P a) _ λa h=>⟨as++[a],by rw[List.map_append];rfl,by simp[ha],λb hb=>?_⟩
  rcases aaN.mp hb with z | z
  ·exact hp b z
  ·rw[ik z];exact h
 ·obtain⟨as,rfl,ha,hp⟩:=hy;exact hd as ha hp
theorem N1{α:Type}{fin:List PyData->aF->DC->Prop}{dg:sR}{dt:DT}{de:DX}{xs:List PyData}{env:bt}{aC:aF}{Q:DC}(as:List α)(g f:α->PyData)(hx:xs=as.map g)(hl:as.length<=1000000)
  (hs:∀(i:Nat) a,as[i]?=some a->∀(P:PyData->Prop) (N:Prop),P (f a)->dg (.dat (g a)) env aC λgq bp=>bp=aC/\dt gq aC λb iS=>iS=aC/\if b=true then de gq aC λy uQ=>oY y uQ λdy Bv=>Bv=aC/\P dy else N)
  (hd:fin (as.map f) aC Q):Vj fin dg dt de xs (λ_=>True) env aC Q:=by
 subst hx;refine zV (λi ys=>ys=(as.take i).map f) (by rw[List.length_map];exact hl) (by simp) (λi ys d hd' hy=>?_) (λys hy=>?_)
 ·rw[aaR]at hd'
  cases w:as[i]? with
  | none=>rw[w]at hd';cases hd'
  | some a =>
   rw[w]at hd';cases hd';refine hs i a w (λdy=>ys++[dy]=(as.take (i + 1)).map f) (ys=(as.take (i + 1)).map f) ?_;rw[hy,acx,w,abB];rfl
 ·rw[aaa,aca]at hy;rw[hy];exact hd
def Ww:List Nat:=[0,1,1]
structure ZP(p:Pt):Prop where
 tk:∀k∈p.takes,lA Ww k
inductive KI where
 | any | num | whole (c:Int) | raw (c m:Int)
 deriving DecidableEq
def ui:KI->List PyData
 | .any=>[.str "any"]
 | .num=>[.str "number"]
 | .whole c=>[.str "whole",.int c]
 | .raw c m=>[.str "raw",.int c,.int m]
abbrev bw(ks:List KI):List PyData:=ks.map λk=>PyData.tuple (ui k)
def Kd.ki:Kd->KI
 | .any=>.any
 | .num=>.num
 | .whole c=>.whole c
 | .raw c m=>.raw c m
theorem Qv(k:Kd):DF k=ui k.ki:=by cases k<;>rfl
theorem LP(ks:List Kd):fE ks=bw (ks.map Kd.ki):=by
 unfold fE bw;rw[List.map_map];exact List.map_congr_left λk _=>by rw[Qv];rfl
def sizeOf(zs:List Nat)(c:Int):Nat:=(zs[c.toNat]?).getD 0
def kK(zs:List Nat):KI->Bool
 | .any=>true
 | .num=>true
 | .whole c=>decide (0<=c/\c < (zs.length:Int))
 | .raw c m=>decide (0<=c/\c < (zs.length:Int))&&decide (0<=m/\m < ((2 ^ sizeOf zs c:Nat):Int))
abbrev SI:=List KI×List KI
def iz(s:SI):PyData:=.tuple [.tuple (bw s.1),.tuple (bw s.2)]
def zu(zs:List Nat)(nb nh:Nat)(s:SI):Bool:=decide (s.1.length=nb)&&(decide (s.2.length<=nh)&&(s.1++s.2).all (kK zs))
abbrev Pp:=Int×SI
def i8(p:Pp):PyData:=.tuple [.int p.1,iz p.2]
def N2(zs:List Nat)(nb nh nr:Nat)(least:Int)(p:Pp):Bool:=decide (least<=p.1)&&(decide (p.1 < (nr:Int))&&zu zs nb nh p.2)
def bad(zs:List Nat)(nb nh nr:Nat):Int->List Pp->Option Int
 | _,[]=>none
 | least,p::r=>if N2 zs nb nh nr least p=true then bad zs nb nh nr (p.1 + 1) r else some p.1
def Up(ks os:List KI):Prop:=os.length=ks.length/\∀(i:Nat) k o,ks[i]?=some k->os[i]?=some o->o=.any∨o=k
theorem Up.refl(ks:List KI):Up ks ks:=⟨rfl,λi k o h1 h2=>by rw[h1]at h2;cases h2;exact .inr rfl⟩
theorem Up.nil:Up [] []:=Up.refl []
theorem B3{zs:List Nat}{ks:List KI}(h:ks.all (kK zs)=true){i:Nat}{k:KI}(hk:ks[i]?=some k):kK zs k=true:=aa1.mp h k (aan hk)
inductive Row3:Rw->Prop where
 | push (w:Int):Row3 (.push w)
 | drop:Row3 (.bare "drop")
 | toss:Row3 (.bare "toss")
def FF:Rw->List KI
 | .push _=>[]
 | _=>[.num]
def EO:Rw->List KI
 | .push _=>[.num]
 | _=>[]
def B4(r:Rw)(i:Nat)(B:List KI):List PyData:=match r with
 | .push _=>[.tuple [.str "next",.int ((i:Int) + 1),iz (B,[.num])]]
 | .bare s=>if s="drop" then [.tuple [.str "next",.int ((i:Int) + 1),iz (B,[])]]else []
 | _=>[]
def B5(p:Pt):List KI:=p.takes.map Kd.ki++List.replicate (p.boxes - p.takes.length) .any
theorem cC(p:Pt):kI p=.tuple [.list (fE p.takes),.tuple (DF p.gives),.int (p.boxes:Int),.int (p.height:Int),.list (p.rows.map qI),.list (p.spans.map Vp)]:=rfl
theorem lD(ms:dH)(ps:List Pt):uy ms ps=.tuple [cV ms,.list (ps.map kI)]:=rfl
theorem dU(ms:dH):cV ms=.list (ms.map BZ):=rfl
theorem jJ(s:SI):iz s=.tuple [.tuple (bw s.1),.tuple (bw s.2)]:=rfl
theorem B6{b:Bool}{A B:Prop}(h:b=true)(a:A):if b=true then A else B:=by rw[aaD h];exact a
theorem gk{b:Bool}{A B:Prop}(h:b=false)(a:B):if b=true then A else B:=by rw[h];exact a
theorem yF{b:Bool}{A B:Prop}(h:b=false)(a:A):if (!b)=true then A else B:=by rw[h];exact a
theorem lE{b:Bool}{A B:Prop}(h:b=true)(a:B):if (!b)=true then A else B:=by rw[h];exact a
theorem pR{α:Type}(a:α):∀n:Nat,(List.replicate n [a]).flatten=List.replicate n a
 | 0=>rfl
 | n + 1=>by rw[aaT,aa4,pR a n,aaT];rfl
theorem N3(p:Pt):fE p.takes++List.replicate (p.boxes - p.takes.length) (PyData.tuple [.str "any"])=bw (B5 p):=by
 unfold B5 bw;rw[LP,List.map_append,List.map_replicate];rfl
theorem qL{zs:List Nat}{nb nh nr:Nat}{least:Int}{p:Pp}{r:List Pp}:bad zs nb nh nr least (p::r)=if N2 zs nb nh nr least p=true then bad zs nb nh nr (p.1 + 1) r else some p.1:=rfl
theorem DH{α:Type}{l:List α}{i:Nat}{x:α}(h:l[i]?=some x):l.drop i=x::l.drop (i + 1):=by
 obtain⟨h1,h2⟩:=bz h;rw[List.drop_eq_getElem_cons h1,h2]
theorem iA{K:aH}{T:NP}(mo:cU T){vs:List V}{ds:List PyData}{H:Hp}{Q:VK}(h:bR (aX K H) vs ds)(t:T ds λd=>∀v H',aS H H'->aX K H' v d->Q v H'):oH K T vs H Q E0:=⟨λ_=>False,ds,(λ_ h=>h.elim),h.imp λ_ _ z=>Hv z,mo _ _ _ (λd f v H' s r=>f v H' s r.now) t⟩
theorem su(i:Nat)(B:List KI):B4 (.bare "drop") i B=[.tuple [.str "next",.int ((i:Int) + 1),iz (B,[])]]:=by
 show(if ("drop" : Str)="drop" then [PyData.tuple [.str "next",.int ((i:Int) + 1),iz (B,[])]]else [])=_;rw[aaD rfl]
theorem xw(i:Nat)(B:List KI):B4 (.bare "toss") i B=[]:=by
 show(if ("toss" : Str)="drop" then [PyData.tuple [.str "next",.int ((i:Int) + 1),iz (B,[])]]else [])=_;rw[aaF (by decide +kernel)]
theorem LQ{r:Rw}(h:Row3 r){i k:Nat}{B:List KI}{d:PyData}(e:(B4 r i B)[k]?=some d):k=0/\d=.tuple [.str "next",.int ((i:Int) + 1),iz (B,EO r)]:=by
 have one:∀x:PyData,([x]:List PyData)[k]?=some d->k=0/\d=x:=λx e=>by
  cases k with
  | zero=>cases e;exact⟨rfl,rfl⟩
  | succ k=>cases e
 cases h with
 | push w=>exact one _ e
 | drop =>
  rw[su]at e;exact one _ e
 | toss =>
  rw[xw]at e;cases e
theorem Ij{r:Rw}(h:Row3 r)(i:Nat)(B:List KI)(n:r≠.bare "toss"):0 < (B4 r i B).length:=by
 cases h with
 | push w=>exact abQ _
 | drop =>
  rw[su];exact abQ _
 | toss=>exact absurd rfl n
theorem Ai{K:aH}{H:Hp}:∀{pps:List Pp} {ys:List V},bR (aX K H) ys (pps.map i8)->∃kvs:List (Int×V),kvs.map (·.1)=pps.map (·.1)/\(∀(i:Nat) kv,kvs[i]?=some kv->∃t:Addr,ys[i]?=some (.ref t)/\dG K H t [.int kv.1,kv.2])/\∀kv∈kvs,∃pp∈pps,pp.1=kv.1/\aX K H kv.2 (iz pp.2)
 | [],[],_=>⟨[],rfl,(λi kv h=>by simp at h),λkv h=>nomatch h⟩
 | [],_::_,h=>by have:=h.1;simp at this
 | _::_,[],h=>by have:=h.1;simp at this
 | pp::pps,y::ys,h=>by
  obtain⟨kvs,a1,a2,a3⟩:=Ai (pps:=pps) (ys:=ys) ⟨by simpa using h.1,λi a b h1 h2=>h.2 (i + 1) a b (by simpa using h1) (by simpa using h2)⟩;have hy:=h.2 0 y (i8 pp) rfl rfl;obtain⟨t,us,rfl,hT,hU⟩:=aX.bL hy;obtain⟨u0,u1,rfl⟩:=Ul hU.1;have r0:=hU.2 0 u0 _ rfl rfl;have r1:=hU.2 1 u1 _ rfl rfl;have e0:u0=.int pp.1:=by cases r0;rfl
  subst e0;refine⟨(pp.1,u1)::kvs,by simp[a1],λi kv hi=>?_,λkv hk=>?_⟩
  ·cases i with
   | zero=>simp at hi;subst hi;exact⟨t,rfl,hT⟩
   | succ i=>simpa using a2 i kv (by simpa using hi)
  ·rcases aay.mp hk with rfl | hk
   ·exact⟨pp,aaC,rfl,r1⟩
   ·obtain⟨q,hq,b1,b2⟩:=a3 kv hk;exact⟨q,aaL _ hq,b1,b2⟩
theorem DJ{i:Int}{w:V}:∀{kvs:List (Int×V)},rT (kvs.map λp=>((Sum.inl p.1:Key),p.2)) (Sum.inl i)=some w->(i,w)∈kvs
 | [],h=>by cases h
 | kv::r,h=>by
  rw[abn]at h;by_cases e:kv.1=i
  ·rw[uX (by rw[e])]at h;cases h;subst e;exact aaC
  ·rw[uY (λz=>e (Sum.inl.inj z))]at h;exact aaL _ (DJ h)
theorem Good.Wx{sh:List (Option Nat×Nat)}{zs:List Nat}{ms:dH}(hO:Ag sh zs)(h8:sh.length<=8)(hlen:ms.length=sh.length)(get:∀(i:Nat) m,ms[i]?=some m->∃s,sh[i]?=some s/\m.1=s.1/\m.2.length=s.2/\∀k∈m.2,lA zs k):Good ms zs:=by
 have hl:=hO.len;refine⟨⟨by rw[hlen];exact hO.ne,by omega,λm hm=>?_,λi m hm hi=>?_⟩,by omega,λm hm=>?_,hO.z0,hO.six,λi m hi hm=>?_,λi m hm=>(get i m hm).choose_spec.2.2.2⟩
 ·obtain⟨s,e1,e2,_⟩:=get 0 m hm;rw[hO.s0]at e1;cases e1;exact e2
 ·obtain⟨s,e1,e2,_⟩:=get i m hm;obtain⟨j,z,f1,f2,_⟩:=hO.go i s hi e1;exact⟨j,by rw[e2];exact f1,f2⟩
 ·obtain⟨s,e1,_,e3,_⟩:=get 0 m hm;rw[hO.s0]at e1;cases e1;exact ab2.mp e3
 ·obtain⟨s,e1,e2,e3,_⟩:=get i m hm;obtain⟨j,z,f1,f2,f3,f4⟩:=hO.go i s hi e1;exact⟨j,z,by rw[e2];exact f1,f2,f3,by rw[e3];exact f4⟩
theorem Ag.one:Ag [(none,0)] [0]:=⟨rfl,by decide,rfl,rfl,λz hz=>by simp at hz;omega,λi s hi hs=>by
 have:i < 1:=(bz hs).1;omega⟩
theorem DK{α:Type}{f:α->PyData}(xs:List α)(n:Nat):cutD (xs.map f) none (some (n:Int))=(xs.take n).map f:=by
 unfold cutD;rw[HT.zB,HT.CU,List.drop_zero,Nat.sub_zero,← List.map_take,List.length_map]
 congr 1
 exact List.take_eq_take_iff.mpr (by omega)
theorem Ik(n:Nat):yo 0 ((n:Nat):Int).toNat=(List.range n).map λ(k:Nat)=>PyData.int (0 + (k:Int)):=by
 unfold yo;rw[Int.toNat_natCast]
theorem Qw{zs:List Nat}{k:Kd}(h:lA zs k):kK zs k.ki=true:=by
 cases k with
 | any=>rfl
 | num=>rfl
 | whole c =>
  have h:c < zs.length:=h;exact aau (by show(0:Int)<=(c:Int)/\(c:Int) < (zs.length:Int);omega)
 | raw c m =>
  obtain⟨z,h1,h2⟩:∃z,zs[c]?=some z/\m < 2 ^ z:=h;have hc:=(bz h1).1;show(decide (0<=(c:Int)/\(c:Int) < (zs.length:Int))&&decide (0<=(m:Int)/\(m:Int) < ((2 ^ sizeOf zs (c:Int):Nat):Int)))=true;rw[show sizeOf zs (c:Int)=z by unfold sizeOf;rw[Int.toNat_natCast,h1];rfl,decide_eq_true (show 0<=(c:Int)/\(c:Int) < (zs.length:Int)by omega),decide_eq_true (show 0<=(m:Int)/\(m:Int) < ((2 ^ z:Nat):Int)by omega)];rfl
def Sf:Rw->Prop
 | .push w=>-2147483648<=w/\w < 2147483648
 | .bare s=>s="drop"∨s="toss"∨s="swap"
 | .jump t=>t < 1000
 | _=>False
structure FG(zs:List Nat)(p:Pt):Prop where
 tk:∀k∈p.takes,lA zs k
 t4:p.takes.length<=4
 gv:lA zs p.gives
 tb:p.takes.length<=p.boxes
 bx:p.boxes<=8
 h1:1<=p.height
 h8:p.height<=8
 r2:p.rows.length<=100
 ro:∀r∈p.rows,Sf r
 sp:p.spans=[]
def hV(n:Nat)(w:Int):List Rw:=(List.replicate (n + 1) [Rw.push w,.bare "drop"]).flatten++[.push w,.bare "toss"]
theorem LR(n:Nat)(w:Int):(List.replicate (n + 1) [PyData.tuple [.str "push",.int w],.tuple [.str "drop"]]).flatten++[.tuple [.str "push",.int w],.tuple [.str "toss"]]=(hV n w).map qI:=by
 unfold hV;rw[List.map_append,List.map_flatten,List.map_replicate];rfl
theorem ji{α:Type}(a b:α):∀n:Nat,(List.replicate n [a,b]).flatten.length=2 * n
 | 0=>rfl
 | n + 1=>by rw[aaT,aa4,abd,ji a b n];show 2 + 2 * n=_;omega
theorem oo(n:Nat)(w:Int):(hV n w).length=2 * (n + 1) + 2:=by
 unfold hV;rw[List.length_append,ji];rfl
theorem DL{α:Type}(a b:α):∀(n i:Nat) (x:α),(List.replicate n [a,b]).flatten[i]?=some x->i < 2 * n/\((i % 2=0/\x=a)∨(i % 2=1/\x=b))
 | 0,i,x,h=>by cases h
 | n + 1,0,x,h=>by cases h;exact⟨by omega,.inl ⟨rfl,rfl⟩⟩
 | n + 1,1,x,h=>by cases h;exact⟨by omega,.inr ⟨rfl,rfl⟩⟩
 | n + 1,i + 2,x,h=>by
  have h:(List.replicate n [a,b]).flatten[i]?=some x:=h;obtain⟨h1,h2⟩:=DL a b n i x h;refine⟨by omega,?_⟩;rcases h2 with⟨z,e⟩ | ⟨z,e⟩
  ·exact .inl ⟨by omega,e⟩
  ·exact .inr ⟨by omega,e⟩
theorem Aj{n:Nat}{w:Int}{i:Nat}{r:Rw}(h:(hV n w)[i]?=some r):(i % 2=0/\r=.push w)∨(i % 2=1/\(r=.bare "drop"∨(r=.bare "toss"/\i + 1=(hV n w).length))):=by
 rw[oo];unfold hV at h;by_cases hi:i < 2 * (n + 1)
 ·rw[aae (by rw[ji];exact hi)]at h;rcases (DL _ _ _ i r h).2 with⟨z,e⟩ | ⟨z,e⟩
  ·exact .inl ⟨z,e⟩
  ·exact .inr ⟨z,.inl e⟩
 ·rw[aam (by rw[ji];omega),ji]at h;obtain⟨k,rfl⟩:∃k,i=2 * (n + 1) + k:=⟨i - 2 * (n + 1),by omega⟩;rw[Nat.add_sub_cancel_left]at h
  match k,h with
  | 0,h=>cases h;exact .inl ⟨by omega,rfl⟩
  | 1,h=>cases h;exact .inr ⟨by omega,.inr ⟨rfl,by omega⟩⟩
  | k + 2,h=>cases h
theorem LS{n:Nat}{w:Int}(h0:-2147483648<=w)(h1:w < 2147483648):∀r∈hV n w,Sf r:=λr hr=>by
 obtain⟨i,hi⟩:=aa9 hr;rcases Aj hi with⟨_,rfl⟩ | ⟨_,rfl | ⟨rfl,_⟩⟩
 ·exact⟨h0,h1⟩
 ·exact .inl rfl
 ·exact .inr (.inl rfl)
theorem Wy(a b c d e f:PyData):cutD [a,b,c,d,e,f] none (some 4)=[a,b,c,d]:=rfl
structure Uq(zs:List Nat)(p:Pt)(pps:List Pp):Prop where
 bb:∃B,Up (B5 p) B/\B.all (kK zs)=true/\∀x∈pps,x.2=(B,[])/\x.1 % 2=0/\0<=x.1/\x.1 < (p.rows.length:Int)
 up:(pps.map (·.1)).Pairwise (· < ·)
 le:pps.length<=100
theorem uz{p:Pt}(h:p.takes.length<=p.boxes):(B5 p).length=p.boxes:=by
 unfold B5;rw[List.length_append,List.length_map,List.length_replicate];omega
theorem Il{zs:List Nat}{p:Pt}(h:FG zs p):(B5 p).all (kK zs)=true:=by
 unfold B5;rw[List.all_append,Bool.and_eq_true];refine⟨?_,List.all_eq_true.mpr λk hk=>by rw[List.eq_of_mem_replicate hk];rfl⟩;rw[List.all_map,List.all_eq_true];exact λk hk=>Qw (h.tk k hk)
theorem Ak{zs:List Nat}{c:Int}(h:¬ (0<=c/\c < (zs.length:Int))):kK zs (.whole c)=false:=aax h
theorem yG{zs:List Nat}{c m:Int}(h:¬ (0<=c/\c < (zs.length:Int))):kK zs (.raw c m)=false:=by
 show(decide _&&decide _)=false;rw[aax h];rfl
theorem vy{zs:List Nat}{c m:Int}(h:¬ (0<=m/\m < ((2 ^ sizeOf zs c:Nat):Int))):kK zs (.raw c m)=false:=by
 show(decide _&&decide _)=false;rw[aax h,aco]
theorem LU(xs:List PyData)(a b:Option Int):(cutD xs a b).length<=xs.length:=by
 unfold cutD;rw[List.length_take,List.length_drop];omega
structure LV(zs:List Nat)(p:Pt)(pps:List Pp):Prop where
 bx:p.boxes<=8
 tb:p.takes.length<=p.boxes
 hh:1<=p.height
 sp:p.spans=[]
 tk:(B5 p).all (kK zs)=true
 r2:p.rows.length<=100
 ro:∀(i:Nat) r,p.rows[i]?=some r->(i % 2=0/\∃w,r=.push w)∨(i % 2=1/\(r=.bare "drop"∨(r=.bare "toss"/\i + 1=p.rows.length)))
 ev:p.rows.length % 2=0
 pp:∃B,Up (B5 p) B/\B.all (kK zs)=true/\∀x∈pps,x.2=(B,[])/\x.1 % 2=0
 nd:(pps.map (·.1)).Nodup
 le:pps.length<=1000
def wm(j:Nat):Option Int->PyData
 | none=>.none
 | some a=>.tuple [.int (j:Int),.int a,.str "paper"]
def Qx(zs:List Nat)(p:Pt)(pps:List Pp)(k:Nat)(x:Pp):Prop:=(zu zs p.boxes p.height x.2=false∨x.1 < 0∨(p.rows.length:Int)<=x.1∨∃y,0 < k/\pps[k - 1]?=some y/\x.1<=y.1)/\x.2.1.length<=1000/\x.2.2.length<=1000
def N4(zs:List Nat)(p:Pt)(pps t:List Pp):Prop:=t.length=pps.length/\∀(k:Nat) x y,t[k]?=some x->pps[k]?=some y->x=y∨Qx zs p pps k x
theorem Im(k:KI):Sh 1 (.tuple (ui k)):=by
 cases k with
 | any=>exact iU (cO vq pD)
 | num=>exact iU (cO vq pD)
 | whole c=>exact iU (cO vq (cO sf pD))
 | raw c m=>exact iU (cO vq (cO sf (cO sf pD)))
theorem Ur(s:SI):Sh 3 (iz s):=iU (cO (iU (yw λk _=>Im k)) (cO (iU (yw λk _=>Im k)) pD))
theorem Io(x:Pp):Sh 4 (i8 x):=iU (cO sf (cO (Ur x.2) pD))
theorem pS(l:List Pp):Sh 5 (.list (l.map i8)):=LA (yw λx _=>Io x)
theorem DM{zs:List Nat}{nb nh:Nat}{s:SI}(h:s.1.length≠nb):zu zs nb nh s=false:=by
 unfold zu;rw[decide_eq_false h];rfl
theorem Ip{zs:List Nat}{nb nh:Nat}{s:SI}(h:nh < s.2.length):zu zs nb nh s=false:=by
 unfold zu;rw[decide_eq_false (show ¬ s.2.length<=nh by omega),Bool.false_and,Bool.and_false]
theorem Al{zs:List Nat}{nb nh:Nat}{s:SI}{k:KI}(hk:k∈s.1++s.2)(h:kK zs k=false):zu zs nb nh s=false:=by
 unfold zu
 have e:(s.1++s.2).all (kK zs)=false:=by
  cases e:(s.1++s.2).all (kK zs)with
  | false=>rfl
  | true=>rw[aa1.mp e k hk]at h;cases h
 rw[e,aco,aco]
theorem DN(B:List KI):PyData.eqv (.tuple (bw B)) (.tuple [])=decide (B=[]):=by
 cases B with
 | nil=>rfl
 | cons a r=>rfl
theorem xx{α:Type}{f:α->PyData}(xs:List α)(n:Nat):cutD (xs.map f) (some (n:Int)) none=(xs.drop n).map f:=by
 unfold cutD;rw[HT.zB,HT.CU,List.length_map,List.map_drop,List.take_of_length_le (by rw[List.length_drop,List.length_map];omega)];by_cases h:n<=xs.length
 ·rw[Nat.min_eq_left h]
 ·rw[Nat.min_eq_right (by omega),List.drop_eq_nil_of_le (by simp),List.drop_eq_nil_of_le (by simp;omega)]
theorem Us(a b c d e f:PyData):cutD [a,b,c,d,e,f] (some 3) none=[d,e,f]:=rfl
theorem Ut(a b c d e f:PyData):cutD [a,b,c,d,e,f] none (some 3)=[a,b,c]:=rfl
theorem vz{K:aH}{P P':Addr->Prop}{H H3:Hp}{v:V}{d:PyData}(h:aE K P H v d)(hn:∀c,P' c->P c∨H c=none)(s:aS H H3):aE K P' H3 v d:=aX.same (ft λc o n e=>⟨(λz=>by rcases hn c z with y | y;exact n y;rw[y]at e;cases e),s c o e⟩) h
theorem hZ{K:aH}{P P':Addr->Prop}{H H':Hp}{v:V}{d:PyData}(h:aE K P H v d)(s:∀c o,¬ P c->H c=some o->¬ P' c/\H' c=some o):aE K P' H' v d:=aX.same (ft s) h
def Pl(D:Addr)(ls:List Addr):Addr->Prop:=λc=>c=D∨c∈ls
def Uu(K:aH)(P:Addr->Prop)(H:Hp)(y:V)(l:Addr)(p:Pt):Prop:=∃(t:Addr) (x0 x1 x2 x3 x5:V) (rv:List V),y=.ref t/\¬ P t/\H t=some (.tup [x0,x1,x2,x3,.ref l,x5])/\aE K P H x0 (.list (fE p.takes))/\aE K P H x1 (.tuple (DF p.gives))/\aE K P H x2 (.int (p.boxes:Int))/\aE K P H x3 (.int (p.height:Int))/\aE K P H x5 (.list (p.spans.map Vp))/\H l=some (.lst rv)/\bR (aE K P H) rv (p.rows.map qI)
theorem Uu.grow{K:aH}{P P':Addr->Prop}{H H':Hp}{y:V}{l:Addr}{p:Pt}(h:Uu K P H y l p)(s:∀c o,¬ P c->H c=some o->¬ P' c/\H' c=some o)(e:∀o,H l=some o->H' l=some o):Uu K P' H' y l p:=by
 obtain⟨t,x0,x1,x2,x3,x5,rv,h1,h2,h3,h4,h5,h6,h7,h8,h9,Uv⟩:=h;obtain⟨a1,a2⟩:=s t _ h2 h3;exact⟨t,x0,x1,x2,x3,x5,rv,h1,a1,a2,hZ h4 s,hZ h5 s,hZ h6 s,hZ h7 s,hZ h8 s,e _ h9,Uv.imp λ_ _ z=>hZ z s⟩
structure Sg(K:aH)(P:Addr->Prop)(H:Hp)(b:Addr)(ms:dH)(ps:List Pt)(j:Nat)(p:Pt)(l4:Addr):Prop where
 at':∃(mk:V) (pl t:Addr) (ys:List V) (x0 x1 x2 x3 x5:V) (rv:List V),H b=some (.tup [mk,.ref pl])/\H pl=some (.lst ys)/\ys[j]?=some (.ref t)/\H t=some (.tup [x0,x1,x2,x3,.ref l4,x5])/\H l4=some (.lst rv)/\bR (aE K P H) rv (p.rows.map qI)
 np:¬ P l4
 rd:∀(HX:Hp) (rv':List V) (rs':List Rw),(∀c o,¬ P c->c≠l4->H c=some o->HX c=some o)->HX l4=some (.lst rv')->bV K HX rv' (rs'.map qI)->aX K HX (.ref b) (uy ms (ps.set j {p with rows:=rs'}))
theorem Qy{K:aH}{P:Addr->Prop}{H3:Hp}{b D D2:Addr}{ms:dH}{ps:List Pt}{j:Nat}{p:Pt}{ls:List Addr}{ys:List V}(hp:ps[j]?=some p)(hb:H3 b=some (.tup [.ref D,.ref D2]))(hbn:¬ (P b∨Pl D2 ls b))(hD:aE K (λc=>P c∨Pl D2 ls c) H3 (.ref D) (cV ms))(JS:H3 D2=some (.lst ys))(nd:ls.Nodup)(nD:D2∉ls)(nP:∀c,Pl D2 ls c->¬ P c)(ll:ls.length=ps.length)(ly:ys.length=ps.length)
  (hI:∀(k:Nat) y l p,ys[k]?=some y->ls[k]?=some l->ps[k]?=some p->Uu K (λc=>P c∨Pl D2 ls c) H3 y l p):∃l4,ls[j]?=some l4/\Sg K P H3 b ms ps j p l4:=by
 have hj:=(bz hp).1;obtain⟨l4,Qz⟩:∃l,ls[j]?=some l:=⟨_,cW (by omega)⟩;obtain⟨y,hy⟩:∃y,ys[j]?=some y:=⟨_,cW (by omega)⟩;have l4m:=aan Qz;refine⟨l4,Qz,?_,nP l4 (.inr l4m),λHX rv' rs' hX h4 hR=>?_⟩
 ·obtain⟨t,x0,x1,x2,x3,x5,rv,rfl,h2,h3,h5,h6,h7,h8,h9,Uv,Wz⟩:=hI j y l4 p hy Qz hp;exact⟨_,D2,t,ys,x0,x1,x2,x3,x5,rv,hb,JS,hy,h3,Uv,(Wz.imp λ_ _ z=>z.sub λc hc=>.inl hc)⟩
 ·have sX:aS (cutH (λc=>P c∨Pl D2 ls c) H3) HX:=λc o e=>by
   obtain⟨n,e⟩:=ba.mp e;exact hX c o (λz=>n (.inl z)) (λz=>n (.inr (.inr (by rw[z];exact l4m)))) e
  have up:∀{v:V} {d:PyData},aE K (λc=>P c∨Pl D2 ls c) H3 v d->aX K HX v d:=λh=>aX.same sX h
  have d2n:D2≠l4:=λz=>nD (by rw[z];exact l4m)
  have hbl:b≠l4:=λz=>hbn (.inr (.inr (by rw[z];exact l4m)))
  refine aX.wg (dG.of (hX b _ (λz=>hbn (.inl z)) hbl hb)) (.cons (up hD) (.cons (aX.Pe (dC.of (hX D2 _ (nP D2 (.inl rfl)) d2n JS)) ⟨by rw[aaa,aaH,ly],λk y' d hy' hd=>?_⟩) .nil));obtain⟨pk,hpk,rfl⟩:=dZ hd;have hk:=(bz hpk).1;rw[aaH]at hk;obtain⟨lk,hlk⟩:∃l,ls[k]?=some l:=⟨_,cW (by omega)⟩;have hps:ps[k]?=some ps[k]:=cW hk;obtain⟨t,x0,x1,x2,x3,x5,rv,rfl,h2,h3,h5,h6,h7,h8,h9,Uv,Wz⟩:=hI k y' lk _ hy' hlk hps;have tl:t≠l4:=λz=>h2 (.inr (.inr (by rw[z];exact l4m)))
  have fin:∀rs:List Rw,pk={ps[k]with rows:=rs}->aX K HX (.ref lk) (.list (rs.map qI))->aX K HX (.ref t) (kI pk):=λrs e hr=>by
   subst e;exact aX.wg (dG.of (hX t _ (λz=>h2 (.inl z)) tl h3)) (.cons (up h5) (.cons (up h6) (.cons (up h7) (.cons (up h8) (.cons hr (.cons (up h9) .nil))))))
  by_cases e:j=k
  ·subst e;rw[aar hk]at hpk;cases hpk;rw[Qz]at hlk;cases hlk;rw[hp]at hps;have ep:=aaJ hps;refine fin rs' (by rw[← ep]) (aX.Pe (dC.of h4) hR)
  ·rw[aaq e,hps]at hpk;cases hpk
   have ne:lk≠l4:=λz=>by
    subst z;obtain⟨i1,e1⟩:=bz Qz;obtain⟨i2,e2⟩:=bz hlk;rcases Nat.lt_or_gt_of_ne e with h | h
    ·exact acB.mp nd j k i1 i2 h (e1.trans e2.symm)
    ·exact acB.mp nd k j i2 i1 h (e2.trans e1.symm)
   exact fin ps[k].rows rfl (aX.Pe (dC.of (hX lk _ (nP lk (.inr (aan hlk))) ne Uv)) (Wz.imp λ_ _ z=>up z))
theorem QA{K:aH}{H HX:Hp}{v:V}{r:Rw}(h:aX K H v (qI r))(e:∀c o,H c=some o->(∀zs,o≠.lst zs)->HX c=some o):aX K HX v (qI r):=by
 obtain⟨a,xs,rfl,ha,hR⟩:=aX.bL h
 have ha':dG K HX a xs:=by
  rcases ha with(h | ⟨u,h⟩) | h
  ·exact .inl (.inl (e _ _ h (λzs z=>by cases z)))
  ·exact .inl (.inr ⟨u,e _ _ h (λzs z=>by cases z)⟩)
  ·exact .inr h
 refine .wg ha' ⟨hR.1,λi x d hx hd=>?_⟩;have z:=hR.2 i x d hx hd;rcases aay.mp (aan hd)with rfl | hm
 ·cases z;exact .str _
 ·obtain⟨n,_,rfl⟩:=abp.mp hm;cases z;exact .int _
structure Gd(k b:Nat)(d:PyData):Prop where
 sh:d.showable=true
 nd:d.hasDict=false
 cl:d.canLay0=true
 dp:d.depth<=k
 ln:d.shown.length<=b
theorem Gd.mono{k b k' b':Nat}{d:PyData}(h:Gd k b d)(hk:k<=k')(hb:b<=b'):Gd k' b' d:=⟨h.sh,h.nd,h.cl,aaB h.dp hk,aaB h.ln hb⟩
theorem LW{k b:Nat}(hb:4<=b):Gd k b .none:=⟨rfl,rfl,rfl,aaP _,aaB (by decide +kernel:(PyData.shown .none).length<=4) hb⟩
theorem Iq{n:Nat}(h:n < 2 ^ 64):n.log2 < 64:=by
 by_cases h0:n=0
 ·subst h0;decide
 ·exact(Nat.log2_lt h0).mpr h
theorem yH{k b:Nat}{i:Int}(h:i.natAbs < 2 ^ 64)(hb:65<=b):Gd k b (.int i):=by
 have hl:=Iq h;refine⟨aau (by omega),rfl,rfl,aaP _,?_⟩;have:=PySem.int_text_length_le (a:=i) (k:=64) (by decide) hl
 have e:(PyData.shown (.int i)).length=(toString i).length:=by
  show(Str.ofString (toString i)).cps.size=_;rw[← ack,PyProof.Rows.signs_ofString,aaa,String.length_toList]
 omega
def Nm(x:Str):Prop:=(∀c∈x.cps.toList,c < 128)/\x.length<=20
theorem Ir{k b:Nat}{x:Str}(h:Nm x)(hb:202<=b):Gd k b (.str x):=by
 refine⟨rfl,rfl,?_,aaP _,?_⟩
 ·show x.cps.all (· < 1114112)=true;rw[← Array.all_toList,aa1];intro c hc;have:=h.1 c hc;exact aau (by omega)
 ·have z:=PySem.StrLaws.reprText_len x (λc hc=>by have:=h.1 c hc;omega);have:=h.2;show(reprText x).length<=b;omega
def xy(k b:Nat)(ds:List PyData):Prop:=∀d∈ds,Gd k b d
theorem lF{k b:Nat}:∀{ds:List PyData},xy k b ds->PyData.showableAll ds=true/\PyData.hasDictAll ds=false/\PyData.canLayAll0 ds=true/\PyData.depthAll ds<=k/\(∀t∈PyData.shownAll ds,t.length<=b)/\(PyData.shownAll ds).length=ds.length
 | [],_=>⟨rfl,rfl,rfl,aaP _,(λt h=>nomatch h),rfl⟩
 | d::r,h=>by
  have hd:=h d aaC;obtain⟨h1,h2,h3,h4,h5,h6⟩:=lF (ds:=r) (λy hy=>h y (aaL _ hy));refine⟨?_,?_,?_,?_,?_,?_⟩
  ·show(PyData.showable d&&PyData.showableAll r)=true;rw[hd.sh,h1];rfl
  ·show(PyData.hasDict d||PyData.hasDictAll r)=false;rw[hd.nd,h2];rfl
  ·show(PyData.canLay0 d&&PyData.canLayAll0 r)=true;rw[hd.cl,h3];rfl
  ·show max (PyData.depth d) (PyData.depthAll r)<=k;exact Nat.max_le.mpr ⟨hd.dp,h4⟩
  ·intro t ht;have ht:t∈PyData.shown d::PyData.shownAll r:=ht;rcases aay.mp ht with e | e
   ·rw[e];exact hd.ln
   ·exact h5 t e
  ·show(PyData.shownAll r).length + 1=r.length + 1;rw[h6]
theorem sT{b:Nat}:∀(ts:List Str) (k:Nat) (acc:Str),(∀t∈ts,t.length<=b)->(textFrom k acc ts).length<=acc.length + (b + 2) * ts.length
 | [],_,acc,_=>by show acc.length<=_;omega
 | t::ts,k,acc,h=>by
  show(textFrom (k + 1) (acc++(if k > 0 then ", " else "" : String)++t) ts).length<=_;have ih:=sT ts (k + 1) (acc++(if k > 0 then ", " else "" : String)++t) (λy hy=>h y (aaL _ hy));have ht:=h t aaC;have e:(Str.ofString (if k > 0 then ", " else "")).length<=2:=by split<;>decide +kernel
  rw[abK,abK]at ih;rw[abo,Nat.mul_add];omega
theorem qM{k b n c:Nat}{ds:List PyData}(h:xy k b ds)(hn:ds.length<=n)(hc:(b + 2) * n + 2<=c):Gd (k + 1) c (.list ds):=by
 obtain⟨h1,h2,h3,h4,h5,h6⟩:=lF h;refine⟨h1,h2,h3,by show PyData.depthAll ds + 1<=k + 1;omega,?_⟩;show(textFrom 0 "[" (PyData.shownAll ds)++"]").length<=c;have z:=sT (b:=b) (PyData.shownAll ds) 0 "[" h5;have e1:("[" : Str).length=1:=by decide +kernel
 have e2:("]" : Str).length=1:=by decide +kernel
 rw[abK,e2];rw[e1,h6]at z;have:=Nat.mul_le_mul_left (b + 2) hn;omega
theorem lG{k b n c:Nat}{ds:List PyData}(h:xy k b ds)(hn:ds.length<=n)(hc:(b + 2) * n + 3<=c):Gd (k + 1) c (.tuple ds):=by
 obtain⟨h1,h2,h3,h4,h5,h6⟩:=lF h;refine⟨h1,h2,h3,by show PyData.depthAll ds + 1<=k + 1;omega,?_⟩;show(("(" : Str)++Str.join ", " (PyData.shownAll ds)++(if (PyData.shownAll ds).length == 1 then ",)" else ")" : String)).length<=c;have z:=PySem.StrLaws.join_length_le ", " (PyData.shownAll ds)
 have s:((PyData.shownAll ds).map (·.length)).sum<=b * (PyData.shownAll ds).length:=by
  generalize PyData.shownAll ds=l at h5
  induction l with
  | nil=>exact aaP _
  | cons x r ih =>
   have h1:=h5 x aaC;have h2:=ih λw hw=>h5 w (aaL _ hw)
   rw[abn,List.sum_cons,abo,Nat.mul_add];omega
 have e1:("(" : Str).length=1:=by decide +kernel
 have e2:(", " : Str).length=2:=by decide +kernel
 have e3:(Str.ofString (if (PyData.shownAll ds).length == 1 then ",)" else ")")).length<=2:=by split<;>decide +kernel
 rw[abK,abK,e1];rw[e2,h6]at z;rw[h6]at s;have m:=Nat.mul_le_mul_left (b + 2) hn;rw[Nat.add_mul]at m;omega
theorem DP{n:Nat}(h:n < 1000):((n:Nat):Int).natAbs < 2 ^ 64:=by
 show n < 2 ^ 64;exact ac8 h (by decide)
theorem int64{w:Int}(h0:-2147483648<=w)(h1:w < 2147483648):w.natAbs < 2 ^ 64:=aap (show w.natAbs < 2147483649 by omega) (by decide)
theorem N5{zs:List Nat}{k:Kd}(h:lA zs k)(hz:zs.length<=8)(h6:∀z∈zs,z<=6):Gd 1 700 (.tuple (DF k)):=by
 have st:∀x:Str,Nm x->Gd 0 202 (.str x):=λx h=>Ir h (aaj _)
 have ii:∀n:Nat,n < 1000->Gd 0 202 (.int (n:Int)):=λn hn=>yH (DP hn) (by decide)
 have a1:∀ds:List PyData,xy 0 202 ds->ds.length<=3->Gd 1 700 (.tuple ds):=λds h hl=>lG h hl (by decide)
 have two:∀{x y:PyData},Gd 0 202 x->Gd 0 202 y->xy 0 202 [x,y]:=λhx hy d hd=>by
  rcases aay.mp hd with rfl | hd
  ·exact hx
  ·rw[ik hd];exact hy
 cases k with
 | any=>exact a1 _ (λd hd=>by rw[ik hd];exact st _ ⟨by decide +kernel,by decide +kernel⟩) (by show 1<=3;decide)
 | num=>exact a1 _ (λd hd=>by rw[ik hd];exact st _ ⟨by decide +kernel,by decide +kernel⟩) (by show 1<=3;decide)
 | whole c =>
  have h:c < zs.length:=h;exact a1 _ (two (st _ ⟨by decide +kernel,by decide +kernel⟩) (ii c (by omega))) (by show 2<=3;decide)
 | raw c m =>
  obtain⟨z,h1,h2⟩:∃z,zs[c]?=some z/\m < 2 ^ z:=h;have hc:=(bz h1).1;have z6:=h6 z (aan h1);have pz:2 ^ z<=2 ^ 6:=Nat.pow_le_pow_right (by decide) z6;rw[show(2:Nat) ^ 6=64 by decide]at pz;refine a1 _ (λd hd=>?_) (by show 3<=3;decide);rcases aay.mp hd with rfl | hd
  ·exact st _ ⟨by decide +kernel,by decide +kernel⟩
  ·exact two (ii c (by omega)) (ii m (by omega)) d hd
theorem Iu{zs:List Nat}{ks:List Kd}(h:∀k∈ks,lA zs k)(hz:zs.length<=8)(h6:∀z∈zs,z<=6)(hl:ks.length<=8):Gd 2 6000 (.list (fE ks)):=qM (b:=700) (n:=8) (λd hd=>by
 obtain⟨k,hk,rfl⟩:=abp.mp hd;exact N5 (h k hk) hz h6) (by rw[aaa];exact hl) (by decide)
theorem Uw{r:Rw}(h:Sf r):Gd 1 500 (qI r):=by
 have st:∀x:Str,Nm x->Gd 0 202 (.str x):=λx h=>Ir h (aaj _)
 have a1:∀ds:List PyData,xy 0 202 ds->ds.length<=2->Gd 1 500 (.tuple ds):=λds h hl=>lG h hl (by decide)
 have one:∀x:Str,Nm x->Gd 1 500 (.tuple [.str x]):=λx h=>a1 _ (λd hd=>by rw[ik hd];exact st x h) (by show 1<=2;decide)
 have two:∀(x:Str) (i:Int),Nm x->i.natAbs < 2 ^ 64->Gd 1 500 (.tuple [.str x,.int i]):=λx i h hi=>a1 _ (λd hd=>by
  rcases aay.mp hd with rfl | hd
  ·exact st x h
  ·rw[ik hd];exact yH hi (by decide)) (by show 2<=2;decide)
 cases r with
 | push w =>
  obtain⟨h0,h1⟩:-2147483648<=w/\w < 2147483648:=h;exact two "push" w ⟨by decide +kernel,by decide +kernel⟩ (int64 h0 h1)
 | bare s =>
  rcases (show s="drop"∨s="toss"∨s="swap" from h)with rfl | rfl | rfl
  ·exact one _ ⟨by decide +kernel,by decide +kernel⟩
  ·exact one _ ⟨by decide +kernel,by decide +kernel⟩
  ·exact one _ ⟨by decide +kernel,by decide +kernel⟩
 | jump t =>
  have h:t < 1000:=h;exact two "jump" (t:Int) ⟨by decide +kernel,by decide +kernel⟩ (DP h)
 | _=>exact h.elim
theorem Ux{zs:List Nat}{p:Pt}(h:FG zs p)(hz:zs.length<=8)(h6:∀z∈zs,z<=6):Gd 3 400000 (kI p):=by
 have ii:∀n:Nat,n < 1000->Gd 2 60000 (.int (n:Int)):=λn hn=>yH (DP hn) (by decide)
 have t4:=h.t4;have b8:=h.bx;have h8:=h.h8;refine lG (b:=60000) (n:=6) (λd hd=>?_) (by show 6<=6;decide) (by decide);rcases aay.mp hd with rfl | hd
 ·exact(Iu h.tk hz h6 (by omega)).mono (by decide) (by decide)
 rcases aay.mp hd with rfl | hd
 ·exact(N5 h.gv hz h6).mono (by decide) (by decide)
 rcases aay.mp hd with rfl | hd
 ·exact ii _ (by omega)
 rcases aay.mp hd with rfl | hd
 ·exact ii _ (by omega)
 rcases aay.mp hd with rfl | hd
 ·exact qM (b:=500) (n:=100) (λd hd=>by
   obtain⟨r,hr,rfl⟩:=abp.mp hd;exact Uw (h.ro r hr)) (by rw[aaa];exact h.r2) (by decide)
 ·rw[ik hd,h.sp];exact qM (k:=1) (b:=0) (n:=0) (λd hd=>nomatch hd) (aaj _) (by decide)
theorem Uy{ms:dH}{zs:List Nat}{ps:List Pt}(g:Good ms zs)(h:∀p∈ps,FG zs p)(h8:ps.length<=8):Gd 5 7000000 (uy ms ps):=by
 have hz:zs.length<=8:=by rw[← g.len];exact g.wf.few
 refine lG (b:=3300000) (n:=2) (λd hd=>?_) (by show 2<=2;decide) (by decide);rcases aay.mp hd with rfl | hd
 ·refine qM (k:=3) (b:=13000) (n:=8) (λd hd=>?_) (by rw[aaa];exact g.wf.few) (by decide);obtain⟨m,hm,rfl⟩:=abp.mp hd;obtain⟨i,hi⟩:=aa9 hm;refine lG (b:=6000) (n:=2) (λd hd=>?_) (by show 2<=2;decide) (by decide);rcases aay.mp hd with rfl | hd
  ·cases e:m.1 with
   | none=>exact LW (by decide)
   | some n =>
    have hlt:=(bz hi).1;have:=g.wf.few
    have:n < 8:=by
     rcases abA i with rfl | h0
     ·have:=g.wf.first m hi;rw[e]at this;cases this
     ·obtain⟨j,a1,a2⟩:=g.wf.ahead i m hi h0;rw[e]at a1;cases a1;omega
    exact yH (DP (by omega)) (by decide)
  ·rw[ik hd];have:=g.Um i m hi
   exact Iu (λk hk=>g.kds i m hi k hk) hz g.six (by
    rcases abA i with rfl | h0
    ·rw[g.LO m hi];exact aaP _
    ·obtain⟨j,z,_,_,_,e4⟩:=g.go i m h0 hi;have:=g.six _ (aan e4);omega)
 ·rw[ik hd]
  exact(qM (b:=400000) (c:=3300000) (n:=8) (λd hd=>by
   obtain⟨p,hp,rfl⟩:=abp.mp hd;exact Ux (h p hp) hz g.six) (by rw[aaa];exact h8) (by decide)).mono (by decide) (by decide)
theorem Am{zs:List Nat}{nb nh nr:Nat}:∀{l:List Pp} {least:Int},bad zs nb nh nr least l=none->∀(k:Nat) x,l[k]?=some x->zu zs nb nh x.2=true/\x.1 < (nr:Int)/\least<=x.1/\∀y,0 < k->l[k - 1]?=some y->y.1 < x.1
 | [],_,_,k,x,h=>by cases h
 | p::r,least,hb,k,x,h=>by
  rw[qL]at hb;split at hb
  ·rename_i ok;unfold N2 at ok;rw[Bool.and_eq_true,Bool.and_eq_true]at ok;have o1:=of_decide_eq_true ok.1;have o2:=of_decide_eq_true ok.2.1
   cases k with
   | zero=>cases h;exact⟨ok.2.2,o2,o1,λy h=>absurd h (aa8 _)⟩
   | succ k =>
    have h:r[k]?=some x:=h;obtain⟨a1,a2,a3,a4⟩:=Am hb k x h;refine⟨a1,a2,by omega,λy _ hy=>?_⟩
    cases k with
    | zero=>cases hy;omega
    | succ k=>exact a4 y (abQ _) hy
  ·cases hb
theorem Iw{zs:List Nat}{nb nh nr:Nat}:∀{l:List Pp} {least:Int},(∀x∈l,least<=x.1/\x.1 < (nr:Int)/\zu zs nb nh x.2=true)->(l.map (·.1)).Pairwise (· < ·)->bad zs nb nh nr least l=none
 | [],_,_,_=>rfl
 | p::r,least,h,hp=>by
  obtain⟨h1,h2,h3⟩:=h p List.mem_cons_self;rw[List.map_cons,List.pairwise_cons]at hp;rw[qL,if_pos (by unfold N2;rw[decide_eq_true h1,decide_eq_true h2,h3];rfl)]
  exact Iw (λx hx=>by
   obtain⟨a1,a2,a3⟩:=h x (aaL _ hx);have:=hp.1 x.1 (List.mem_map_of_mem hx);exact⟨by omega,a2,a3⟩) hp.2
theorem An{zs:List Nat}{p:Pt}{pps:List Pp}(hB:FG zs p)(h:Uq zs p pps):bad zs p.boxes p.height p.rows.length 0 pps=none:=by
 obtain⟨B,uB,oB,hall⟩:=h.bb;refine Iw (λx hx=>?_) h.up;obtain⟨e,_,a1,a2⟩:=hall x hx;refine⟨a1,a2,?_⟩;rw[e];unfold zu;rw[decide_eq_true (show(B,([]:List KI)).1.length=p.boxes by show B.length=_;rw[uB.1,uz hB.tb]),decide_eq_true (show(B,([]:List KI)).2.length<=p.height from Nat.zero_le _)];show(true&&(true&&(B++[]).all (kK zs)))=true;rw[List.append_nil,oB];rfl
theorem Iy{zs:List Nat}{p:Pt}{pps u:List Pp}(hc:N4 zs p pps u)(hb:bad zs p.boxes p.height p.rows.length 0 u=none):u=pps:=by
 apply abJ;intro k
 induction k using Nat.strongRecOn with
 | ind k ih =>
  cases hx:u[k]? with
  | none =>
   have h1:=List.getElem?_eq_none_iff.mp hx;rw[acd (by rw[← hc.1];exact h1)]
  | some x =>
   have h1:=(bz hx).1;have hy:=cW (show k < pps.length by rw[← hc.1];exact h1);obtain⟨b1,b2,b3,b4⟩:=Am hb k x hx;rcases hc.2 k x _ hx hy with e | ⟨e,_⟩
   ·rw[hy,e]
   ·rcases e with e | e | e | ⟨y,e1,e2,e3⟩
    ·rw[b1]at e;cases e
    ·omega
    ·omega
    ·have:=b4 y e1 (by rw[ih (k - 1) (by omega)];exact e2);omega
theorem yI{zs:List Nat}{p:Pt}{pps u:List Pp}(hB:FG zs p)(h:Uq zs p pps)(hc:N4 zs p pps u):∀x∈u,x.2.1.length<=1000/\x.2.2.length<=1000:=λx hx=>by
 obtain⟨k,hk⟩:=aa9 hx;have h1:=(bz hk).1;have hy:=cW (show k < pps.length by rw[← hc.1];exact h1);rcases hc.2 k x _ hk hy with e | ⟨_,e⟩
 ·obtain⟨B,uB,oB,hall⟩:=h.bb;rw[e,(hall _ (aan hy)).1];have:=hB.bx;have:=uz hB.tb;have:=uB.1;exact⟨by show B.length<=1000;omega,aaP _⟩
 ·exact e
theorem Ao{zs:List Nat}{p:Pt}{pps:List Pp}:N4 zs p pps pps:=⟨rfl,λk x y h1 h2=>by rw[h1]at h2;cases h2;exact .inl rfl⟩
theorem yJ{zs:List Nat}{p:Pt}{pps:List Pp}{n:Nat}{w:Int}(hB:FG zs p)(h:Uq zs p pps)(hr:p.rows=hV n w):LV zs p pps:=by
 have hl:=oo n w;obtain⟨B,uB,oB,hall⟩:=h.bb;refine⟨hB.bx,hB.tb,hB.h1,hB.sp,Il hB,hB.r2,λi r hi=>?_,by rw[hr,hl];omega,⟨B,uB,oB,λx hx=>⟨(hall x hx).1,(hall x hx).2.1⟩⟩,h.up.imp λhab e=>by omega,aaB h.le (by decide)⟩;rw[hr]at hi ⊢;rcases Aj hi with⟨a,e⟩ | ⟨a,e⟩
 ·exact .inl ⟨a,w,e⟩
 ·exact .inr ⟨a,e⟩
theorem Iz{K:aH}{P:Addr->Prop}{H H':Hp}{b l4:Addr}{ms:dH}{ps:List Pt}{j:Nat}{p:Pt}(h:Sg K P H b ms ps j p l4)(s:aS H H'):Sg K P H' b ms ps j p l4:=by
 obtain⟨⟨mk,pl,t,ys,x0,x1,x2,x3,x5,rv,h1,h2,h3,h4,h5,h6⟩,np,rd⟩:=h;exact⟨⟨mk,pl,t,ys,x0,x1,x2,x3,x5,rv,s _ _ h1,s _ _ h2,h3,s _ _ h4,s _ _ h5,h6.imp λ_ _ z=>z.same s⟩,np,λHX rv' rs' hX a b=>rd HX rv' rs' (λc o n m e=>hX c o n m (s c o e)) a b⟩
theorem LX{K:aH}{P:Addr->Prop}{H:Hp}{b l4:Addr}{ms:dH}{ps:List Pt}{j:Nat}{p:Pt}(h:Sg K P H b ms ps j p l4)(hp:ps[j]?=some p):aE K P H (.ref b) (uy ms ps):=by
 obtain⟨⟨mk,pl,t,ys,x0,x1,x2,x3,x5,rv,h1,h2,h3,h4,h5,h6⟩,np,rd⟩:=h;have z:=rd (cutH P H) rv p.rows (λc o n _ e=>ba.mpr ⟨n,e⟩) (ba.mpr ⟨np,h5⟩) ⟨h6.1,h6.2⟩
 have e:ps.set j {p with rows:=p.rows}=ps:=by
  apply abJ;intro k;rw[abI];split
  ·rename_i e;subst e;rw[aaD (bz hp).1,hp]
  ·rfl
 rw[e]at z;exact z
def Uz:Option Int->PyData
 | none=>.none
 | some a=>.int a
theorem QB(j:Nat)(o:Option Int):Sh 1 (wm j o):=by
 cases o with
 | none=>exact Qe
 | some a=>exact iU (cO sf (cO sf (cO vq pD)))
inductive iB (ds:List PyData)(Q:PyData->Prop):Prop where
 | mk (c k:Int) (jK:ds=[.int c,.int k]) (jL:0<=k) (oJ:k<=1000000) (uA:∀v:Int,0<=v->v < 200000000000->Q (.int v)):iB  ds Q
def bE(K:aH):Sp:=oH K iB
theorem aM:cU iB:=by
 rintro ds Q Q' f ⟨c,k,z2,h0,h1,q⟩;exact⟨c,k,z2,h0,h1,by intros;apply f;apply q<;>assumption⟩
theorem aR{K:aH}:oU K (bE K) iB:=cu
inductive jM (ds:List PyData)(Q:PyData->Prop):Prop where
 | mk (ns:List Int) (k:Nat) (jK:ds=[.list (ns.map PyData.int),.int (k:Int)]) (jL:k<=1000) (oJ:∀v:Int,Q (.int v)):jM  ds Q
def eD(K:aH):Sp:=oH K jM
theorem bI:cU jM:=by
 rintro ds Q Q' f ⟨ns,k,z2,h1,q⟩;exact⟨ns,k,z2,h1,by intros;apply f;apply q<;>assumption⟩
theorem bP{K:aH}:oU K (eD K) jM:=cu
inductive jN (ds:List PyData)(Q:PyData->Prop):Prop where
 | mk (zs:List Nat) (n:Int) (jK:ds=[.int n,.list (dw zs)]) (jL:0 < zs.length) (oJ:zs.length<=100) (uA:(∀z∈zs,z<=6)) (B7:∀k:Kd,lA zs k->Q (.tuple (DF k))):jN  ds Q
def fF(K:aH):Sp:=oH K jN
theorem lH:cU jN:=by
 rintro ds Q Q' f ⟨zs,n,z2,hz,R7,h6,q⟩;exact⟨zs,n,z2,hz,R7,h6,by intros;apply f;apply q<;>assumption⟩
theorem lI{K:aH}:oU K (fF K) jN:=cu
inductive iC (ds:List PyData)(Q:PyData->Prop):Prop where
 | mk (c:Int) (jK:ds=[.int c]) (jL:∀(ms:dH) (zs:List Nat),Good ms zs->Q (cV ms)):iC  ds Q
def gw(K:aH):Sp:=oH K iC
theorem yK:cU iC:=by
 rintro ds Q Q' f ⟨c,z1,q⟩;exact⟨c,z1,by intros;apply f;apply q<;>assumption⟩
theorem yL{K:aH}:oU K (gw K) iC:=cu
inductive gx (ds:List PyData)(Q:PyData->Prop):Prop where
 | mk (ms:dH) (zs:List Nat) (c z:Nat) (jK:ds=[cV ms,.int (c:Int)]) (jL:Good ms zs) (oJ:zs[c]?=some z) (uA:∀xs:List PyData,xs.length=z->Q (.list xs)):gx  ds Q
def cK(K:aH):Sp:=oH K gx
theorem iZ:cU gx:=by
 rintro ds Q Q' f ⟨ms,zs,c,z,z4,g,hz,q⟩;exact⟨ms,zs,c,z,z4,g,hz,by intros;apply f;apply q<;>assumption⟩
theorem i3{K:aH}:oU K (cK K) gx:=cu
inductive iD (ds:List PyData)(Q:PyData->Prop):Prop where
 | mk (ms:dH) (zs:List Nat) (jK:ds=[cV ms]) (jL:Good ms zs) (oJ:Q (.list (dw zs))):iD  ds Q
def gy(K:aH):Sp:=oH K iD
theorem yM:cU iD:=by
 rintro ds Q Q' f ⟨ms,zs,z2,g,q⟩;exact⟨ms,zs,z2,g,by intros;apply f;apply q<;>assumption⟩
theorem yN{K:aH}:oU K (gy K) iD:=cu
inductive jO (ds:List PyData)(Q:PyData->Prop):Prop where
 | mk (ms:dH) (zs:List Nat) (c:Int) (jK:ds=[cV ms,.int c]) (jL:Good ms zs) (oJ:∀p:Pt,FG zs p->p.rows.length=2->Q (kI p)):jO  ds Q
def iE(K:aH):Sp:=oH K jO
theorem sU:cU jO:=by
 rintro ds Q Q' f ⟨ms,zs,c,z3,g,q⟩;exact⟨ms,zs,c,z3,g,by intros;apply f;apply q<;>assumption⟩
theorem sV{K:aH}:oU K (iE K) jO:=cu
inductive jP (ds:List PyData)(Q:PyData->Prop):Prop where
 | mk (n:Int) (jK:ds=[.int n]) (jL:∀w:Int,-2147483648<=w->w < 2147483648->Q (.int w)):jP  ds Q
def iF(K:aH):Sp:=oH K jP
theorem Ap:cU jP:=by
 rintro ds Q Q' f ⟨n,z1,q⟩;exact⟨n,z1,by intros;apply f;apply q<;>assumption⟩
theorem Aq{K:aH}:oU K (iF K) jP:=cu
inductive jQ (ds:List PyData)(Q:PyData->Prop):Prop where
 | mk (ns:List Int) (jK:ds=[.list (ns.map PyData.int)]) (jL:∀(ms:dH) (zs:List Nat) (ps:List Pt) (j n:Nat) (p:Pt) (w:Int),Good ms zs->ps.length<=8->(∀p∈ps,FG zs p)->ps[j]?=some p->n < 49->p.rows=hV n w->Q (.tuple [uy ms ps,.int (j:Int)])):jQ  ds Q
def iG(K:aH):Sp:=oH K jQ
theorem Ar:cU jQ:=by
 rintro ds Q Q' f ⟨ns,z1,q⟩;exact⟨ns,z1,by intros;apply f;apply q<;>assumption⟩
theorem As{K:aH}:oU K (iG K) jQ:=cu
inductive dq (ds:List PyData)(Q:PyData->Prop):Prop where
 | mk (ms:dH) (zs:List Nat) (n:Int) (jK:ds=[cV ms,.int n]) (jL:Good ms zs) (oJ:∀k:KI,kK zs k=false->Q (.tuple (ui k))):dq  ds Q
def cP(K:aH):Sp:=oH K dq
theorem qN:cU dq:=by
 rintro ds Q Q' f ⟨ms,zs,n,z3,g,q⟩;exact⟨ms,zs,n,z3,g,by intros;apply f;apply q<;>assumption⟩
theorem qP{K:aH}:oU K (cP K) dq:=cu
inductive cQ (ds:List PyData)(Q:PyData->Prop):Prop where
 | mk (ms:dH) (zs:List Nat) (p:Pt) (B:List KI) (way:Nat) (rest:Int) (jK:ds=[cV ms,kI p,iz (B,[]),.int (way:Int),.int rest]) (jL:Good ms zs) (oJ:B.length=p.boxes) (uA:p.boxes<=8) (B7:1<=p.height) (JT:p.height<=8) (QC:∀s:SI,zu zs p.boxes p.height s=false->s.1.length<=1000->s.2.length<=1000->Q (iz s)):cQ  ds Q
def cD(K:aH):Sp:=oH K cQ
theorem pT:cU cQ:=by
 rintro ds Q Q' f ⟨ms,zs,p,B,way,rest,z6,g,lB,b8,h1,h8,q⟩;exact⟨ms,zs,p,B,way,rest,z6,g,lB,b8,h1,h8,by intros;apply f;apply q<;>assumption⟩
theorem pU{K:aH}:oU K (cD K) cQ:=cu
def i4:Ad:=λds Q=>∃(ms:dH) (zs:List Nat) (p:Pt) (pps:List Pp) (c:Int),ds=[cV ms,kI p,.list (pps.map i8),.int c]/\Good ms zs/\FG zs p/\Uq zs p pps/\∀t:List Pp,N4 zs p pps t->Q (t.map i8)
def eS(K:aH):Sp:=Uj K i4
theorem lJ:HY i4:=by
 rintro ds Q Q' f ⟨ms,zs,p,pps,c,z5,g,hB,hQ,q⟩;exact⟨ms,zs,p,pps,c,z5,g,hB,hQ,by intros;apply f;apply q<;>assumption⟩
theorem lK{K:aH}:Dx K (eS K) i4:=Uk
theorem xA{H H2:Hp}{D:Addr}{o:HO}(s:aS H H2)(n:H D=none):aS H (upd H2 D o):=λb x e=>by rw[uN (nN e n)];exact s b x e
inductive iH(K:aH)(vs:List V)(H:Hp)(Q:VK)(ER:XK):Prop where
 | mk (P:Addr->Prop) (v0:V) (ms:dH) (ps:List Pt) (j:Nat) (p:Pt) (jK:vs=[v0]) (jL:(∀c,P c->∃o,H c=some o)) (oJ:aE K P H v0 (uy ms ps)) (uA:ms.length<=8) (B7:ps.length<=8) (JT:ps[j]?=some p) (QC:∀(b l4:Addr) (H':Hp),aS H H'->H l4=none->Sg K P H' b ms ps j p l4->Q (.ref b) H'):iH K vs H Q ER
inductive cR (ds:List PyData)(Q:PyData->Prop):Prop where
 | mk (ms:dH) (zs:List Nat) (p:Pt) (s:SI) (jK:ds=[cV ms,kI p,iz s]) (jL:Good ms zs) (oJ:s.1.length<=1000) (uA:s.2.length<=1000) (B7:Q (.bool (zu zs p.boxes p.height s))):cR  ds Q
def cE(K:aH):Sp:=oH K cR
theorem pV:cU cR:=by
 rintro ds Q Q' f ⟨ms,zs,p,s,z4,g,l1,l2,q⟩;exact⟨ms,zs,p,s,z4,g,l1,l2,by intros;apply f;apply q<;>assumption⟩
theorem pW{K:aH}:oU K (cE K) cR:=cu
inductive oq (ds:List PyData)(Q:PyData->Prop):Prop where
 | mk (ms:dH) (zs:List Nat) (p:Pt) (pps:List Pp) (jK:ds=[cV ms,kI p,.list (pps.map i8)]) (jL:Good ms zs) (oJ:(∀x∈pps,x.2.1.length<=1000/\x.2.2.length<=1000)) (uA:(bad zs p.boxes p.height p.rows.length 0 pps=none->Q .none)) (B7:(∀a,bad zs p.boxes p.height p.rows.length 0 pps=some a->Q (.int a))):oq  ds Q
def jR(K:aH):Sp:=oH K oq
theorem B8:cU oq:=by
 rintro ds Q Q' f ⟨ms,zs,p,pps,e,h1,h2,q,x⟩;exact⟨ms,zs,p,pps,e,h1,h2,λh=>f _ (q h),λa h=>f _ (x a h)⟩
theorem B9{K:aH}:oU K (jR K) oq:=cu
inductive gz (ds:List PyData)(Q:PyData->Prop):Prop where
 | mk (ns:List Int) (p:Pt) (zs:List Nat) (jK:ds=[.list (ns.map PyData.int),kI p]) (jL:ns.length<=63) (oJ:FG zs p) (uA:∀pps:List Pp,Uq zs p pps->Q (.list (pps.map i8))):gz  ds Q
def fw(K:aH):Sp:=oH K gz
theorem wo:cU gz:=by
 rintro ds Q Q' f ⟨ns,p,zs,z3,hn,hB,q⟩;exact⟨ns,p,zs,z3,hn,hB,by intros;apply f;apply q<;>assumption⟩
theorem wq{K:aH}:oU K (fw K) gz:=cu
inductive iI (ds:List PyData)(Q:PyData->Prop):Prop where
 | mk (x:Int) (jK:ds=[.int x]) (jL:Q (.bool true)):iI  ds Q
def gA(K:aH):Sp:=oH K iI
theorem qQ:cU iI:=by
 rintro ds Q Q' f ⟨x,z1,q⟩;exact⟨x,z1,by intros;apply f;apply q<;>assumption⟩
theorem qR{K:aH}:oU K (gA K) iI:=cu
inductive iJ (ds:List PyData)(Q:PyData->Prop):Prop where
 | mk (ms:dH) (c:Nat) (jK:ds=[cV ms,.int (c:Int)]) (jL:Wf ms) (oJ:c < ms.length) (uA:Q (.list (dw (eR ms c)))):iJ  ds Q
def eT(K:aH):Sp:=oH K iJ
theorem qS:cU iJ:=by
 rintro ds Q Q' f ⟨ms,c,z2,hw,hc,q⟩;exact⟨ms,c,z2,hw,hc,by intros;apply f;apply q<;>assumption⟩
theorem qT{K:aH}:oU K (eT K) iJ:=cu
inductive iK (ds:List PyData)(Q:PyData->Prop):Prop where
 | mk (ms:dH) (zs:List Nat) (c z:Nat) (jK:ds=[cV ms,.int (c:Int)]) (jL:Good ms zs) (oJ:zs[c]?=some z) (uA:∀xs:List PyData,xs.length=z->Q (.list xs)):iK  ds Q
def gB(K:aH):Sp:=oH K iK
theorem yO:cU iK:=by
 rintro ds Q Q' f ⟨ms,zs,c,z,z4,g,hz,q⟩;exact⟨ms,zs,c,z,z4,g,hz,by intros;apply f;apply q<;>assumption⟩
theorem yP{K:aH}:oU K (gB K) iK:=cu
inductive iL (ds:List PyData)(Q:PyData->Prop):Prop where
 | mk (ms:dH) (zs:List Nat) (c z:Nat) (jK:ds=[cV ms,.int (c:Int)]) (jL:Good ms zs) (oJ:zs[c]?=some z) (uA:Q (.int (((2 ^ z:Nat):Int) - 1))):iL  ds Q
def gE(K:aH):Sp:=oH K iL
theorem qU:cU iL:=by
 rintro ds Q Q' f ⟨ms,zs,c,z,z4,g,hz,q⟩;exact⟨ms,zs,c,z,z4,g,hz,by intros;apply f;apply q<;>assumption⟩
theorem qV{K:aH}:oU K (gE K) iL:=cu
inductive ou (ds:List PyData)(Q:PyData->Prop):Prop where
 | mk (ms:dH) (zs:List Nat) (k:KI) (jK:ds=[cV ms,.tuple (ui k)]) (jL:Good ms zs) (oJ:Q (.bool (kK zs k))):ou  ds Q
def jS(K:aH):Sp:=oH K ou
theorem Ca:cU ou:=by
 rintro ds Q Q' f ⟨ms,zs,k,z3,g,q⟩;exact⟨ms,zs,k,z3,g,by intros;apply f;apply q<;>assumption⟩
theorem Cb{K:aH}:oU K (jS K) ou:=cu
inductive jT (ds:List PyData)(Q:PyData->Prop):Prop where
 | mk (ms:dH) (zs:List Nat) (ps:List Pt) (j:Nat) (p:Pt) (s:SI) (jK:ds=[uy ms ps,.int (j:Int),iz s]) (jL:Good ms zs) (oJ:ps[j]?=some p) (uA:s.1.length<=1000) (B7:s.2.length<=1000) (JT:Q (.bool (zu zs p.boxes p.height s))):jT  ds Q
def iM(K:aH):Sp:=oH K jT
theorem Au:cU jT:=by
 rintro ds Q Q' f ⟨ms,zs,ps,j,p,s,z6,g,hp,l1,l2,q⟩;exact⟨ms,zs,ps,j,p,s,z6,g,hp,l1,l2,by intros;apply f;apply q<;>assumption⟩
theorem Av{K:aH}:oU K (iM K) jT:=cu
def jU(ar:Addr):HM:=λds Q Ex=>∃(ms:dH) (zs:List Nat) (ps:List Pt) (j:Nat) (p:Pt) (pps:List Pp),ds=[uy ms ps,.int (j:Int),.list (pps.map i8)]/\Good ms zs/\ps[j]?=some p/\(∀x∈pps,x.2.1.length<=1000/\x.2.2.length<=1000)/\(bad zs p.boxes p.height p.rows.length 0 pps=none->Q .none)/\(∀a,bad zs p.boxes p.height p.rows.length 0 pps=some a->Ex ar [("part",.int (j:Int)),("at",.int a),("word",.str "paper")])
def fz(K:aH)(ar:Addr):Sp:=Wo K (jU ar)
theorem wu{ar:Addr}:Aa (jU ar):=by
 rintro ds Q Q' X X' f f2 ⟨ms,zs,ps,j,p,pps,e,h1,h2,h3,q,x⟩;exact⟨ms,zs,ps,j,p,pps,e,h1,h2,h3,λh=>f _ (q h),λa h=>f2 _ _ (x a h)⟩
theorem wx{K:aH}{ar:Addr}:EH K (fz K ar) (jU ar):=HN
inductive yQ (ds:List PyData)(Q:PyData->Prop):Prop where
 | mk (ms:dH) (ps:List Pt) (j:Nat) (p:Pt) (jK:ds=[uy ms ps,.int (j:Int)]) (jL:ps[j]?=some p) (oJ:p.boxes<=8) (uA:p.takes.length<=p.boxes) (B7:Q (iz (B5 p,[]))):yQ  ds Q
def vA(K:aH):Sp:=oH K yQ
theorem IC:cU yQ:=by
 rintro ds Q Q' f ⟨ms,ps,j,p,z4,hp,h8,htb,q⟩;exact⟨ms,ps,j,p,z4,hp,h8,htb,by intros;apply f;apply q<;>assumption⟩
inductive jV (ds:List PyData)(Q:PyData->Prop):Prop where
 | mk (ms:dH) (c:Nat) (jK:ds=[cV ms,.int (c:Int),.int (c:Int)]) (jL:Wf ms) (oJ:c < ms.length) (uA:Q (.bool true)):jV  ds Q
def iN(K:aH):Sp:=oH K jV
theorem lL:cU jV:=by
 rintro ds Q Q' f ⟨ms,c,z2,hw,hc,q⟩;exact⟨ms,c,z2,hw,hc,by intros;apply f;apply q<;>assumption⟩
theorem lM{K:aH}:oU K (iN K) jV:=cu
inductive ow (ds:List PyData)(Q:PyData->Prop):Prop where
 | mk (ms:dH) (zs:List Nat) (k o:KI) (jK:ds=[cV ms,.tuple (ui k),.tuple (ui o)]) (jL:Good ms zs) (oJ:kK zs k=true) (uA:(o=.any∨o=k)) (B7:Q (.bool true)):ow  ds Q
def jW(K:aH):Sp:=oH K ow
theorem vB:cU ow:=by
 rintro ds Q Q' f ⟨ms,zs,k,o,z4,g,hk,ho,q⟩;exact⟨ms,zs,k,o,z4,g,hk,ho,by intros;apply f;apply q<;>assumption⟩
theorem vC{K:aH}:oU K (jW K) ow:=cu
inductive fA (ds:List PyData)(Q:PyData->Prop):Prop where
 | mk (ms:dH) (zs:List Nat) (ks os:List KI) (y:PyData) (jK:ds=[cV ms,.tuple (bw ks),y]) (jL:Good ms zs) (oJ:ks.all (kK zs)=true) (uA:Up ks os) (B7:ks.length<=1000) (JT:(y=.tuple (bw os)∨y=.list (bw os))) (QC:Q (.bool true)):fA  ds Q
def da(K:aH):Sp:=oH K fA
theorem dc:cU fA:=by
 rintro ds Q Q' f ⟨ms,zs,ks,os,y,z5,g,hk,hu,DA,hy,q⟩;exact⟨ms,zs,ks,os,y,z5,g,hk,hu,DA,hy,by intros;apply f;apply q<;>assumption⟩
theorem df{K:aH}:oU K (da K) fA:=cu
inductive jj(K:aH)(vs:List V)(H:Hp)(Q:VK)(ER:XK):Prop where
 | mk (v0 v1:V) (rw:Addr) (sign:Str) (xs:List V) (ks:List PyData) (jK:vs=[v0,v1,.ref rw]) (jL:dG K H rw (.str sign::xs)) (oJ:jw fh sign=some (.tuple ks)) (uA:∀(r:Addr) (ys:List V) (H':Hp),aS H H'->H r=none->H' r=some (.lst ys)->(∀H2,bV K H2 ys ks)->Q (.ref r) H'):jj K vs H Q ER
inductive yR (ds:List PyData)(Q:PyData->Prop):Prop where
 | mk (b j:PyData) (s:Str) (xs ks:List PyData) (jK:ds=[b,j,.tuple (.str s::xs)]) (jL:jw fh s=some (.tuple ks)) (oJ:Q (.list ks)):yR  ds Q
theorem jk:cU yR:=by
 rintro ds Q Q' f ⟨b,j,s,xs,ks,e,h,q⟩;exact⟨b,j,s,xs,ks,e,h,f _ q⟩
theorem jl{K:aH}:oU K (jj K) yR:=by
 rintro vs H Q P ds hP hv ⟨b,j,s,xs,ks,rfl,h,q⟩;obtain⟨v0,v1,v2,rfl⟩:=Wt hv.1;obtain⟨t,ys,rfl,hT,_,hY⟩:=aE.bL (hv.2 2 v2 _ rfl rfl);obtain⟨y,hy,WA⟩:=hY.at (i:=0) (x:=.str s) rfl
 cases ys with
 | nil=>cases hy
 | cons y' ys =>
  cases hy;rw[aE.cz WA]at hT;refine⟨v0,v1,t,s,ys,ks,rfl,hT,h,λr zs H' sm nr gr hR=>q _ H' sm ?_⟩;exact aE.lst (λz=>by obtain⟨o,e,_⟩:=hP r z;rw[nr]at e;cases e) gr ⟨(hR H').1,λi y d h1 h2=>(hR _).2 i y d h1 h2⟩
inductive gM(K:aH)(vs:List V)(H:Hp)(Q:VK)(ER:XK):Prop where
 | mk (rw:Addr) (sign:Str) (xs:List V) (jK:vs=[.ref rw]) (jL:dG K H rw (.str sign::xs)) (oJ:Q (.int (iY sign)) H):gM K vs H Q ER
inductive vD (ds:List PyData)(Q:PyData->Prop):Prop where
 | mk (s:Str) (xs:List PyData) (jK:ds=[.tuple (.str s::xs)]) (jL:Q (.int (iY s))):vD  ds Q
theorem gO:cU vD:=by
 rintro ds Q Q' f ⟨s,xs,e,q⟩;exact⟨s,xs,e,f _ q⟩
theorem gP{K:aH}:oU K (gM K) vD:=by
 rintro vs H Q P ds hP hv ⟨s,xs,rfl,q⟩;obtain⟨v,rfl,r1⟩:=pB hv;obtain⟨t,ys,rfl,hT,_,hY⟩:=aE.bL r1;obtain⟨y,hy,WA⟩:=hY.at (i:=0) (x:=.str s) rfl
 cases ys with
 | nil=>cases hy
 | cons y' ys =>
  cases hy;rw[aE.cz WA]at hT;exact⟨t,s,ys,rfl,hT,q _ H (aS.refl _) (.int _)⟩
inductive vE (ds:List PyData)(Q:PyData->Prop):Prop where
 | mk (ms:dH) (zs:List Nat) (ps:List Pt) (j i:Nat) (p:Pt) (r:Rw) (B:List KI) (jK:ds=[uy ms ps,.int (j:Int),.int (i:Int),iz (B,FF r)]) (jL:Good ms zs) (oJ:ps[j]?=some p) (uA:p.rows[i]?=some r) (B7:Row3 r) (JT:1<=p.height) (QC:Q .none):vE  ds Q
def sv(K:aH):Sp:=oH K vE
theorem ES:cU vE:=by
 rintro ds Q Q' f ⟨ms,zs,ps,j,i,p,r,B,z8,g,hp,hr',h3,hh,q⟩;exact⟨ms,zs,ps,j,i,p,r,B,z8,g,hp,hr',h3,hh,by intros;apply f;apply q<;>assumption⟩
inductive oy (ds:List PyData)(Q:PyData->Prop):Prop where
 | mk (i:Int) (jK:ds=[.list [],.int i]) (jL:Q .none):oy  ds Q
def jX(K:aH):Sp:=oH K oy
theorem pX:cU oy:=by
 rintro ds Q Q' f ⟨i,z1,q⟩;exact⟨i,z1,by intros;apply f;apply q<;>assumption⟩
theorem pY{K:aH}:oU K (jX K) oy:=cu
inductive iO (ds:List PyData)(Q:PyData->Prop):Prop where
 | mk (b bx tk:PyData) (r:Rw) (jK:ds=[b,qI r,bx,tk]) (jL:Row3 r) (oJ:Q (.tuple (bw (EO r)))):iO  ds Q
def gF(K:aH):Sp:=oH K iO
theorem jY:cU iO:=by
 rintro ds Q Q' f ⟨b,bx,tk,r,z4,h3,q⟩;exact⟨b,bx,tk,r,z4,h3,by intros;apply f;apply q<;>assumption⟩
theorem jZ{K:aH}:oU K (gF K) iO:=cu
inductive eU (ds:List PyData)(Q:PyData->Prop):Prop where
 | mk (b j:PyData) (r:Rw) (B:List KI) (jK:ds=[b,j,qI r,iz (B,FF r)]) (jL:Row3 r) (oJ:Q (iz (B,EO r))):eU  ds Q
def dW(K:aH):Sp:=oH K eU
theorem fX:cU eU:=by
 rintro ds Q Q' f ⟨b,j,r,B,z4,h3,q⟩;exact⟨b,j,r,B,z4,h3,by intros;apply f;apply q<;>assumption⟩
theorem fY{K:aH}:oU K (dW K) eU:=cu
inductive Cc (ds:List PyData)(Q:PyData->Prop):Prop where
 | mk (ms:dH) (ps:List Pt) (j i:Nat) (p:Pt) (r:Rw) (B:List KI) (jK:ds=[uy ms ps,.int (j:Int),.int (i:Int),iz (B,FF r)]) (jL:ps[j]?=some p) (oJ:p.rows[i]?=some r) (uA:Row3 r) (B7:p.spans=[]) (JT:Q (.list (B4 r i B))):Cc  ds Q
def yS(K:aH):Sp:=oH K Cc
theorem LY:cU Cc:=by
 rintro ds Q Q' f ⟨ms,ps,j,i,p,r,B,z7,hp,hr',h3,hsp,q⟩;exact⟨ms,ps,j,i,p,r,B,z7,hp,hr',h3,hsp,by intros;apply f;apply q<;>assumption⟩
inductive eV(K:aH)(vs:List V)(H:Hp)(Q:VK)(ER:XK):Prop where
 | mk (v0 vc:V) (j i:Nat) (d:V) (ms:dH) (ps:List Pt) (zs:List Nat) (p:Pt) (r:Rw) (B:List KI) (jK:vs=[v0,.int (j:Int),.int (i:Int),vc,d]) (jL:aX K H v0 (uy ms ps)) (oJ:Good ms zs) (uA:aX K H vc (iz (B,FF r))) (B7:ps[j]?=some p) (JT:p.rows[i]?=some r) (QC:Row3 r) (YH:p.spans=[]) (YI:1<=p.height) (ZQ:(∀(v:V) (H':Hp),aS H H'->(r≠.bare "toss"->aX K H' v (iz (B,EO r)))->Q v H')):eV K vs H Q ER
inductive fZ (ds:List PyData)(Q:PyData->Prop):Prop where
 | mk (ms:dH) (zs:List Nat) (s t:SI) (jK:ds=[cV ms,iz s,iz t]) (jL:Good ms zs) (oJ:s.1.all (kK zs)=true) (uA:s.2.all (kK zs)=true) (B7:Up s.1 t.1) (JT:Up s.2 t.2) (QC:s.1.length<=1000) (YH:s.2.length<=1000) (YI:Q (.bool true)):fZ  ds Q
def fi(K:aH):Sp:=oH K fZ
theorem sy:cU fZ:=by
 rintro ds Q Q' f ⟨ms,zs,s,t,z4,g,h1,h2,u1,u2,l1,l2,q⟩;exact⟨ms,zs,s,t,z4,g,h1,h2,u1,u2,l1,l2,by intros;apply f;apply q<;>assumption⟩
inductive iP(K:aH)(vs:List V)(H:Hp)(Q:VK)(ER:XK):Prop where
 | mk (v0 vc:V) (j i:Int) (d:Addr) (kvs:List (Key×V)) (ms:dH) (ps:List Pt) (zs:List Nat) (C S B:List KI) (jK:vs=[v0,.int j,.int i,vc,.ref d]) (jL:aX K H v0 (uy ms ps)) (oJ:Good ms zs) (uA:H d=some (.dK kvs)) (B7:aX K H vc (iz (C,S))) (JT:C.all (kK zs)=true) (QC:C.length<=1000) (YH:Up C B) (YI:(∀w,rT kvs (Sum.inl i)=some w->S=[]/\aX K H w (iz (B,[])))) (ZQ:∀(w:V) (H':Hp) (C':List KI),aS H H'->(C'=C∨C'=B)->aX K H' w (iz (C',S))->Q w H'):iP K vs H Q ER
def yT(ar:Addr):HM:=λds Q Ex=>∃(ms:dH) (zs:List Nat) (ps:List Pt) (j:Nat) (p:Pt) (pps:List Pp),ds=[uy ms ps,.int (j:Int),.list (pps.map i8)]/\Good ms zs/\ps[j]?=some p/\(∀x∈pps,x.2.1.length<=1000/\x.2.2.length<=1000)/\(bad zs p.boxes p.height p.rows.length 0 pps=none->LV zs p pps/\Q .none)/\(∀a,bad zs p.boxes p.height p.rows.length 0 pps=some a->Ex ar [("part",.int (j:Int)),("at",.int a),("word",.str "paper")])
def qW(K:aH)(ar:Addr):Sp:=Wo K (yT ar)
theorem ID{ar:Addr}:Aa (yT ar):=by
 rintro ds Q Q' X X' f f2 ⟨ms,zs,ps,j,p,pps,e,h1,h2,h3,q,x⟩;exact⟨ms,zs,ps,j,p,pps,e,h1,h2,h3,λh=>⟨(q h).1,f _ (q h).2⟩,λa h=>f2 _ _ (x a h)⟩
theorem IE{K:aH}{ar:Addr}:EH K (qW K ar) (yT ar):=HN
inductive j0 (ds:List PyData)(Q:PyData->Prop):Prop where
 | mk (ms:dH) (zs:List Nat) (ps:List Pt) (j:Nat) (p:Pt) (pps:List Pp) (jK:ds=[uy ms ps,.int (j:Int),.list (pps.map i8)]) (jL:Good ms zs) (oJ:ps[j]?=some p) (uA:(∀x∈pps,x.2.1.length<=1000/\x.2.2.length<=1000)) (B7:(bad zs p.boxes p.height p.rows.length 0 pps=none->LV zs p pps)) (JT:Q (wm j (bad zs p.boxes p.height p.rows.length 0 pps))):j0  ds Q
def iQ(K:aH):Sp:=oH K j0
theorem fG:cU j0:=by
 rintro ds Q Q' f ⟨ms,zs,ps,j,p,pps,z6,g,hp,hl,hF,q⟩;exact⟨ms,zs,ps,j,p,pps,z6,g,hp,hl,hF,by intros;apply f;apply q<;>assumption⟩
theorem fH{K:aH}:oU K (iQ K) j0:=cu
inductive bK(K:aH)(vs:List V)(H:Hp)(Q:VK)(ER:XK):Prop where
 | mk (P:Addr->Prop) (b l4:Addr) (c:Int) (ms:dH) (ps:List Pt) (j:Nat) (p:Pt) (jK:vs=[.ref b,.int (j:Int),.int c]) (jL:(∀c,P c->∃o,H c=some o)) (oJ:Sg K P H b ms ps j p l4) (uA:2<=p.rows.length) (B7:p.rows.length<=100) (JT:(∀r∈p.rows,Sf r)) (QC:∀(rs:List Rw) (H':Hp),(∀c o,c≠l4->H c=some o->H' c=some o)->rs.length=p.rows.length->(∀r∈rs,Sf r)->aE K P H' (.ref b) (uy ms (ps.set j {p with rows:=rs}))->Q (.ref b) H'):bK K vs H Q ER
inductive vF(K:aH)(vs:List V)(H:Hp)(Q:VK)(ER:XK):Prop where
 | mk (a:Addr) (ns:List Int) (jK:vs=[.ref a]) (jL:dC K H a (ns.map V.int)) (oJ:ns.length<=63) (uA:∀H',Q (.bl true) H'):vF K vs H Q ER
section
variable {P:Program} {w:World} {K:aH} {mg:Str->Option Value} {base:Heap}
theorem yU:aI ["self","part","at","word"] ["self","part","at","word"] (dS gL):=by walk_at "sc"
theorem yV{f:Addr}{fd:FuncData}(F:gf K "__init__" "NoPaper.__init__" gL f fd):bB P w K mg base bf 1 f fd ["self","part","at","word"] (GU K ["part","at","word"]) false:=by
 refine F.ok yU (λvs H Q E h=>?_) (λcdv A outer s H vs Q E hr h=>?_)
 ·obtain⟨a,C,ys,rfl,hl,_⟩:=h;exact ab6 (· + 1) hl
 obtain⟨a,C,ys,rfl,hl,hk,hno,e,q⟩:=h;obtain⟨y0,y1,y2,rfl⟩:=Wt hl;refine⟨_,(qK (GS (pv 0) (pv 1) rfl) (qK (GS (pv 0) (pv 2) rfl) (qO (GS (pv 0) (pv 3) rfl)))),?_⟩;refine⟨_,rfl,_,rfl,a,C,rfl,hk,hno _ (ac0 _),.inl ⟨e,λdx hd hda=>?_⟩⟩;refine⟨_,rfl,_,rfl,a,C,rfl,hk,hno _ (ac1 _ (ac0 _)),.inr ⟨dx,_,uS,(uN hda).trans uS,(by show 1 < 900;decide),?_⟩⟩;refine⟨_,rfl,_,rfl,a,C,rfl,hk,hno _ (ac1 _ (ac1 _ (ac0 _))),.inr ⟨dx,_,(uN hda.symm).trans uS,uS,aa0 (sM _ _ _) (by show 2 < 900;decide),?_⟩⟩;have z:=q dx hd hda;show Q .non _;rw[Kb,Pn hda];exact z
theorem i5:aI ["_law_cell_here","_law_k","_law_number"] ["_law_cell_here","_law_k"] (dS kZ):=by walk_at "sc"
theorem wy{f:Addr}{fd:FuncData}(F:gf K "_law_mixed" "_law_mixed" kZ f fd):bB P w K mg base bf 1 f fd ["_law_cell_here","_law_k"] (bE K):=by
 refine F.ok i5 (λvs H Q E h=>?_) (λcdv A outer s H vs Q E hr h=>?_)
 ·obtain⟨PP,ds,hP,hv,c,k,rfl,h0,h1,q⟩:=h;exact hv.1
 obtain⟨PP,ds,hP,hv,c,k,rfl,h0,h1,q⟩:=h;refine aP hP hv ?_;show gZ _ _ _ _ [some _,some _,none] [];clear hP hv;have m0:=aa5 c (show(1000000000039:Int)≠0 by decide);have m1:=aaW c (show(0:Int) < 1000000000039 by decide);refine ah (az (i:=2) i5.nd rfl (aad rfl) (aU (pj (aL (aL (aU (ae 0) aq) (pj aq (ae 1))) aq) aq) aq)) (λR kk=>?_);walk_at "vc";have a0:=aa5 ((c % 1000000000039 + 7919 * k + 12) * 48271) (show(1000000000061:Int)≠0 by decide);have a1:=aaW ((c % 1000000000039 + 7919 * k + 12) * 48271) (show(0:Int) < 1000000000061 by decide);refine⟨by decide,.inl (.inl ⟨by decide,by decide⟩),.inl (.inr ⟨by decide,by decide⟩),by decide,kk _ _ ?_⟩;clear kk R;generalize (c % 1000000000039 + 7919 * k + 12) * 48271 % 1000000000061=n1 at a0 a1;have b0:=aa5 n1 (show(999983:Int)≠0 by decide);have b1:=aaW n1 (show(0:Int) < 999983 by decide);refine ah (az (i:=2) i5.nd rfl (aad rfl) (aU (pj (aL (aL (aU (cA (ae 2) aq) aq) (pj aq (ae 1))) aq) (aL (aU (ae 2) aq) aq)) aq)) (λR kk=>?_);walk_at "vc";have c0:=aa5 ((n1 / 3 % 1000003 + 31 * k + 1) * (n1 % 999983 + 7)) (show(999999999989:Int)≠0 by decide);have c1:=aaW ((n1 / 3 % 1000003 + 31 * k + 1) * (n1 % 999983 + 7)) (show(0:Int) < 999999999989 by decide);refine⟨⟨by decide,by decide⟩,by decide,.inl (.inl ⟨by decide,by decide⟩),by decide,.inl (.inr ⟨by omega,by omega⟩),by decide,kk _ _ ?_⟩;clear kk R;generalize (n1 / 3 % 1000003 + 31 * k + 1) * (n1 % 999983 + 7) % 999999999989=n2 at c0 c1;have d0:=aa5 n2 (show(1009:Int)≠0 by decide);have d1:=aaW n2 (show(0:Int) < 1009 by decide);have e0:=aa5 (n2 / 5 * (n2 % 1009 + 48271)) (show(1000000000039:Int)≠0 by decide);have e1:=aaW (n2 / 5 * (n2 % 1009 + 48271)) (show(0:Int) < 1000000000039 by decide);refine aK (ax (cA (aU (pj (cA (ae 2) aq) (aL (aU (ae 2) aq) aq)) aq) aq)) ?_;walk_at "vc";exact⟨⟨by decide,by decide⟩,by decide,.inl (.inr ⟨by omega,by omega⟩),by decide,⟨by decide,by decide⟩,q _ (by omega) (by omega)⟩
theorem yW:aI ["_law_script","_law_k"] ["_law_script","_law_k"] (dS pE):=by walk_at "sc"
theorem yX{f:Addr}{fd:FuncData}(F:gf K "_law_cell" "_law_cell" pE f fd)(aO:mg "len"=none)(Aw:mg "sum"=none)(aD:bM P w K mg base bf "_law_mixed" 1 ["_law_cell_here","_law_k"] (bE K)):bB P w K mg base bf 2 f fd ["_law_script","_law_k"] (eD K):=by
 refine F.ok yW (λvs H Q E h=>?_) (λcdv A outer s H vs Q E hr h=>?_)
 ·obtain⟨PP,ds,hP,hv,ns,k,rfl,h1,q⟩:=h;exact hv.1
 obtain⟨PP,ds,hP,hv,ns,k,rfl,h1,q⟩:=h;refine aP hP hv ?_;show gZ _ _ _ _ [some _,some _] [];clear hP hv;refine ah (aG (oS (ae 1) (aT rfl aO (aa (ae 0) af))) (au (ax (bj (ae 0) (ae 1) (λ_ _=>rfl)))) ay) (λR kk=>?_);walk_at "vc";rw[aaa];refine bO (λh=>⟨_,bg (f:=PyData.int) (cW (show k < ns.length by omega)),q _⟩) (λh=>kk _ _ ?_);clear kk R;refine aK (ax (aw aD aR aM (hr.mono (by decide)) rfl (aa (PY rfl rfl Aw (aa (eB (ae 0) bN (bD aq)) af)) (aa (aL aq (ae 1)) af)))) ?_;walk_at "vc";rw[show(4:Int)=((4:Nat):Int)from rfl,DK];exact⟨_,rfl,_,_,rfl,by omega,by omega,λv _ _=>q v⟩
theorem j1:aI ["_law_number","_law_sizes_here","_law_c","_law_way"] ["_law_number","_law_sizes_here"] (dS pF):=by walk_at "sc"
theorem yY{f:Addr}{fd:FuncData}(F:gf K "_law_kind" "_law_kind" pF f fd)(aO:mg "len"=none):bB P w K mg base bf 1 f fd ["_law_number","_law_sizes_here"] (fF K):=by
 refine F.ok j1 (λvs H Q E h=>?_) (λcdv A outer s H vs Q E hr h=>?_)
 ·obtain⟨PP,ds,hP,hv,zs,n,rfl,hz,R7,h6,q⟩:=h;exact hv.1
 obtain⟨PP,ds,hP,hv,zs,n,rfl,hz,R7,h6,q⟩:=h;refine aP hP hv ?_;show gZ _ _ _ _ [some _,some _,none,none] [];clear hP hv;refine ah (az (i:=2) j1.nd rfl (Or.inl rfl) (aU (cA (ae 0) aq) (aT rfl aO (aa (ae 1) af)))) (λR kk=>?_);walk_at "vc";rw[oj];obtain⟨c,ec,hc⟩:=e9 (n / 8) (n:=zs.length) rfl hz;rw[ec];refine⟨⟨by decide,by decide⟩,by omega,kk _ _ ?_⟩;clear kk R;refine ah (az (i:=3) j1.nd rfl (Or.inl rfl) (aU (ae 0) aq)) (λR kk=>?_);walk_at "vc";refine⟨by decide,kk _ _ ?_⟩;clear kk R;refine ah (aG (oS (ae 3) aq) (au (ax (av (aa aA af)))) ay) (λR kk=>?_);walk_at "vc";refine bO (λ_=>q .num trivial) (λ_=>kk _ _ ?_);clear kk R;refine ah (aG (oS (ae 3) aq) (au (ax (av (aa aA (aa (ae 2) af))))) ay) (λR kk=>?_);walk_at "vc";refine bO (λ_=>q (.whole c) hc) (λ_=>kk _ _ ?_);clear kk R;refine ah (aG (oS (ae 3) aq) (au (ax (av (aa aA (aa (ae 2) (aa (aU (cA (ae 0) aq) (uZ aq (bj (ae 1) (ae 2) (λ_ _=>rfl)))) af)))))) ay) (λR kk=>?_);walk_at "vc";have hzc:zs[c]?=some zs[c]:=cW hc;have h6c:=h6 _ (List.getElem_mem hc);generalize zs[c]=z at hzc h6c;have p2:(1:Int) * 2 ^ ((z:Int)).toNat=((2 ^ z:Nat):Int):=by rw[Int.toNat_natCast];simp
 have pz:0 < 2 ^ z:=Nat.pow_pos (by decide);obtain⟨b,eb,hb⟩:=e9 (n / 64) p2 pz;refine bO (λ_=>⟨⟨by decide,by decide⟩,_,om hzc,⟨by omega,by omega,by decide⟩,by rw[p2];omega,?_⟩) (λ_=>kk _ _ ?_)
 ·rw[eb];exact q (.raw c b) ⟨z,hzc,hb⟩
 clear kk R;refine aK (ax (av (aa aA af))) ?_;walk_at "vc";exact q .any trivial
theorem bQ:aI ["_law_cell_here","_law_many","_law_elders","_law_sizes_here","_law_k","_law_makes_here","_law_own"] ["_law_cell_here"] (dS lb):=by walk_at "sc"
theorem wz{f:Addr}{fd:FuncData}(F:gf K "_law_makes" "_law_makes" lb f fd)(Ax:mg "min"=none)(cc:mg "range"=none)(iR:bM P w K mg base bf "_law_kind" 1 ["_law_number","_law_sizes_here"] (fF K))(aD:bM P w K mg base bf "_law_mixed" 1 ["_law_cell_here","_law_k"] (bE K)):bB P w K mg base bf 2 f fd ["_law_cell_here"] (gw K):=by
 refine F.ok bQ (λvs H Q E h=>?_) (λcdv A outer s H vs Q E hr h=>?_)
 ·obtain⟨PP,ds,hP,hv,c,rfl,q⟩:=h;exact hv.1
 obtain⟨PP,ds,hP,hv,c,rfl,q⟩:=h;refine aP hP hv ?_;show gZ _ _ _ _ [some _,none,none,none,none,none,none] [];clear hP hv;obtain⟨w,ew,hw⟩:=e9 c (m:=8) (n:=8) rfl (by decide);refine ah (az (i:=1) bQ.nd rfl (aad rfl) (aL aq (aU (ae 0) aq))) (λR kk=>?_);walk_at "vc";rw[ew];refine⟨by decide,kk _ _ ?_⟩;clear kk R;refine ah (az (i:=2) bQ.nd rfl (aad rfl) (iu (aa bS af))) (λR kk=>?_);walk_at "vc";refine kk _ _ ?_;clear kk R;refine ah (az (i:=3) bQ.nd rfl (abY rfl) (iu (aa aq af))) (λR kk=>?_);walk_at "vc";refine kk _ _ ?_;clear kk R;refine ah (jE aa7 rfl (xm rfl cc (aa aq (aa (ae 1) af))) (bZ (i:=4) bQ.nd rfl (abY rfl)) (cI (bT (bq (ae 2) (aa (aU (aw aD aR aM (hr.mono (by decide)) rfl (aa (ae 0) (aa (ae 4) af))) (ae 4)) af)))
   (au (bT (bq (ae 3) (aa (PQ rfl rfl Ax (aa aq (aa (aL (bj (ae 3) (bj (ae 2) (ae 4) (λ_ _=>rfl)) (λ_ _=>rfl)) (aU (aw aD aR aM (hr.mono (by decide)) rfl (aa (ae 0) (aa (aL aq (ae 4)) af))) aq)) af))) af)))))) (λR kk=>?_)
 walk_at "vc";refine⟨⟨by decide,by decide,by omega,by omega⟩,?_⟩;refine gu (λi env st=>∃(sh:List (Option Nat×Nat)) (zs:List Nat) (o4:Option DV),env=[some (.dat (.int c)),some (.dat (.int (1 + (w:Int)))),some (.ref 0),some (.ref 1),o4,none,none]/\st=[.live (sh.map λs=>Af s.1),.live (dw zs)]/\Ag sh zs/\sh.length=i + 1) ⟨[(none,0)],[0],_,rfl,rfl,Ag.one,rfl⟩ (λ_ _ _ _=>trivial) ?_ ?_
 ·rintro i env st d hd ⟨sh,zs,o4,rfl,rfl,hO,hl⟩;obtain⟨hi,rfl⟩:=jD hd;have hi:i < w:=by omega
  have hz:=hO.len;refine iw (λR1 k1=>?_);walk_at "vs";refine⟨rfl,_,_,rfl,by omega,by omega,λv0 _ _=>?_⟩;walk_at "vs";obtain⟨e,ee,he⟩:=e9 v0 (m:=1 + (i:Int)) (n:=i + 1) (by omega) (by omega);rw[ee];refine⟨by omega,by rw[aaa];omega,k1 _ _ ?_⟩;clear k1 R1;walk_at "vs"
  have eat:sP (sh.map (λs=>Af s.1)++[PyData.int (e:Int)]) (1 + (i:Int))=some (.int (e:Int)):=by
   rw[show(1:Int) + (i:Int)=((i + 1:Nat):Int)by omega];refine yv ?_;rw[aam (by rw[aaa];omega),aaa,hl,aa3];rfl
  have hez:e < zs.length:=by omega
  have hze:zs[e]?=some zs[e]:=cW hez;have h6:=hO.six _ (ab8 hez);generalize zs[e]=z at hze h6;refine⟨rfl,_,eat,?_⟩;walk_at "vs";refine⟨_,om hze,_,_,rfl,by omega,by omega,λv1 _ _=>?_⟩;walk_at "vs";obtain⟨m,em,hm⟩:=e9 v1 (m:=4) (n:=4) rfl (by decide);rw[em];refine⟨by decide,by rw[oj];omega,?_⟩
  obtain⟨n,ZR,e6⟩:∃n:Nat,z + n<=6/\(if (z:Int) + (m:Int) < 6 then(z:Int) + (m:Int)else 6)=((z + n:Nat):Int):=by
   by_cases h:(z:Int) + (m:Int) < 6
   ·exact⟨m,by omega,by rw[aaD h];omega⟩
   ·exact⟨6 - z,by omega,by rw[aaF h];omega⟩
  rw[e6,xv];refine⟨sh++[(some e,n)],_,_,rfl,?_,hO.snoc (by omega) hze ZR,by simp[hl]⟩;rw[List.map_append];rfl
 rintro env st ⟨sh,zs,o4,rfl,rfl,hO,hl⟩;rw[c9]at hl;have h8:sh.length<=8:=by omega
 have hzl:=hO.len;refine kk _ _ ?_;clear kk R;refine ah (az (i:=5) bQ.nd rfl (aad rfl) (iu (aa (av (aa bS (aa (dD af) af))) af))) (λR kk=>?_);walk_at "vc";refine kk _ _ ?_;clear kk R;refine ah (jE aa7 rfl (xm rfl cc (aa aq (aa (ae 1) af))) (bZ (i:=4) bQ.nd rfl (abY rfl)) (cI (az (i:=6) bQ.nd rfl (aad rfl) (cq (bj (ae 3) (ae 4) (λ_ _=>rfl)) (bj (ae 3) (bj (ae 2) (ae 4) (λ_ _=>rfl)) (λ_ _=>rfl))))
   (au (bT (bq (ae 5) (aa (av (aa (bj (ae 2) (ae 4) (λ_ _=>rfl)) (aa (Qo Qm 1 ["_law_j","_law_sizes_here","_law_cell_here","_law_k"] [3,0,4] ⟨rfl,rfl,rfl,rfl,rfl,rfl,rfl,rfl⟩ (Qk (je rfl cc (aa (ae 6) af))) (λ_ _ _ _=>(bY (i:=0) (show List.Nodup (["_law_j","_law_sizes_here","_law_cell_here","_law_k"]:List Str)by decide +kernel) rfl (aad rfl))) (qF (i:=0)) (vn (by decide)) (λ_ _ _ _=>⟨kY,(aw iR lI lH (hr.mono (by decide)) rfl (aa (aw aD aR aM (hr.mono (by decide)) rfl (aa (ae 2) (aa (aL (aL aq (pj aq (ae 3))) (ae 0)) af))) (aa (ae 1) af)))⟩)) af))) af)))))) (λR kk=>?_)
 walk_at "vc";refine⟨⟨by decide,by decide,by omega,by omega⟩,?_⟩;refine gu (λi env st=>∃(ms:dH) (o4 o6:Option DV) (ce:Ce),env=[some (.dat (.int c)),some (.dat (.int (1 + (w:Int)))),some (.ref 0),some (.ref 1),o4,some (.ref 2),o6]/\st=[.live (sh.map λs=>Af s.1),ce,.live (ms.map BZ)]/\(ce=.live (dw zs)∨ce=.froz (dw zs))/\ms.length=i + 1/\∀(i:Nat) m,ms[i]?=some m->∃s,sh[i]?=some s/\m.1=s.1/\m.2.length=s.2/\∀k∈m.2,lA zs k) ⟨[(none,[])],_,_,_,rfl,rfl,.inl rfl,rfl,λi m hm=>?_⟩ (λ_ _ _ _=>trivial) ?_ ?_
 ·match i,hm with
  | 0,hm=>cases hm;exact⟨_,hO.s0,rfl,rfl,λk hk=>nomatch hk⟩
  | n + 1,hm=>cases hm
 ·rintro i env st d hd ⟨ms,o4,o6,ce,rfl,rfl,hce,hml,get⟩;obtain⟨hi,rfl⟩:=jD hd;have hi:i < w:=by omega
  obtain⟨s,hs⟩:∃s,sh[i + 1]?=some s:=⟨_,cW (by omega)⟩;obtain⟨j,z,f1,f2,f3,f4⟩:=hO.go (i + 1) s (by omega) hs;have s6:=hO.six _ (aan f4);have a1:(1:Int) + (i:Int)=((i + 1:Nat):Int):=by omega
  have a2:sP (sh.map λs=>Af s.1) (1 + (i:Int))=some (.int (j:Int)):=by
   rw[a1,bg (f:=λs:Option Nat×Nat=>Af s.1) hs,f1];rfl
  have a3:sP (dw zs) (1 + (i:Int))=some (.int ((z + s.2:Nat):Int)):=by rw[a1];exact om f4
  rcases hce with rfl | rfl
  all_goals
   refine iw (λR1 k1=>?_);walk_at "vs";refine⟨_,a3,_,a2,?_⟩;walk_at "vs";refine⟨_,om f3,?_⟩;walk_at "vs";rw[show((z + s.2:Nat):Int) - (z:Int)=((s.2:Nat):Int)by omega];refine k1 _ _ ?_;clear k1 R1;walk_at "vs";refine⟨rfl,_,a2,⟨by omega,by omega⟩,by rw[aaa,c9];omega,λt ys st=>∃(ks:List Kd) (ce:Ce),ys=(fE ks).map DV.dat/\ks.length=t/\(∀k∈ks,lA zs k)/\st=[.live (sh.map λs=>Af s.1),ce,.live (ms.map BZ)]/\(ce=.live (dw zs)∨ce=.froz (dw zs)),⟨[],_,rfl,rfl,(λk hk=>nomatch hk),rfl,by first | exact .inl rfl | exact .inr rfl⟩,(λ_ _ _ _=>trivial),?_,?_⟩
   ·rintro t ys st d ⟨ks,ce,rfl,lk,hk,rfl,hce⟩ hd;obtain⟨dd,hdd,rfl⟩:=dZ hd;obtain⟨ht,rfl⟩:=jD hdd;rw[Int.toNat_natCast]at ht;have kapp:∀k:Kd,List.map DV.dat (fE ks)++[DV.dat (.tuple (DF k))]=(fE (ks++[k])).map DV.dat:=λk=>by unfold fE;rw[List.map_append,List.map_append];rfl
    have kall:∀k:Kd,lA zs k->∀k'∈ks++[k],lA zs k':=λk h k' hk'=>by
     rcases aaN.mp hk' with y | y
     ·exact hk k' y
     ·rw[ik y];exact h
    rcases hce with rfl | rfl
    ·refine cT ?_;walk_at "vs";refine⟨.inl (.inl ⟨by decide,by decide⟩),_,_,rfl,by omega,by omega,λv _ _=>?_⟩;walk_at "vs";exact⟨zs,v,rfl,by omega,by omega,hO.six,λk h=>⟨ks++[k],_,kapp k,by simp[lk],kall k h,rfl,.inr rfl⟩⟩
    ·refine cT ?_;walk_at "vs";refine⟨.inl (.inl ⟨by decide,by decide⟩),_,_,rfl,by omega,by omega,λv _ _=>?_⟩;walk_at "vs";exact⟨zs,v,rfl,by omega,by omega,hO.six,λk h=>⟨ks++[k],_,kapp k,by simp[lk],kall k h,rfl,.inr rfl⟩⟩
   ·rintro ys st ⟨ks,ce,rfl,lk,hk,rfl,hce⟩;rw[List.length_map,c9,Int.toNat_natCast]at lk;refine⟨fE ks,rfl,?_⟩;walk_at "vs";refine⟨by rw[List.length_map];omega,ms++[(some j,ks)],_,_,ce,rfl,?_,hce,by simp[hml],λi' m hm=>?_⟩
    ·rw[abB];rfl
    ·by_cases hi':i' < ms.length
     ·rw[aae hi']at hm;exact get i' m hm
     ·have e':i'=ms.length:=by
       have:=(bz hm).1;simp at this;omega
      subst e';rw[aam (aaj _),aa3]at hm;cases hm;rw[hml];exact⟨s,hs,f1.symm,lk,hk⟩
 rintro env st ⟨ms,o4,o6,ce,rfl,rfl,hce,hml,get⟩;rw[c9]at hml;refine kk _ _ ?_;clear kk R;refine aK (ax (ae 5)) ?_;walk_at "vc";exact q ms zs (Good.Wx hO h8 (by omega) get)
theorem eW:aI ["_law_makes_here","_law_c","_law_found"] ["_law_makes_here","_law_c"] (dS jF):=by walk_at "sc"
theorem vG{f:Addr}{fd:FuncData}(F:gf K "_law_fields" "_law_fields" jF f fd):bB P w K mg base bf 1 f fd ["_law_makes_here","_law_c"] (cK K):=by
 refine F.ok eW (λvs H Q E h=>?_) (λcdv A outer s H vs Q E hr h=>?_)
 ·obtain⟨PP,ds,hP,hv,ms,zs,c,z,rfl,g,hz,q⟩:=h;exact hv.1
 obtain⟨PP,ds,hP,hv,ms,zs,c,z,rfl,g,hz,q⟩:=h;refine aP hP hv ?_;show gZ _ _ _ _ [some _,some _,none] [];clear hP hv;have gl:=g.len;refine ah (az (i:=2) eW.nd rfl (aad rfl) (dD af)) (λR kk=>?_);walk_at "vc";refine kk _ _ ?_;clear kk R;refine ah (zX aa7 (jB (ae 1) bS) (cI (az (i:=2) eW.nd rfl (aad rfl) (aL (aj (n:=1) (bj (ae 0) (ae 1) (λ_ _=>rfl))) (ae 2)))
   (au (az (i:=1) eW.nd rfl (aad rfl) (aj (n:=0) (bj (ae 0) (ae 1) (λ_ _=>rfl))))))) (λR kk=>?_)
 refine Ds (λm env st=>∃(cur:Option Nat) (xs:List PyData) (y:Nat),env=[some (.dat (cV ms)),some (.dat (Af cur)),some (.dat (.list xs))]/\st=[]/\(cur=none->y=0)/\(∀j,cur=some j->zs[j]?=some y)/\xs.length + y=z/\m=(match cur with | some j=>j + 1 | none=>0)) ⟨_,some c,[],z,rfl,rfl,(λh=>nomatch h),λj hj=>by cases hj;exact hz,by simp,rfl⟩ ?_;rintro m env st ⟨cur,xs,y,rfl,rfl,hn,hy,hl,rfl⟩;have z6:=g.six z (List.mem_of_getElem? hz)
 cases cur with
 | none =>
  rw[show Af none=.none from rfl];walk_at "vs";refine dI (kk _ _ ?_);clear kk R;refine aK (ax (ae 2)) ?_;walk_at "vc";exact q xs (by have:=hn rfl;omega)
 | some j =>
  have hj:=hy j rfl;have hjl:j < ms.length:=by rw[gl];exact(bz hj).1
  have hm:=cW hjl
  have ey:∃y':Nat,y=y' + ms[j].2.length/\(ms[j].1=none->y'=0)/\(∀i,ms[j].1=some i->i < j/\zs[i]?=some y'):=by
   rcases abA j with rfl | h0
   ·have e1:=g.LO _ hm;have e2:=g.wf.first _ hm;rw[g.z0]at hj;cases hj;exact⟨0,by rw[e1];rfl,(λ_=>rfl),λi hi=>by rw[e2]at hi;cases hi⟩
   ·obtain⟨i,z',e1,e2,e3,e4⟩:=g.go j _ h0 hm;rw[hj]at e4;cases e4;exact⟨z',rfl,(λh=>by rw[e1]at h;cases h),λi' hi=>by rw[e1]at hi;cases hi;exact⟨e2,e3⟩⟩
  obtain⟨y',ey,e0,e1⟩:=ey;rw[show Af (some j)=.int (j:Int)from rfl,dU];walk_at "vc";refine cT ⟨_,bg (f:=BZ) hm,?_⟩;rw[show BZ ms[j]=.tuple [Af ms[j].1,.list (fE ms[j].2)]from rfl];walk_at "vc";refine⟨by rw[aaa];omega,_,bg (f:=BZ) hm,?_⟩;rw[show BZ ms[j]=.tuple [Af ms[j].1,.list (fE ms[j].2)]from rfl];walk_at "vc";refine⟨_,?_,ms[j].1,_,y',rfl,rfl,e0,λi hi=>(e1 i hi).2,by rw[abd,aaa];omega,rfl⟩
  cases e:ms[j].1 with
  | none=>exact abQ _
  | some i=>have:=(e1 i e).1;show i + 1 < j + 1;omega
theorem wA:aI ["_law_makes_here"] ["_law_makes_here"] (dS lg):=by walk_at "sc"
theorem wB{f:Addr}{fd:FuncData}(F:gf K "_law_sizes" "_law_sizes" lg f fd)(aO:mg "len"=none)(cc:mg "range"=none)(dN:bM P w K mg base bf "_law_fields" 1 ["_law_makes_here","_law_c"] (cK K)):bB P w K mg base bf 2 f fd ["_law_makes_here"] (gy K):=by
 refine F.ok wA (λvs H Q E h=>?_) (λcdv A outer s H vs Q E hr h=>?_)
 ·obtain⟨PP,ds,hP,hv,ms,zs,rfl,g,q⟩:=h;exact hv.1
 obtain⟨PP,ds,hP,hv,ms,zs,rfl,g,q⟩:=h;refine aP hP hv ?_;show gZ _ _ _ _ [some _] [];clear hP hv;have gl:=g.len;have g8:=g.wf.few;refine aK (ax (zW 1 ["_law_c","_law_makes_here"] [0] ⟨rfl,rfl,rfl,rfl,rfl,rfl,rfl,rfl⟩ (je rfl cc (aa (aT rfl aO (aa (ae 0) af)) af)) (λ_ _ _ _=>(bY (i:=0) (show List.Nodup (["_law_c","_law_makes_here"]:List Str)by decide +kernel) rfl (aad rfl))) (qF (i:=0)) (vn (by decide)) (λ_ _ _ _=>⟨kY,(aT rfl aO (aa (aw dN i3 iZ (hr.mono (by decide)) rfl (aa (ae 1) (aa (ae 0) af))) af))⟩))) ?_;rw[dU];walk_at "vc";rw[aaa];refine⟨⟨by omega,by omega⟩,?_⟩;refine N1 (List.range ms.length) (λk=>.int (0 + (k:Int))) (λk=>.int ((zs[k]?).getD 0:Nat)) (Ik _) (by rw[List.length_range];omega) (λi k hk P N hP=>?_) ?_
 ·have hk:=acU.mp (aan hk);have hz:zs[k]?=some (zs[k]'(by omega)):=cW (by omega);rw[hz]at hP;rw[show(0:Int) + (k:Int)=(k:Int)by omega];refine⟨rfl,rfl,cT ⟨ms,zs,k,_,by rw[dU],g,hz,λxs hx=>?_⟩⟩;walk_at "vc";rw[hx];exact⟨rfl,hP⟩
 ·have e:(List.range ms.length).map (λk=>PyData.int ((zs[k]?).getD 0:Nat))=dw zs:=by
   unfold dw;apply List.ext_getElem?;intro i;rw[List.getElem?_map,List.getElem?_map];by_cases h:i < zs.length
   ·rw[List.getElem?_range (by omega),cW h];show some (PyData.int ((zs[i]?).getD 0:Nat))=some (PyData.int (zs[i]:Nat));rw[cW h];rfl
   ·rw[List.getElem?_eq_none (by simp;omega),List.getElem?_eq_none (by omega)];rfl
  rw[e];exact q
theorem dr:aI ["_law_makes_here","_law_cell_here","_law_sizes_here","_law_takes","_law_gives","_law_boxes"] ["_law_makes_here","_law_cell_here"] (dS pG):=by walk_at "sc"
theorem yZ{f:Addr}{fd:FuncData}(F:gf K "_law_part" "_law_part" pG f fd)(aO:mg "len"=none)(cc:mg "range"=none)(iR:bM P w K mg base bf "_law_kind" 1 ["_law_number","_law_sizes_here"] (fF K))(aD:bM P w K mg base bf "_law_mixed" 1 ["_law_cell_here","_law_k"] (bE K))(y4:bM P w K mg base bf "_law_sizes" 2 ["_law_makes_here"] (gy K)):bB P w K mg base bf 3 f fd ["_law_makes_here","_law_cell_here"] (iE K):=by
 refine F.ok dr (λvs H Q E h=>?_) (λcdv A outer s H vs Q E hr h=>?_)
 ·obtain⟨PP,ds,hP,hv,ms,zs,c,rfl,g,q⟩:=h;exact hv.1
 obtain⟨PP,ds,hP,hv,ms,zs,c,rfl,g,q⟩:=h;refine aP hP hv ?_;show gZ _ _ _ _ [some _,some _,none,none,none,none] [];clear hP hv;have gl:=g.len;have g8:=g.wf.few;have gn:=g.wf.ne;refine ah (az (i:=2) dr.nd rfl (abY rfl) (aw y4 yN yM (hr.mono (by decide)) rfl (aa (ae 0) af))) (λR kk=>?_);walk_at "vc";refine⟨ms,zs,rfl,g,kk _ _ ?_⟩;clear kk R;refine ah (xo NT (i:=3) dr.nd rfl (aad rfl) 1 ["_law_k","_law_sizes_here","_law_cell_here"] [2,1] ⟨rfl,rfl,rfl,rfl,rfl,rfl,rfl,rfl⟩ (je rfl cc (aa (aU (aw aD aR aM (hr.mono (by decide)) rfl (aa (ae 1) (aa aq af))) aq) af)) (λ_ _ _ _=>(bY (i:=0) (show List.Nodup (["_law_k","_law_sizes_here","_law_cell_here"]:List Str)by decide +kernel) rfl (aad rfl))) (qF (i:=0)) (vn (by decide)) (λ_ _ _ _=>⟨kY,(aw iR lI lH (hr.mono (by decide)) rfl (aa (aw aD aR aM (hr.mono (by decide)) rfl (aa (ae 2) (aa (ae 0) af))) (aa (ae 1) af)))⟩)) (λR kk=>?_);walk_at "vc";refine⟨_,_,rfl,by decide,by decide,λv0 v00 v01=>?_⟩;walk_at "vc";obtain⟨n,en,hn⟩:=e9 v0 (m:=5) (n:=5) rfl (by decide);rw[en];refine⟨by decide,⟨by omega,by omega⟩,?_⟩;refine N0 (lA zs) (λk=>.tuple (DF k)) (by rw[c9];omega) ?_ ?_
 ·intro i d hd W N hW;obtain⟨hi,rfl⟩:=jD hd;walk_at "vc";rw[aaD rfl];walk_at "vc";refine⟨rfl,rfl,_,_,rfl,by omega,by omega,λv _ _=>?_⟩;walk_at "vc";exact⟨zs,v,rfl,by omega,by omega,g.six,λk hk=>⟨rfl,hW k hk⟩⟩
 intro ks lk hks;rw[c9]at lk;walk_at "vc";refine kk _ _ ?_;clear kk R;refine ah (az (i:=4) dr.nd rfl (aad rfl) (aw iR lI lH (hr.mono (by decide)) rfl (aa (aw aD aR aM (hr.mono (by decide)) rfl (aa (ae 1) (aa aq af))) (aa (ae 2) af)))) (λR kk=>?_);walk_at "vc";refine⟨_,_,rfl,by decide,by decide,λv _ _=>?_⟩;walk_at "vc";refine⟨zs,v,rfl,by omega,by omega,g.six,λgv hgv=>kk _ _ ?_⟩;clear kk R;refine ah (aG (vb (aU (aw aD aR aM (hr.mono (by decide)) rfl (aa (ae 1) (aa aq af))) aq) aq) (au (az (i:=4) dr.nd rfl (aad rfl) (av (aa aA af)))) ay) (λR kk=>?_);walk_at "vc";refine⟨_,_,rfl,by decide,by decide,λv1 _ _=>?_⟩;walk_at "vc"
 have fin:∀gv:Kd,lA zs gv->R [some (.dat (cV ms)),some (.dat (.int c)),some (.dat (.list (dw zs))),some (.dat (.list (fE ks))),some (.dat (.tuple (DF gv))),none] []:=by
  intro gv hgv;refine kk _ _ ?_;clear kk R;refine ah (az (i:=5) dr.nd rfl (aad rfl) (aL (aT rfl aO (aa (ae 3) af)) (aU (aw aD aR aM (hr.mono (by decide)) rfl (aa (ae 1) (aa aq af))) aq))) (λR kk=>?_);walk_at "vc";refine⟨_,_,rfl,by decide,by decide,λv2 _ _=>?_⟩;walk_at "vc";obtain⟨m,em,hm⟩:=e9 v2 (m:=5) (n:=5) rfl (by decide);rw[em,aaa];refine⟨by decide,kk _ _ ?_⟩;clear kk R;refine aK (ax (av (aa (ae 3) (aa (ae 4) (aa (ae 5) (aa (aL aq (aU (aw aD aR aM (hr.mono (by decide)) rfl (aa (ae 1) (aa aq af))) aq)) (aa (dD (aa (av (aa aA (aa aq af))) (aa (av (aa aA af)) af))) (aa (dD af) af)))))))) ?_;walk_at "vc";refine⟨_,_,rfl,by decide,by decide,λv3 _ _=>?_⟩;walk_at "vc";obtain⟨x,ex,hx⟩:=e9 v3 (m:=8) (n:=8) rfl (by decide);rw[ex];refine⟨by decide,?_⟩;have z:=q ⟨ks,gv,ks.length + m,1 + x,[.push 0,.bare "toss"],[]⟩ ⟨hks,by show ks.length<=4;omega,hgv,by show ks.length<=ks.length + m;omega,by show ks.length + m<=8;omega,by show 1<=1 + x;omega,by show 1 + x<=8;omega,by show 2<=100;decide,λr hr=>?_,rfl⟩ rfl
  ·exact z
  ·rcases aay.mp hr with rfl | hr
   ·exact⟨by decide,by decide⟩
   ·rw[ik hr];exact .inr (.inl rfl)
 refine⟨by decide,?_⟩;split
 ·exact fin .num trivial
 ·exact fin gv hgv
theorem y6:aI ["_law_number"] ["_law_number"] (dS pH):=by walk_at "sc"
theorem y8{f:Addr}{fd:FuncData}(F:gf K "_law_word" "_law_word" pH f fd)(oW:mg "int"=none):bB P w K mg base bf 1 f fd ["_law_number"] (iF K):=by
 refine F.ok y6 (λvs H Q E h=>?_) (λcdv A outer s H vs Q E hr h=>?_)
 ·obtain⟨PP,ds,hP,hv,n,rfl,q⟩:=h;exact hv.1
 obtain⟨PP,ds,hP,hv,n,rfl,q⟩:=h;refine aP hP hv ?_;show gZ _ _ _ _ [some _] [];clear hP hv;refine aK (ax (bj (dD (aa (cq (aU (cA (ae 0) aq) aq) aq) (aa (cq (aU (cA (ae 0) aq) aq) aq) af))) (vg rfl oW (aa (NK (aU (ae 0) aq) aq) af)) (λ_ _=>rfl))) ?_;walk_at "vc";have a0:=aa5 (n / 3) (show(9:Int)≠0 by decide);have a1:=aaW (n / 3) (show(0:Int) < 9 by decide);have b0:=aa5 (n / 3) (show(4294967296:Int)≠0 by decide);have b1:=aaW (n / 3) (show(0:Int) < 4294967296 by decide);refine⟨⟨by decide,by decide⟩,by decide,⟨by decide,by decide⟩,by decide,by decide,?_⟩;split
 ·exact⟨_,rfl,q _ (by omega) (by omega)⟩
 ·exact⟨_,rfl,q _ (by omega) (by omega)⟩
theorem cf:aI ["_law_script","_law_makes_here","_law_cell_here","_law_parts","_law_number","_law_part_here","_law_word_here","_law_rows"] ["_law_script"] (dS pJ):=by walk_at "sc"
theorem y9{f:Addr}{fd:FuncData}(F:gf K "_law_book" "_law_book" pJ f fd)(aO:mg "len"=none)(cc:mg "range"=none)(br:bM P w K mg base bf "_law_cell" 2 ["_law_script","_law_k"] (eD K))(za:bM P w K mg base bf "_law_makes" 2 ["_law_cell_here"] (gw K))(aD:bM P w K mg base bf "_law_mixed" 1 ["_law_cell_here","_law_k"] (bE K))(sW:bM P w K mg base bf "_law_part" 3 ["_law_makes_here","_law_cell_here"] (iE K))(Ay:bM P w K mg base bf "_law_word" 1 ["_law_number"] (iF K)):bB P w K mg base bf 4 f fd ["_law_script"] (iG K):=by
 refine F.ok cf (λvs H Q E h=>?_) (λcdv A outer s H vs Q E hr h=>?_)
 ·obtain⟨PP,ds,hP,hv,ns,rfl,q⟩:=h;exact hv.1
 obtain⟨PP,ds,hP,hv,ns,rfl,q⟩:=h;refine aP hP hv ?_;show gZ _ _ _ _ [some _,none,none,none,none,none,none,none] [];clear hP hv;refine ah (az (i:=1) cf.nd rfl (abY rfl) (aw za yL yK (hr.mono (by decide)) rfl (aa (aw br bP bI (hr.mono (by decide)) rfl (aa (ae 0) (aa aq af))) af))) (λR kk=>?_);walk_at "vc";refine⟨ns,_,rfl,by decide,λc0=>?_⟩;walk_at "vc";refine⟨c0,rfl,λms zs g=>kk _ _ ?_⟩;clear kk R;refine ah (az (i:=2) cf.nd rfl (abY rfl) (aw br bP bI (hr.mono (by decide)) rfl (aa (ae 0) (aa aq af)))) (λR kk=>?_);walk_at "vc";refine⟨ns,_,rfl,by decide,λc1=>kk _ _ ?_⟩;clear kk R;refine ah (xo TV (i:=3) cf.nd rfl (aad rfl) 1 ["_law_k","_law_makes_here","_law_cell_here"] [1,2] ⟨rfl,rfl,rfl,rfl,rfl,rfl,rfl,rfl⟩ (je rfl cc (aa (aL aq (aU (ae 2) aq)) af)) (λ_ _ _ _=>(bY (i:=0) (show List.Nodup (["_law_k","_law_makes_here","_law_cell_here"]:List Str)by decide +kernel) rfl (aad rfl))) (qF (i:=0)) (vn (by decide)) (λ_ _ _ _=>⟨kY,(aw sW sV sU (hr.mono (by decide)) rfl (aa (ae 1) (aa (aw aD aR aM (hr.mono (by decide)) rfl (aa (ae 2) (aa (ae 0) af))) af)))⟩)) (λR kk=>?_);walk_at "vc";obtain⟨m,em,hm⟩:=e9 c1 (m:=8) (n:=8) rfl (by decide);rw[em];refine⟨by decide,⟨by omega,by omega⟩,?_⟩;refine N0 (λp=>FG zs p/\p.rows.length=2) kI (by rw[c9];omega) ?_ ?_
 ·intro i d hd W N hW;obtain⟨hi,rfl⟩:=jD hd;walk_at "vc";rw[aaD rfl];walk_at "vc";refine⟨rfl,rfl,_,_,rfl,by omega,by omega,λv _ _=>?_⟩;walk_at "vc";exact⟨ms,zs,v,rfl,g,λp hp h2=>⟨rfl,hW p ⟨hp,h2⟩⟩⟩
 intro ps lp hps;rw[c9]at lp;walk_at "vc";refine kk _ _ ?_;clear kk R;refine ah (az (i:=4) cf.nd rfl (aad rfl) (aU (aw aD aR aM (hr.mono (by decide)) rfl (aa (ae 2) (aa aq af))) (aT rfl aO (aa (ae 3) af)))) (λR kk=>?_);walk_at "vc";refine⟨_,_,rfl,by decide,by decide,λv _ _=>?_⟩;walk_at "vc";rw[aaa];obtain⟨j,ej,hj⟩:=e9 v (m:=(ps.length:Int)) (n:=ps.length) rfl (by omega);rw[ej];refine⟨by omega,kk _ _ ?_⟩;clear kk R;refine ah (az (i:=5) cf.nd rfl (aad rfl) (aw sW sV sU (hr.mono (by decide)) rfl (aa (ae 1) (aa (aw br bP bI (hr.mono (by decide)) rfl (aa (ae 0) (aa aq af))) af)))) (λR kk=>?_);walk_at "vc";refine⟨ns,_,rfl,by decide,λc2=>?_⟩;walk_at "vc";refine⟨ms,zs,c2,rfl,g,λp hp _=>kk _ _ ?_⟩;clear kk R;refine ah (az (i:=6) cf.nd rfl (aad rfl) (av (aa aA (aa (aw Ay Aq Ap (hr.mono (by decide)) rfl (aa (aw aD aR aM (hr.mono (by decide)) rfl (aa (aw br bP bI (hr.mono (by decide)) rfl (aa (ae 0) (aa aq af))) (aa aq af))) af)) af)))) (λR kk=>?_);walk_at "vc";refine⟨ns,_,rfl,by decide,λc3=>⟨_,_,rfl,by decide,by decide,λv3 _ _=>⟨_,rfl,λw w0 w1=>kk _ _ ?_⟩⟩⟩;clear kk R;refine ah (az (i:=7) cf.nd rfl (aad rfl) (aL (fv (dD (aa (ae 6) (aa (av (aa aA af)) af))) (aL aq (aU (aw br bP bI (hr.mono (by decide)) rfl (aa (ae 0) (aa aq af))) aq))) (dD (aa (ae 6) (aa (av (aa aA af)) af))))) (λR kk=>?_);walk_at "vc";refine⟨ns,_,rfl,by decide,λc4=>?_⟩;walk_at "vc";obtain⟨n,en,hn⟩:=e9 c4 (m:=49) (n:=49) rfl (by decide);rw[en];rw[show(1 + (n:Int)).toNat=n + 1 by omega,ji,LR];refine⟨by decide,by omega,by omega,by omega,by omega,kk _ _ ?_⟩;clear kk R;refine ah (pC (aL (eB (ae 5) bN (bD aq)) (av (aa (ae 7) (aa (dD af) af)))) (yr (ae 3) (ae 4))) (λR kk=>?_);rw[cC];walk_at "vc";rw[Wy,aaa];refine⟨by show 4 + 2<=1000000;decide,j,qJ hj,kk _ _ ?_⟩;clear kk R;refine aK (ax (av (aa (av (aa (ae 1) (aa (ae 3) af))) (aa (ae 4) af)))) ?_;walk_at "vc";have hpj:(ps.set j {p with rows:=hV n w,spans:=[]})[j]?=some {p with rows:=hV n w,spans:=[]}:=aar hj;have z:=q ms zs (ps.set j {p with rows:=hV n w,spans:=[]}) j n {p with rows:=hV n w,spans:=[]} w g (by rw[aaH];omega) (λp' hp'=>?_) hpj hn rfl
 ·rw[lD,aci]at z;exact z
 ·rcases abf hp' with h | rfl
  ·exact(hps p' h).1
  ·exact⟨hp.tk,hp.t4,hp.gv,hp.tb,hp.bx,hp.h1,hp.h8,by show(hV n w).length<=100;rw[oo];omega,LS w0 w1,rfl⟩
theorem bA:aI ["_law_makes_here","_law_number","_law_c","_law_size","_law_many","_law_some"] ["_law_makes_here","_law_number"] (dS fg):=by walk_at "sc"
theorem pZ{f:Addr}{fd:FuncData}(F:gf K "_law_wrong_kind" "_law_wrong_kind" fg f fd)(aO:mg "len"=none)(dN:bM P w K mg base bf "_law_fields" 1 ["_law_makes_here","_law_c"] (cK K)):bB P w K mg base bf 2 f fd ["_law_makes_here","_law_number"] (cP K):=by
 refine F.ok bA (λvs H Q E h=>?_) (λcdv A outer s H vs Q E hr h=>?_)
 ·obtain⟨PP,ds,hP,hv,ms,zs,n,rfl,g,q⟩:=h;exact hv.1
 obtain⟨PP,ds,hP,hv,ms,zs,n,rfl,g,q⟩:=h;refine aP hP hv ?_;show gZ _ _ _ _ [some _,some _,none,none,none,none] [];clear hP hv;have gl:=g.len;have g8:=g.wf.few;have gn:=g.wf.ne;have em:=dU ms;obtain⟨c,ec,hc⟩:=e9 (n / 8) (m:=(ms.length:Int)) (n:=ms.length) rfl gn;have hz:zs[c]?=some (zs[c]'(by omega)):=cW (by omega);have z6:=g.six _ (List.getElem_mem (show c < zs.length by omega));generalize zs[c]'(by omega)=z at hz z6;have hsz:sizeOf zs (c:Int)=z:=by unfold sizeOf;rw[Int.toNat_natCast,hz];rfl
 refine ah (az (i:=2) bA.nd rfl (Or.inl rfl) (aU (cA (ae 1) aq) (aT rfl aO (aa (ae 0) af)))) (λR kk=>?_);rw[em];walk_at "vc";rw[List.length_map,ec];refine⟨⟨by decide,by decide⟩,by omega,kk _ _ ?_⟩;clear kk R;refine ah (az (i:=3) bA.nd rfl (Or.inl rfl) (uZ aq (aT rfl aO (aa (aw dN i3 iZ (hr.mono (by decide)) rfl (aa (ae 0) (aa (ae 2) af))) af)))) (λR kk=>?_);walk_at "vc";refine⟨ms,zs,c,z,by rw[em],g,hz,λxs hx=>?_⟩;walk_at "vc";rw[hx];have p2:(1:Int) * 2 ^ ((z:Int)).toNat=((2 ^ z:Nat):Int):=by rw[Int.toNat_natCast];simp
 have pz:0 < 2 ^ z:=Nat.pow_pos (by decide);have pz':2 ^ z<=2 ^ 6:=Nat.pow_le_pow_right (by decide) z6;rw[show(2:Nat) ^ 6=64 by decide]at pz';rw[p2];refine⟨⟨by omega,by omega,by decide⟩,kk _ _ ?_⟩;clear kk R;generalize hy:2 ^ z=y at pz pz' p2;refine ah (az (i:=4) bA.nd rfl (aad rfl) (aU (cA (ae 1) aq) aq)) (λR kk=>?_);walk_at "vc";obtain⟨m,emn,hm⟩:=e9 (n / 64) (m:=3) (n:=3) rfl (by decide);rw[emn];refine⟨⟨by decide,by decide⟩,by decide,kk _ _ ?_⟩;clear kk R;refine ah (az (i:=5) bA.nd rfl (aad rfl) (dD (aa (av (aa aA (aa (aL (aT rfl aO (aa (ae 0) af)) (ae 4)) af))) (aa (av (aa aA (aa (cq (jA aq) (ae 4)) af))) (aa (av (aa aA (aa (aL (aT rfl aO (aa (ae 0) af)) (ae 4)) (aa aq af)))) (aa (av (aa aA (aa (cq (jA aq) (ae 4)) (aa aq af)))) af)))))) (λR kk=>?_);walk_at "vc";rw[aaa];refine kk _ _ ?_;clear kk R;refine ah (az (i:=5) bA.nd rfl (aad rfl) (aL (ae 5) (dD (aa (av (aa aA (aa (ae 2) (aa (aL (ae 3) (ae 4)) af)))) (aa (av (aa aA (aa (ae 2) (aa (cq (jA aq) (ae 4)) af)))) (aa (av (aa aA (aa (aL (BO aq aq) (ae 2)) af))) (aa (av (aa aA (aa (ae 2) (aa (uZ (ae 3) aq) af)))) af))))))) (λR kk=>?_);walk_at "vc";refine⟨⟨by decide,by decide,by decide⟩,⟨by decide,by decide,by omega⟩,by decide,kk _ _ ?_⟩;clear kk R;refine aK (ax (bj (ae 5) (aU (ae 1) aq) (λ_ _=>rfl))) ?_;walk_at "vc";obtain⟨k,ek,hk⟩:=e9 n (m:=8) (n:=8) rfl (by decide);rw[ek];refine⟨by decide,?_⟩;have hs:((2 ^ sizeOf zs (c:Int):Nat):Int)=(y:Int):=by rw[hsz,hy]
 match k,hk with
 | 0,_=>exact⟨_,rfl,q (.whole _) (Ak (by omega))⟩
 | 1,_=>exact⟨_,rfl,q (.whole _) (Ak (by omega))⟩
 | 2,_=>exact⟨_,rfl,q (.raw _ _) (yG (by omega))⟩
 | 3,_=>exact⟨_,rfl,q (.raw _ _) (yG (by omega))⟩
 | 4,_=>exact⟨_,rfl,q (.raw _ _) (vy (by rw[hs];omega))⟩
 | 5,_=>exact⟨_,rfl,q (.raw _ _) (vy (by rw[hs];omega))⟩
 | 6,_=>exact⟨_,rfl,q (.whole _) (Ak (by have t:(10:Int) ^ (20:Int).toNat=100000000000000000000:=(by decide);rw[t];omega))⟩
 | 7,_=>exact⟨_,rfl,q (.raw _ _) (vy (by have t:(2:Int) ^ (9:Int).toNat=512:=(by decide);rw[hs,t];omega))⟩
theorem bu:aI ["_law_makes_here","_law_part_here","_law_stand","_law_way","_law_rest","_law_boxes","_law_stack","_law_kind_here","_law_spot","_law_deep"] ["_law_makes_here","_law_part_here","_law_stand","_law_way","_law_rest"] (dS eP):=by walk_at "sc"
theorem oK{f:Addr}{fd:FuncData}(F:gf K "_law_wrong_stand" "_law_wrong_stand" eP f fd)(aO:mg "len"=none)(qX:bM P w K mg base bf "_law_wrong_kind" 2 ["_law_makes_here","_law_number"] (cP K)):bB P w K mg base bf 3 f fd ["_law_makes_here","_law_part_here","_law_stand","_law_way","_law_rest"] (cD K):=by
 refine F.ok bu (λvs H Q E h=>?_) (λcdv A outer s H vs Q E hr h=>?_)
 ·obtain⟨PP,ds,hP,hv,ms,zs,p,B,way,rest,rfl,g,lB,b8,h1,h8,q⟩:=h;exact hv.1
 obtain⟨PP,ds,hP,hv,ms,zs,p,B,way,rest,rfl,g,lB,b8,h1,h8,q⟩:=h;refine aP hP hv ?_;show gZ _ _ _ _ [some _,some _,some _,some _,some _,none,none,none,none,none] [];clear hP hv;have em:=dU ms;have ept:=cC p;refine ah (pC (ae 2) (vm (m:=2) rfl (dM (bZ (i:=5) bu.nd rfl (Or.inl rfl)) (dM (bZ (i:=6) bu.nd rfl (Or.inl rfl)) qG)))) (λR kk=>?_);rw[show iz (B,[])=.tuple [.tuple (bw B),.tuple []]from rfl];walk_at "vc";refine⟨rfl,kk _ _ ?_⟩;clear kk R;refine ah (aG (bH (hr.units) (ae 3) aq) (au (ax (av (aa (aL (ae 5) (fv (av (aa (av (aa aA af)) af)) (aL aq (aU (ae 4) aq)))) (aa (ae 6) af))))) ay) (λR kk=>?_);walk_at "vc";have lk:(bw B).length=B.length:=List.length_map ..;have nums:∀n:Nat,List.replicate n (PyData.tuple [.str "number"])=bw (List.replicate n .num):=λn=>by unfold bw;rw[List.map_replicate];rfl
 refine bO (λe=>?_) (λe=>kk _ _ ?_)
 ·obtain⟨t,et,ht⟩:=e9 rest (m:=2) (n:=2) rfl (by decide);rw[et,show(1 + (t:Int)).toNat=1 + t by omega,pR,List.length_replicate,lk];refine⟨by decide,by simp,by omega,by omega,by omega,by omega,?_⟩;have z:=q (B++List.replicate (1 + t) .any,[]) (DM (by show(B++List.replicate (1 + t) KI.any).length≠_;rw[List.length_append,List.length_replicate];omega)) (by show(B++List.replicate (1 + t) KI.any).length<=_;rw[List.length_append,List.length_replicate];omega) (Nat.zero_le _)
  have ea:iz (B++List.replicate (1 + t) KI.any,[])=.tuple [.tuple (bw B++List.replicate (1 + t) (.tuple [.str "any"])),.tuple []]:=by
   rw[jJ];show PyData.tuple [.tuple (bw (B++List.replicate (1 + t) KI.any)),.tuple []]=_;unfold bw;rw[List.map_append,List.map_replicate];rfl
  rw[ea]at z;exact z
 clear kk R;refine ah (aG (wa.dt (pA (bH (hr.units) (ae 3) aq) (jC (kH (hr.units) (ae 5) (av af))))) (au (ax (av (aa (eB (ae 5) (bD aq) bN) (aa (ae 6) af))))) ay) (λR kk=>?_);walk_at "vc";have shB:PySem.SeqAt.shaped (.tuple (bw B))=true:=(iU (yw λk _=>Im k)).ok;rw[DN]
 have mid:R [some (.dat (cV ms)),some (.dat (kI p)),some (.dat (.tuple [.tuple (bw B),.tuple []])),some (.dat (.int (way:Int))),some (.dat (.int rest)),some (.dat (.tuple (bw B))),some (.dat (.tuple [])),none,none,none] []:=by
  refine kk _ _ ?_;clear kk R;refine ah (aG (oS (ae 3) aq) (au (ax (av (aa (ae 5) (aa (fv (av (aa (av (aa aA af)) af)) (aL (aL (aj (n:=3) (ae 1)) aq) (aU (ae 4) aq))) af))))) ay) (λR kk=>?_);rw[ept];walk_at "vc";refine bO (λe=>?_) (λe=>kk _ _ ?_)
  ·obtain⟨t,et,ht⟩:=e9 rest (m:=3) (n:=3) rfl (by decide);rw[et,show((p.height:Int) + 1 + (t:Int)).toNat=p.height + 1 + t by omega,pR];refine⟨by decide,by simp,by omega,by omega,by omega,?_⟩;have z:=q (B,List.replicate (p.height + 1 + t) .num) (Ip (by show _ < (List.replicate (p.height + 1 + t) KI.num).length;rw[List.length_replicate];omega)) (by show B.length<=1000;omega) (by show(List.replicate (p.height + 1 + t) KI.num).length<=_;rw[List.length_replicate];omega);rw[jJ]at z;rw[nums];exact z
  clear kk R;rw[← ept];refine ah (az (i:=7) bu.nd rfl (aad rfl) (aw qX qP qN (hr.mono (by decide)) rfl (aa (ae 0) (aa (cA (ae 4) aq) af)))) (λR kk=>?_);walk_at "vc";refine⟨⟨by decide,by decide⟩,ms,zs,_,rfl,g,λk hk=>kk _ _ ?_⟩;clear kk R;refine ah (aG (wa.dt (pA (oS (ae 3) aq) (jC (kH (hr.units) (ae 5) (av af))))) (cI (az (i:=8) bu.nd rfl (aad rfl) (aU (ae 4) (aT rfl aO (aa (ae 5) af))))
   (au (ax (av (aa (aL (aL (eB (ae 5) bN (bD (ae 8))) (av (aa (ae 7) af))) (eB (ae 5) (bD (aL (ae 8) aq)) bN)) (aa (ae 6) af)))))) ay) (λR kk=>?_)
  walk_at "vc";rw[DN]
  have fin:R [some (.dat (cV ms)),some (.dat (kI p)),some (.dat (.tuple [.tuple (bw B),.tuple []])),some (.dat (.int (way:Int))),some (.dat (.int rest)),some (.dat (.tuple (bw B))),some (.dat (.tuple [])),some (.dat (.tuple (ui k))),none,none] []:=by
   refine kk _ _ ?_;clear kk R;refine ah (az (i:=9) bu.nd rfl (Or.inl rfl) (aU (ae 4) (aj (n:=3) (ae 1)))) (λR kk=>?_);rw[ept];walk_at "vc";obtain⟨t,et,ht⟩:=e9 rest (m:=(p.height:Int)) (n:=p.height) rfl (by omega);rw[et];refine⟨by omega,kk _ _ ?_⟩;clear kk R;refine aK (ax (av (aa (ae 5) (aa (aL (aL (fv (av (aa (av (aa aA af)) af)) (ae 9)) (av (aa (ae 7) af))) (fv (av (aa (av (aa aA af)) af)) (aU (cA (ae 4) aq) (cq (aj (n:=3) (ae 1)) (ae 9))))) af)))) ?_;walk_at "vc";obtain⟨u,eu,hu⟩:=e9 (rest / 8) (m:=(p.height:Int) - (t:Int)) (n:=p.height - t) (by omega) (by omega);rw[eu,Int.toNat_natCast,Int.toNat_natCast,pR,pR,nums,nums];refine⟨by simp,by omega,by omega,by omega,by simp;omega,⟨by decide,by decide⟩,by omega,by simp,by omega,by omega,by omega,by simp;omega,?_⟩;have z:=q (B,List.replicate t KI.num++[k]++List.replicate u KI.num) (Al (k:=k) (by simp) hk) (by show B.length<=1000;omega) (by show(List.replicate t KI.num++[k]++List.replicate u KI.num).length<=1000;simp;omega)
   have ea:iz (B,List.replicate t KI.num++[k]++List.replicate u KI.num)=.tuple [.tuple (bw B),.tuple (bw (List.replicate t KI.num)++[.tuple (ui k)]++bw (List.replicate u KI.num))]:=by
    rw[jJ];show PyData.tuple [.tuple (bw B),.tuple (bw (List.replicate t KI.num++[k]++List.replicate u KI.num))]=_;unfold bw;rw[List.map_append,List.map_append];rfl
   rw[ea]at z;exact z
  refine bO (λe=>⟨⟨shB,rfl⟩,eO (λhne=>?_) (λ_=>fin)⟩) (λe=>dI fin);have hpos:0 < B.length:=List.length_pos_iff.mpr hne;obtain⟨t,et,ht⟩:=e9 rest (m:=(B.length:Int)) (n:=B.length) rfl hpos;rw[lk,et,DK,show(t:Int) + 1=((t + 1:Nat):Int)by omega,xx];refine⟨by omega,by rw[List.length_map,List.length_take];omega,by rw[List.length_append,List.length_map,List.length_map,List.length_take,List.length_drop];show _ + 1 + _<=_;omega,?_⟩;have z:=q (B.take t++[k]++B.drop (t + 1),[]) (Al (k:=k) (by simp) hk) (by show(B.take t++[k]++B.drop (t + 1)).length<=1000;simp;omega) (Nat.zero_le _)
  have ea:iz (B.take t++[k]++B.drop (t + 1),[])=.tuple [.tuple (bw (B.take t)++[.tuple (ui k)]++bw (B.drop (t + 1))),.tuple []]:=by
   rw[jJ];show PyData.tuple [.tuple (bw (B.take t++[k]++B.drop (t + 1))),.tuple []]=_;unfold bw;rw[List.map_append,List.map_append];rfl
  rw[ea]at z;exact z
 refine bO (λe=>⟨⟨shB,rfl⟩,eO (λhne=>?_) (λ_=>mid)⟩) (λe=>dI mid);have hpos:0 < B.length:=ac2.mpr hne;rw[show(3:Int)=((3:Nat):Int)from rfl,xx];exact q (B.drop 3,[]) (DM (by show(B.drop 3).length≠_;rw[abS];omega)) (by show(B.drop 3).length<=_;rw[abS];omega) (aaP _)
theorem bo:aI ["_law_makes_here","_law_part_here","_law_papers_here","_law_cell_here","_law_found","_law_rest","_law_j","_law_at","_law_stand","_law_way","_law_places"] ["_law_makes_here","_law_part_here","_law_papers_here","_law_cell_here"] (dS iV):=by walk_at "sc"
theorem uj{f:Addr}{fd:FuncData}(F:gf K "_law_changed" "_law_changed" iV f fd)(aO:mg "len"=none)(dE:mg "list"=none)(aD:bM P w K mg base bf "_law_mixed" 1 ["_law_cell_here","_law_k"] (bE K))(p0:bM P w K mg base bf "_law_wrong_stand" 3 ["_law_makes_here","_law_part_here","_law_stand","_law_way","_law_rest"] (cD K)):bB P w K mg base bf 4 f fd ["_law_makes_here","_law_part_here","_law_papers_here","_law_cell_here"] (eS K):=by
 refine F.ok bo (λvs H Q E h=>?_) (λcdv A outer s H vs Q E hr h=>?_)
 ·obtain⟨PP,ds,hP,hv,ms,zs,p,pps,c,rfl,g,hB,hQ,q⟩:=h;exact hv.1
 obtain⟨PP,ds,hP,hv,ms,zs,p,pps,c,rfl,g,hB,hQ,q⟩:=h;refine BU hP hv ?_;show gZ _ _ _ _ [some _,some _,some _,some _,none,none,none,none,none,none,none] [];clear hP hv;have em:=dU ms;have ept:=cC p;refine ah (az (i:=4) bo.nd rfl (aad rfl) (Ho rfl dE (aa (ae 2) af))) (λR kk=>?_);walk_at "vc";refine kk _ _ ?_;clear kk R;refine ah (az (i:=5) bo.nd rfl (aad rfl) (aw aD aR aM (hr.mono (by decide)) rfl (aa (ae 3) (aa aq af)))) (λR kk=>?_);walk_at "vc";refine⟨_,_,rfl,by decide,by decide,λrest r0 _=>kk _ _ ?_⟩;clear kk R;refine ah (aG (wa.dt (qE (bH (hr.units) (ae 4) (dD af)) (px (bH (hr.units) (aU (ae 3) aq) aq)))) (au (ax (ae 4))) ay) (λR kk=>?_);walk_at "vc";have rK:N4 zs p pps pps:=⟨rfl,λk x y h1 h2=>by rw[h1]at h2;cases h2;exact .inl rfl⟩
 have eqn:PyData.eqv (.list (pps.map i8)) (.list [])=decide (pps=[]):=by
  cases pps with
  | nil=>rfl
  | cons a r=>rfl
 rw[eqn];refine⟨⟨(pS _).ok,rfl⟩,bO (λ_=>cT (q pps rK)) (λhne=>⟨by decide,bO (λ_=>q pps rK) (λ_=>kk _ _ ?_)⟩)⟩;clear kk R;have hpos:0 < pps.length:=ac2.mpr hne;have WB:=hQ.le;refine ah (az (i:=6) bo.nd rfl (aad rfl) (aU (aw aD aR aM (hr.mono (by decide)) rfl (aa (ae 3) (aa aq af))) (aT rfl aO (aa (ae 4) af)))) (λR kk=>?_);walk_at "vc";refine⟨_,_,rfl,by decide,by decide,λv1 _ _=>?_⟩;walk_at "vc";rw[aaa];obtain⟨j,ej,hj⟩:=e9 v1 (m:=(pps.length:Int)) (n:=pps.length) rfl hpos;rw[ej];refine⟨by omega,kk _ _ ?_⟩;clear kk R;have hpj:pps[j]?=some pps[j]:=cW hj;generalize pps[j]=x0 at hpj;obtain⟨B,uB,oB,hall⟩:=hQ.bb;obtain⟨e0,f0,f1,f2⟩:=hall x0 (aan hpj);have lB:B.length=p.boxes:=by rw[uB.1,uz hB.tb]
 refine ah (pC (bj (ae 4) (ae 6) (λ_ _=>rfl)) (vm (m:=2) rfl (dM (bZ (i:=7) bo.nd rfl (aad rfl)) (dM (bZ (i:=8) bo.nd rfl (aad rfl)) qG)))) (λR kk=>?_);walk_at "vc";refine⟨_,bg (f:=i8) hpj,?_⟩;rw[show i8 x0=.tuple [.int x0.1,iz x0.2]from rfl];walk_at "vc";refine⟨rfl,kk _ _ ?_⟩;clear kk R;refine ah (az (i:=9) bo.nd rfl (aad rfl) (aU (aw aD aR aM (hr.mono (by decide)) rfl (aa (ae 3) (aa aq af))) aq)) (λR kk=>?_);walk_at "vc";refine⟨_,_,rfl,by decide,by decide,λv2 _ _=>?_⟩;walk_at "vc";obtain⟨way,ew,hw⟩:=e9 v2 (m:=9) (n:=9) rfl (by decide);rw[ew];refine⟨by decide,kk _ _ ?_⟩;clear kk R
 have fin:∀x:Pp,Qx zs p pps j x->N4 zs p pps (pps.set j x):=λx hx=>⟨by rw[aaH],λk u y h1 h2=>by
  by_cases e:j=k
  ·subst e;rw[aar hj]at h1;cases h1;exact .inr hx
  ·rw[aaq e,h2]at h1;cases h1;exact .inl rfl⟩
 refine ah (aG (bH (hr.units) (ae 9) aq) (cI (az (i:=10) bo.nd rfl (aad rfl) (dD (aa (cq (jA aq) (aU (cA (ae 5) aq) aq)) (aa (aL (aT rfl aO (aa (aj (n:=4) (ae 1)) af)) (aU (cA (ae 5) aq) aq)) (aa (BO aq aq) (aa (jA (BO aq aq)) af))))))
   (cI (aG (vb (ae 6) aq) (au (az (i:=10) bo.nd rfl (aad rfl) (aL (ae 10) (dD (aa (aj (n:=0) (bj (ae 4) (cq (ae 6) aq) (λ_ _=>rfl))) (aa (cq (aj (n:=0) (bj (ae 4) (cq (ae 6) aq) (λ_ _=>rfl))) (aU (cA (ae 5) aq) aq)) af)))))) ay)
   (au (pC (av (aa (bj (ae 10) (aU (ae 5) (aT rfl aO (aa (ae 10) af))) (λ_ _=>rfl)) (aa (ae 8) af))) (yr (ae 4) (ae 6)))))) (au (pC (av (aa (ae 7) (aa (aw p0 pU pT (hr.mono (by decide)) rfl (aa (ae 0) (aa (ae 1) (aa (ae 8) (aa (ae 9) (aa (ae 5) af)))))) af))) (yr (ae 4) (ae 6))))) (λR kk=>?_)
 walk_at "vs";refine bO (λe8=>?_) (λe8=>?_)
 ·obtain⟨y,ey,hy⟩:=e9 (rest / 8) (m:=4) (n:=4) rfl (by decide);obtain⟨y3,ZS,hy3⟩:=e9 (rest / 8) (m:=3) (n:=3) rfl (by decide);have ZT:(10:Int) ^ (18:Int).toNat=1000000000000000000:=by decide
  have r2:=hB.r2
  have pick:∀L:List Int,(∀v∈L,v < 0∨(p.rows.length:Int)<=v∨∃y,0 < j/\pps[j - 1]?=some y/\v<=y.1)->0 < L.length->L.length<=6->∃d,sP (L.map PyData.int) (rest % (((L.map PyData.int).length:Nat):Int))=some d/\∃v,d=.int v/\Qx zs p pps j (v,x0.2):=by
   intro L hL h0 h6;rw[aaa];obtain⟨d,h1,h2⟩:=Lz (xs:=L.map PyData.int) (n:=(L.length:Int)) (by rw[aaa]) (by omega) rest;obtain⟨v,h3,rfl⟩:=abp.mp h1;refine⟨_,h2,v,rfl,.inr (hL v h3),?_⟩;rw[e0];have:=hB.bx;exact⟨by show B.length<=1000;omega,aaP _⟩
  refine iw (λR1 k1=>?_);rw[ept];walk_at "vs";rw[ey,ZT,aaa];refine⟨⟨by decide,by decide⟩,by decide,⟨by decide,by decide⟩,by decide,⟨by decide,by decide,by decide⟩,⟨by decide,by decide,by decide⟩,k1 _ _ ?_⟩;clear k1 R1
  have four:∀v∈[-1 - (y:Int),(p.rows.length:Int) + (y:Int),1000000000000000000,-1000000000000000000],v < 0∨(p.rows.length:Int)<=v∨∃y,0 < j/\pps[j - 1]?=some y/\v<=y.1:=by
   intro v hv;simp only[List.mem_cons,List.not_mem_nil,or_false]at hv;rcases hv with rfl | rfl | rfl | rfl
   ·exact .inl (by omega)
   ·exact .inr (.inl (by omega))
   ·exact .inr (.inl (by omega))
   ·exact .inl (by omega)
  refine iw (λR1 k1=>?_);rw[← ept]
  have tail:∀L:List Int,(∀v∈L,v < 0∨(p.rows.length:Int)<=v∨∃y,0 < j/\pps[j - 1]?=some y/\v<=y.1)->0 < L.length->L.length<=6->R1 [some (.dat (cV ms)),some (.dat (kI p)),some (.dat (.list (pps.map i8))),some (.dat (.int c)),some (.ref 0),some (.dat (.int rest)),some (.dat (.int (j:Int))),some (.dat (.int x0.1)),some (.dat (iz x0.2)),some (.dat (.int (way:Int))),some (.dat (.list (L.map PyData.int)))] [.live (pps.map i8)]:=by
   intro L h1 h2 h3;obtain⟨d,p1,v,rfl,p2⟩:=pick L h1 h2 h3;refine k1 _ _ ?_;clear k1 R1;walk_at "vs";refine⟨by rw[aaa];omega,_,p1,j,by rw[aaa];exact qJ hj,kk _ _ ?_⟩;clear kk R;refine aK (ax (ae 4)) ?_;rw[show PyData.tuple [.int v,iz x0.2]=i8 (v,x0.2)from rfl,← aci];walk_at "vc";exact q _ (fin _ p2)
  walk_at "vs";refine bO (λhj0=>?_) (λ_=>tail [-1 - (y:Int),(p.rows.length:Int) + (y:Int),1000000000000000000,-1000000000000000000] four (abQ _) (by show 4<=6;decide));have ZU:0 < j:=by omega
  have hpq:pps[j - 1]?=some (pps[j - 1]'(by omega)):=cW (by omega);generalize pps[j - 1]'(by omega)=x1 at hpq;have a1:sP (pps.map i8) ((j:Int) - 1)=some (i8 x1):=by rw[show(j:Int) - 1=((j - 1:Nat):Int)by omega];exact bg (f:=i8) hpq
  have e1:i8 x1=.tuple [.int x1.1,iz x1.2]:=rfl;refine⟨_,a1,?_⟩;rw[e1];walk_at "vs";refine⟨_,a1,?_⟩;rw[e1];walk_at "vs";rw[ZS];refine⟨⟨by decide,by decide⟩,by decide,by decide,?_⟩;refine tail [-1 - (y:Int),(p.rows.length:Int) + (y:Int),1000000000000000000,-1000000000000000000,x1.1,x1.1 - (y3:Int)] (λv hv=>?_) (abQ _) (by show 6<=6;decide);rcases aaN.mp (show v∈[-1 - (y:Int),(p.rows.length:Int) + (y:Int),1000000000000000000,-1000000000000000000]++[x1.1,x1.1 - (y3:Int)]from hv)with h | h
  ·exact four v h
  ·simp only[List.mem_cons,List.not_mem_nil,or_false]at h;exact .inr (.inr ⟨x1,ZU,hpq,by rcases h with rfl | rfl<;>omega⟩)
 ·walk_at "vs";rw[e0];have:=hB.bx;refine⟨ms,zs,p,B,way,rest,rfl,g,lB,hB.bx,hB.h1,hB.h8,λs hs l1 l2=>⟨j,by rw[aaa];exact qJ hj,kk _ _ ?_⟩⟩;clear kk R;refine aK (ax (ae 4)) ?_;rw[show PyData.tuple [.int x0.1,iz s]=i8 (x0.1,s)from rfl,← aci];walk_at "vc";exact q _ (fin _ ⟨.inl hs,l1,l2⟩)
theorem qY:aI ["_law_book_here","_law_makes_here"] ["_law_book_here"] (dS pL):=by walk_at "sc"
theorem zc{f:Addr}{fd:FuncData}(F:gf K "_law_copy" "_law_copy" pL f fd)(dE:mg "list"=none):bB P w K mg base bf 1 f fd ["_law_book_here"] (iH K):=by
 refine F.ok qY (λvs H Q E h=>?_) (λcdv A outer s H vs Q E hr h=>?_)
 ·obtain⟨PX,v0,ms,ps,j,p,rfl,hPX,hB,m8,p8,hp,q⟩:=h;rfl
 obtain⟨PX,v0,ms,ps,j,p,rfl,hPX,hB,m8,p8,hp,q⟩:=h;refine⟨_,(qK (zG (i:=1) qY.nd rfl (aad rfl) 2 ["_law_elder","_law_kinds"] [] ⟨rfl,rfl,rfl,rfl,rfl,rfl,rfl,rfl⟩ (xU (cY cM (pv 0) pI (λ_ _=>rfl))) (λ_ _ _ _=>⟨(show PG _ _ (Kh K 2 _)from (uG rfl (eG (bY (i:=0) (show List.Nodup (["_law_elder","_law_kinds"]:List Str)by decide +kernel) rfl (aad rfl)) (eG (bY (i:=1) (show List.Nodup (["_law_elder","_law_kinds"]:List Str)by decide +kernel) rfl (aad rfl)) qt)))),yb,(ju (pK (pv 0) (pK (gK (r:=uu K) cw rfl dE jv (pK (pv 1) pN)) pN)))⟩))
   (qO (kM (ju (pK (pv 1) (pK (Gy 1 ["_law_p"] [] ⟨rfl,rfl,rfl,rfl,rfl,rfl,rfl,rfl⟩ (xU (cY cM (pv 0) pI (λ_ _=>rfl))) (λ_ _ _ _=>⟨(bY (i:=0) (show List.Nodup (["_law_p"]:List Str)by decide +kernel) rfl (aad rfl)),yb,(ju (pK (gK (r:=uu K) cw rfl dE jv (pK (cY (r:=zC K) cM (pv 0) pI (λ_ _=>rfl)) pN)) (pK (cY (r:=zC K) cM (pv 0) pI (λ_ _=>rfl)) (pK (cY (r:=zC K) cM (pv 0) pI (λ_ _=>rfl)) (pK (cY (r:=zC K) cM (pv 0) pI (λ_ _=>rfl)) (pK (gK (r:=uu K) cw rfl dE jv (pK (cY (r:=zC K) cM (pv 0) pI (λ_ _=>rfl)) pN)) (pK (gK (r:=uu K) cw rfl dE jv (pK (cY (r:=zC K) cM (pv 0) pI (λ_ _=>rfl)) pN)) pN)))))))⟩)) pN)))))),?_⟩
 obtain⟨b0,ws,rfl,hT,_,hW⟩:=aE.bL hB;obtain⟨ZV,ZW,rfl⟩:=Ul hW.1;obtain⟨ma,xs,rfl,hS,_,hX⟩:=aE.cN (hW.2 0 ZV _ rfl rfl);obtain⟨pa,us,rfl,hPS,_,hU⟩:=aE.cN (hW.2 1 ZW _ rfl rfl);have lxs:xs.length=ms.length:=by rw[hX.1,aaa]
 have lus:us.length=ps.length:=by rw[hU.1,aaa]
 refine⟨_,rfl,b0,_,_,_,rfl,rfl,hT,aN (j:=0) rfl,ma,rfl,⟨_,hS⟩,λD hD=>?_⟩;refine C0 (xs:=xs) (λi ys H2=>aS H H2/\H2 D=some (.lst ys)/\ys.length=i/\bR (aE K (λc=>PX c∨c=D) H2) ys ((ms.take i).map BZ)) (acC (sK (by omega))) ⟨sN hD _,uS,rfl,.nil⟩ ?_ ?_ ?_
 ·rintro i ys H2 hi ⟨s2,d2,hl,_⟩;exact⟨d2,ace hl,s2.seq hS⟩
 ·rintro i x ys H2 hx ⟨s2,d2,hl,hR⟩;have him:i < ms.length:=by have:=(bz hx).1;omega
  obtain⟨t,ts,rfl,hTt,_,hTs⟩:=aE.bL (hX.2 i x (BZ ms[i]) hx (by rw[List.getElem?_map,cW him];rfl));obtain⟨e,kl,rfl⟩:=Ul hTs.1;have re:=hTs.2 0 e _ rfl rfl;obtain⟨l,ks,rfl,JN,_,hks⟩:=aE.cN (hTs.2 1 kl _ rfl rfl);refine⟨t,_,rfl,s2.tup hTt,rfl,_,_,rfl,_,_,rfl,rfl,rfl,?_⟩;refine⟨_,rfl,_,rfl,l,_,rfl,.inl (s2.seq JN),λl2 n2=>?_⟩;refine⟨Vt,λu nu=>?_⟩;have nl:l2≠D:=(nN d2 n2).symm;have s3:=sN n2 (.lst ks);have s4:=sN nu (.tup [e,.ref l2]);have d4:=s4 _ _ (s3 _ _ d2);have nuD:u≠D:=(nN (s3 _ _ d2) nu).symm;have g2:=s4 _ _ (uS (H:=H2) (a:=l2) (o:=.lst ks));have g4:=uS (H:=upd H2 l2 (.lst ks)) (a:=u) (o:=.tup [e,.ref l2]);have S4:=s2.trans (s3.trans s4);have YJ:=s3.trans s4;generalize upd (upd H2 l2 (.lst ks)) u (.tup [e,.ref l2])=H4 at s4 d4 g2 g4 S4 YJ;refine⟨d4,xA S4 hD,uS,by simp[hl],?_⟩;have S7:aS H (upd H4 D (.lst (ys++[.ref u]))):=xA S4 hD;have hole:∀{v:V} {d:PyData},aE K PX H v d->aE K (λc=>PX c∨c=D) (upd H4 D (.lst (ys++[.ref u]))) v d:=λh=>vz h (λc e=>e.imp id λe=>by rw[e];exact hD) S7
  have fr:∀a,H a=none->¬ PX a:=λa ha z=>by obtain⟨o,e⟩:=hPX a z;rw[ha]at e;cases e
  rw[List.take_succ_eq_append_getElem him,abB];refine(hR.imp λ_ _ z=>hZ z λc o n e=>⟨n,by rw[uN λz=>n (.inr z)];exact YJ c o e⟩).append (.cons ?_ .nil);refine aE.tup (λz=>z.elim (fr u (s2.free (s3.free nu))) nuD) (by rw[uN nuD];exact g4) (.cons (hole re) (.cons (aE.lst (λz=>z.elim (fr l2 (s2.free n2)) nl) (by rw[uN nl];exact g2) ⟨hks.1,λi y d h1 h2=>hole (hks.2 i y d h1 h2)⟩) .nil))
 rintro ys H2 ⟨s2,d2,hl,hR⟩;rw[lxs,aca]at hR;have fr:∀a,H a=none->¬ PX a:=λa ha z=>by obtain⟨o,e⟩:=hPX a z;rw[ha]at e;cases e
 have rM:aE K PX H2 (.ref D) (cV ms):=aE.lst (fr D hD) d2 (hR.imp λ_ _ z=>z.sub λc hc=>.inl hc);clear hR hl;dsimp only[gc];refine⟨_,rfl,_,rfl,b0,_,_,_,rfl,rfl,s2.tup hT,aN (j:=1) rfl,pa,rfl,⟨_,s2.seq hPS⟩,λD2 JS=>?_⟩;have YL:H D2=none:=s2.free JS;refine C0 (xs:=us) (λi ys H3=>aS H2 H3/\H3 D2=some (.lst ys)/\ys.length=i/\∃ls:List Addr,ls.length=i/\ls.Nodup/\(∀l∈ls,H2 l=none/\l≠D2)/\∀(k:Nat) y l p,ys[k]?=some y->ls[k]?=some l->ps[k]?=some p->Uu K (λc=>PX c∨Pl D2 ls c) H3 y l p) (Nat.le_of_lt (sK (by omega))) ⟨sN JS _,uS,rfl,[],rfl,List.nodup_nil,(λl h=>nomatch h),λk y l p h=>by cases h⟩ ?_ ?_ ?_
 ·rintro i ys H3 hi ⟨s3,d3,hl,_⟩;exact⟨d3,ace hl,s3.seq (s2.seq hPS)⟩
 ·rintro i x ys H3 hx ⟨s3,d3,hl,ls,lls,hnd,hfr,hI⟩;have him:i < ps.length:=by have:=(bz hx).1;omega
  have hpi:=cW him;obtain⟨t,ts,rfl,hTt,_,hTs⟩:=aE.bL (hU.2 i x (kI ps[i]) hx (by rw[aaR,hpi];rfl));obtain⟨x0,x1,x2,x3,x4,x5,rfl⟩:=Wu hTs.1;obtain⟨a0,v0,rfl,L0,_,R0⟩:=aE.cN (hTs.2 0 x0 _ rfl rfl);obtain⟨a4,v4,rfl,L4,_,R4⟩:=aE.cN (hTs.2 4 x4 _ rfl rfl);obtain⟨a5,v5,rfl,L5,_,R5⟩:=aE.cN (hTs.2 5 x5 _ rfl rfl);have r1:=hTs.2 1 x1 _ rfl rfl;have r2:=hTs.2 2 x2 _ rfl rfl;have r3:=hTs.2 3 x3 _ rfl rfl;have S3:=s2.trans s3;generalize ps[i]=p1 at hpi R0 R4 R5 r1 r2 r3;refine⟨rfl,?_⟩;refine⟨_,rfl,t,_,_,_,rfl,rfl,S3.tup hTt,aN (j:=0) rfl,a0,v0,rfl,.inl (S3.seq L0),λl0 n0=>?_⟩;have u0:=sN n0 (.lst v0);have g0:=uS (H:=H3) (a:=l0) (o:=.lst v0);generalize upd H3 l0 (.lst v0)=H4 at u0 g0;have S4:=S3.trans u0;refine⟨_,rfl,t,_,_,_,rfl,rfl,S4.tup hTt,aN (j:=1) rfl,_,rfl,t,_,_,_,rfl,rfl,S4.tup hTt,aN (j:=2) rfl,_,rfl,t,_,_,_,rfl,rfl,S4.tup hTt,aN (j:=3) rfl,_,rfl,t,_,_,_,rfl,rfl,S4.tup hTt,aN (j:=4) rfl,a4,v4,rfl,.inl (S4.seq L4),λl4 n4=>?_⟩;have u4:=sN n4 (.lst v4);have g4:=uS (H:=H4) (a:=l4) (o:=.lst v4);generalize upd H4 l4 (.lst v4)=H5 at u4 g4;have S5:=S4.trans u4;refine⟨_,rfl,t,_,_,_,rfl,rfl,S5.tup hTt,aN (j:=5) rfl,a5,v5,rfl,.inl (S5.seq L5),λl5 n5=>?_⟩;have u5:=sN n5 (.lst v5);have g5:=uS (H:=H5) (a:=l5) (o:=.lst v5);generalize upd H5 l5 (.lst v5)=H6 at u5 g5;refine⟨YV,λu nu=>?_⟩;have u6:=sN nu (.tup [.ref l0,x1,x2,x3,.ref l4,.ref l5]);have g6:=uS (H:=H6) (a:=u) (o:=.tup [.ref l0,x1,x2,x3,.ref l4,.ref l5]);generalize upd H6 u (.tup [.ref l0,x1,x2,x3,.ref l4,.ref l5])=H7 at u6 g6;have U:=u0.trans (u4.trans (u5.trans u6));have S7:=S3.trans U;have d4:=u0 _ _ d3;have d5:=u4 _ _ d4;have d6:=u5 _ _ d5;have m0:l0≠D2:=(nN d3 n0).symm;have m4:l4≠D2:=(nN d4 n4).symm;have m5:l5≠D2:=(nN d5 n5).symm;have mu:u≠D2:=(nN d6 nu).symm;have ZX:l0≠l4:=nN g0 n4;have ZY:l4≠l5:=nN g4 n5;have k4u:l4≠u:=nN (u5 _ _ g4) nu;have f4:H3 l4=none:=u0.free n4;have YM:H2 l4=none:=s3.free f4
  have old:∀l∈ls,∃o,H3 l=some o:=λl hm=>by
   obtain⟨k,hk⟩:=aa9 hm;have ZZ:=(bz hk).1;obtain⟨_,_,_,_,_,_,rv,_,_,_,_,_,_,_,_,h9,_⟩:=hI k _ l _ (cW (by omega)) hk (cW (by omega));exact⟨_,h9⟩
  have Z0:l4∉ls:=λhm=>by obtain⟨o,e⟩:=old l4 hm;rw[f4]at e;cases e
  have nw:∀a,H3 a=none->a≠l4->a≠D2->¬ (PX a∨Pl D2 (ls++[l4]) a):=λa ha n4' nD z=>by
   rcases z with z | z | z
   ·exact fr a (S3.free ha) z
   ·exact nD z
   ·rcases aaN.mp z with z | z
    ·obtain⟨o,e⟩:=old a z;rw[ha]at e;cases e
    ·exact n4' (ik z)
  refine⟨u6 _ _ d6,(λc o e=>by rw[uN (nN e JS)];exact U c o (s3 c o e)),uS,by simp[hl],ls++[l4],by simp[lls],?_,λl hm=>?_,λk y l p hy hl' hp'=>?_⟩
  ·rw[List.nodup_append];exact⟨hnd,by simp,λa ha b hb e=>Z0 (by rw[← ik hb,← e];exact ha)⟩
  ·rcases aaN.mp hm with z | z
   ·exact hfr l z
   ·rw[ik z];exact⟨YM,m4⟩
  ·have gen:∀c o,c≠D2->H7 c=some o->upd H7 D2 (.lst (ys++[.ref u])) c=some o:=λc o n e=>by rw[uN n];exact e
   by_cases hk:k < ys.length
   ·rw[aae hk]at hy;rw[aae (by omega)]at hl';have hlm:=aan hl';refine(hI k y l p hy hl' hp').grow (λc o n e=>⟨λz=>?_,gen c o (λz=>n (.inr (.inl z))) (U c o e)⟩) λo e=>gen l o (hfr l hlm).2 (U l o e)
    rcases z with z | z | z
    ·exact n (.inl z)
    ·exact n (.inr (.inl z))
    ·rcases aaN.mp z with z | z
     ·exact n (.inr (.inr z))
     ·rw[ik z,f4]at e;cases e
   ·have ek:k=ys.length:=by
     have:=(bz hy).1;simp at this;omega
    subst ek;rw[aam (aaj _),aa3]at hy;rw[hl,← lls,aam (aaj _),aa3]at hl';cases hy;cases hl';rw[hl,hpi]at hp';cases hp';have S8:aS H (upd H7 D2 (.lst (ys++[.ref u]))):=λc o e=>gen c o (nN e YL) (S7 c o e)
    have Z1:∀c,(PX c∨Pl D2 (ls++[l4]) c)->PX c∨H c=none:=λc z=>by
     rcases z with z | rfl | z
     ·exact .inl z
     ·exact .inr YL
     ·rcases aaN.mp z with z | z
      ·exact .inr (s2.free (hfr c z).1)
      ·rw[ik z];exact .inr (s2.free YM)
    have hole:∀{v:V} {d:PyData},aE K PX H v d->aE K (λc=>PX c∨Pl D2 (ls++[l4]) c) (upd H7 D2 (.lst (ys++[.ref u]))) v d:=λh=>vz h Z1 S8
    have f5:H3 l5=none:=u0.free (u4.free n5);have fu:H3 u=none:=u0.free (u4.free (u5.free nu));exact⟨u,.ref l0,x1,x2,x3,.ref l5,v4,rfl,nw u fu k4u.symm mu,gen _ _ mu g6,aE.lst (nw l0 n0 ZX m0) (gen _ _ m0 (u6 _ _ (u5 _ _ (u4 _ _ g0)))) ⟨R0.1,λi y d h1 h2=>hole (R0.2 i y d h1 h2)⟩,hole r1,hole r2,hole r3,aE.lst (nw l5 f5 ZY.symm m5) (gen _ _ m5 (u6 _ _ g5)) ⟨R5.1,λi y d h1 h2=>hole (R5.2 i y d h1 h2)⟩,gen _ _ m4 (u6 _ _ (u5 _ _ g4)),⟨R4.1,λi y d h1 h2=>hole (R4.2 i y d h1 h2)⟩⟩
 rintro ys H3 ⟨s3,d3,hl,ls,lls,hnd,hfr,hI⟩;refine⟨Vt,λb nb=>?_⟩;have u1:=sN nb (.tup [.ref D,.ref D2]);have g1:=uS (H:=H3) (a:=b) (o:=.tup [.ref D,.ref D2]);generalize upd H3 b (.tup [.ref D,.ref D2])=H4 at u1 g1
 have qk:∀c,Pl D2 ls c->H2 c=none:=λc z=>by
  rcases z with rfl | z
  ·exact JS
  ·exact(hfr c z).1
 have there:∀c,Pl D2 ls c->∃o,H3 c=some o:=λc z=>by
  rcases z with rfl | z
  ·exact⟨_,d3⟩
  ·obtain⟨k,hk⟩:=aa9 z;have ZZ:=(bz hk).1;obtain⟨_,_,_,_,_,_,rv,_,_,_,_,_,_,_,_,h9,_⟩:=hI k _ c _ (cW (by omega)) hk (cW (by omega));exact⟨_,h9⟩
 have S3':=s2.trans s3
 obtain⟨l4,Qz,hC⟩:=Qy (K:=K) (P:=PX) (ms:=ms) hp g1 (λz=>by
  rcases z with z | z
  ·exact fr b (S3'.free nb) z
  ·obtain⟨o,e⟩:=there b z;rw[nb]at e;cases e) (vz rM (λc z=>z.imp id (qk c)) (s3.trans u1)) (u1 _ _ d3) hnd (λz=>(hfr D2 z).2 rfl) (λc z=>fr c (s2.free (qk c z))) (by omega) (by omega) λk y l p hy hl' hp'=>(hI k y l p hy hl' hp').grow (λc o n e=>⟨n,u1 c o e⟩) λo e=>u1 l o e
 exact q b l4 H4 (s2.trans (s3.trans u1)) (s2.free (hfr l4 (aan Qz)).1) hC
theorem gm:aI ["_law_makes_here","_law_part_here","_law_stand","_law_kind_here"] ["_law_makes_here","_law_part_here","_law_stand"] (dS eQ):=by walk_at "sc"
theorem oM{f:Addr}{fd:FuncData}(F:gf K "_law_right_stand" "_law_right_stand" eQ f fd)(aO:mg "len"=none)(dN:bM P w K mg base bf "_law_fields" 1 ["_law_makes_here","_law_c"] (cK K)):bB P w K mg base bf 2 f fd ["_law_makes_here","_law_part_here","_law_stand"] (cE K):=by
 refine F.ok gm (λvs H Q E h=>?_) (λcdv A outer s H vs Q E hr h=>?_)
 ·obtain⟨PP,ds,hP,hv,ms,zs,p,s,rfl,g,l1,l2,q⟩:=h;exact hv.1
 obtain⟨PP,ds,hP,hv,ms,zs,p,s,rfl,g,l1,l2,q⟩:=h;refine aP hP hv ?_;show gZ _ _ _ _ [some _,some _,some _,none] [];clear hP hv;have gl:=g.len;have em:=dU ms;have ept:=cC p;unfold zu at q;refine ah (aG (wa.dt (qE (kH (hr.units) (aT rfl aO (aa (aj (n:=0) (ae 2)) af)) (aj (n:=2) (ae 1))) (px (vb (aT rfl aO (aa (aj (n:=1) (ae 2)) af)) (aj (n:=3) (ae 1)))))) (au (ax fc)) ay) (λR kk=>?_);rw[ept,jJ];walk_at "vc";rw[List.length_map,List.length_map];refine eO (λh1=>cT ?_) (λh1=>bO (λh2=>?_) (λh2=>kk _ _ ?_))
 ·rw[aax (by omega)]at q;exact q
 ·rw[aau (show s.1.length=p.boxes by omega),aax (by omega)]at q;exact q
 rw[aau (show s.1.length=p.boxes by omega),aau (show s.2.length<=p.height by omega),abh,abh]at q;clear kk R;refine ah (jE aa7 rfl (rZ (aL (aj (n:=0) (ae 2)) (aj (n:=1) (ae 2)))) (bZ (i:=3) gm.nd rfl (aad rfl)) (cI (aG (wa.dt (pA (kW (aj (n:=0) (ae 3)) (av (aa aA (aa aA af))) rfl) (jC (ff (g9 oN qw (cZ λ_ _ _=>.bl _) (cZ λ_ _ _=>.bl _) aq (aj (n:=1) (ae 3)) (aT rfl aO (aa (ae 0) af))))))) (au (ax fc)) ay)
   (au (aG (wa.dt (pA (bH (hr.units) (aj (n:=0) (ae 3)) aA) (jC (ff (g9 oN qw (cZ λ_ _ _=>.bl _) (cZ λ_ _ _=>.bl _) aq (aj (n:=2) (ae 3)) (uZ aq (aT rfl aO (aa (aw dN i3 iZ (hr.mono (by decide)) rfl (aa (ae 0) (aa (aj (n:=1) (ae 3)) af))) af)))))))) (au (ax fc)) ay)))) (λR kk=>?_)
 walk_at "vc";rw[← abB,aaa,aaa];refine⟨by omega,?_⟩;refine gu (λi env st=>∃(o3:Option DV),env=[some (.dat (cV ms)),some (.dat (.tuple [.list (fE p.takes),.tuple (DF p.gives),.int (p.boxes:Int),.int (p.height:Int),.list (p.rows.map qI),.list (p.spans.map Vp)])),some (.dat (.tuple [.tuple (bw s.1),.tuple (bw s.2)])),o3]/\st=[]/\(((s.1++s.2).take i).all (kK zs))=true) ⟨_,rfl,rfl,rfl⟩ (λ_ _ _ _=>trivial) ?_ ?_
 ·rintro i env st d hd ⟨o3,rfl,rfl,ha⟩;obtain⟨k,hk,rfl⟩:=dZ hd
  have no:kK zs k=false->(s.1++s.2).all (kK zs)=false:=λh=>by
   cases e:(s.1++s.2).all (kK zs)with
   | false=>rfl
   | true=>rw[B3 e hk]at h;cases h
  have yes:kK zs k=true->((s.1++s.2).take (i + 1)).all (kK zs)=true:=λh=>by
   rw[acx,hk,List.all_append,ha];show(true&&(kK zs k&&true))=true;rw[h];rfl
  cases k with
  | any =>
   rw[show ui .any=[.str "any"]from rfl];walk_at "vc";exact⟨⟨rfl,rfl⟩,gk (by decide +kernel) (dI (gk (by decide +kernel) (dI ⟨_,rfl,rfl,yes rfl⟩)))⟩
  | num =>
   rw[show ui .num=[.str "number"]from rfl];walk_at "vc";exact⟨⟨rfl,rfl⟩,gk (by decide +kernel) (dI (gk (by decide +kernel) (dI ⟨_,rfl,rfl,yes rfl⟩)))⟩
  | whole c =>
   rw[show ui (.whole c)=[.str "whole",.int c]from rfl,em];walk_at "vc";rw[aaa];refine⟨⟨rfl,rfl⟩,B6 (by decide +kernel) (bO (λh0=>eO (λh1=>?_) (λh1=>gk (by decide +kernel) (dI ⟨_,rfl,rfl,yes (aau ⟨h0,by omega⟩)⟩))) (λh0=>yF rfl ?_))⟩
   ·rw[no (Ak (by omega))]at q;exact q
   ·rw[no (Ak (by omega))]at q;exact q
  | raw c m =>
   rw[show ui (.raw c m)=[.str "raw",.int c,.int m]from rfl,em];walk_at "vc";rw[aaa];refine⟨⟨rfl,rfl⟩,B6 (by decide +kernel) (bO (λh0=>eO (λh1=>?_) (λh1=>B6 (by decide +kernel) (bO (λh2=>?_) (λh2=>yF rfl ?_)))) (λh0=>yF rfl ?_))⟩
   ·rw[no (yG (by omega))]at q;exact q
   ·obtain⟨n,rfl⟩:∃n:Nat,c=(n:Int):=⟨c.toNat,by omega⟩;have hz:zs[n]?=some (zs[n]'(by omega)):=cW (by omega);have z6:=g.six _ (List.getElem_mem (show n < zs.length by omega));generalize zs[n]'(by omega)=z at hz z6;have hsz:sizeOf zs (n:Int)=z:=by unfold sizeOf;rw[Int.toNat_natCast,hz];rfl
    refine⟨ms,zs,n,z,rfl,g,hz,λxs hx=>?_⟩;walk_at "vc";rw[hx,show(1:Int) * 2 ^ ((z:Int)).toNat=((2 ^ z:Nat):Int)by rw[Int.toNat_natCast];simp];refine⟨⟨by omega,by omega,by decide⟩,eO (λh3=>?_) (λh3=>⟨_,rfl,rfl,yes ?_⟩)⟩
    ·rw[no (vy (by rw[hsz];omega))]at q;exact q
    ·show(decide _&&decide _)=true;rw[hsz,aau (show 0<=(n:Int)/\(n:Int) < (zs.length:Int)by omega),aau ⟨h2,h3⟩];rfl
   ·rw[no (vy (by omega))]at q;exact q
   ·rw[no (yG (by omega))]at q;exact q
 ·rintro env st ⟨o3,rfl,rfl,ha⟩;rw[aaa,aca]at ha;refine kk _ _ ?_;clear kk R;refine aK (ax fc) ?_;walk_at "vc";rw[ha]at q;exact q
theorem fJ:aI ["_law_makes_here","_law_part_here","_law_papers_here","_law_last","_law_at","_law_stand"] ["_law_makes_here","_law_part_here","_law_papers_here"] (dS sg):=by walk_at "sc"
theorem Az{f:Addr}{fd:FuncData}(F:gf K "_law_due" "_law_due" sg f fd)(aO:mg "len"=none)(p4:bM P w K mg base bf "_law_right_stand" 2 ["_law_makes_here","_law_part_here","_law_stand"] (cE K)):bB P w K mg base bf 3 f fd ["_law_makes_here","_law_part_here","_law_papers_here"] (jR K):=by
 refine F.ok fJ (λvs H Q E h=>?_) (λcdv A outer s H vs Q E hr h=>?_)
 ·obtain⟨PP,ds,hP,hv,ms,zs,p,pps,rfl,g,hl,q,x⟩:=h;exact hv.1
 obtain⟨PP,ds,hP,hv,ms,zs,p,pps,rfl,g,hl,q,x⟩:=h;refine aP hP hv ?_;show gZ _ _ _ _ [some _,some _,some _,none,none,none] [];clear hP hv;have em:=dU ms;have ept:=cC p;refine ah (az (i:=3) fJ.nd rfl (aad rfl) (jA aq)) (λR kk=>?_);walk_at "vc";refine kk _ _ ?_;clear kk R;refine ah (jE aa7 rfl (rZ (ae 2)) (vm (m:=2) rfl (dM (bZ (i:=4) fJ.nd rfl (aad rfl)) (dM (bZ (i:=5) fJ.nd rfl (aad rfl)) qG))) (cI (aG (wa.dt (qE (ff (g9 qw qw (cZ λ_ _ _=>.bl _) (cZ λ_ _ _=>.bl _) (ae 3) (ae 4) (aT rfl aO (aa (aj (n:=4) (ae 1)) af)))) (px (ff (pq (aw p4 pW pV (hr.mono (by decide)) rfl (aa (ae 0) (aa (ae 1) (aa (ae 5) af))))))))) (au (ax (ae 4))) ay)
   (au (az (i:=3) fJ.nd rfl (aad rfl) (ae 4))))) (λR kk=>?_)
 walk_at "vc";refine gu (λi env st=>∃(last:Int) (o4 o5:Option DV),env=[some (.dat (cV ms)),some (.dat (kI p)),some (.dat (.list (pps.map i8))),some (.dat (.int last)),o4,o5]/\st=[]/\bad zs p.boxes p.height p.rows.length 0 pps=bad zs p.boxes p.height p.rows.length (last + 1) (pps.drop i)) ⟨-1,_,_,rfl,rfl,rfl⟩ (λ_ _ _ _=>trivial) ?_ ?_
 ·rintro i env st d hd ⟨last,o4,o5,rfl,rfl,hb⟩;obtain⟨pp,hpp,rfl⟩:=dZ hd;obtain⟨b1,b2⟩:=hl pp (aan hpp);rw[DH hpp,qL]at hb;rw[show i8 pp=.tuple [.int pp.1,iz pp.2]from rfl];have no:N2 zs p.boxes p.height p.rows.length (last + 1) pp=false->∀(v:V) (H':Hp),aS H H'->aE K PP H' v (.int pp.1)->Q v H':=λh=>x pp.1 (by rw[hb,h];rfl)
  unfold N2 at no hb;walk_at "vs";refine⟨rfl,iw (λR1 k1=>?_)⟩;rw[ept];walk_at "vs";rw[List.length_map];refine bO (λh0=>eO (λh1=>cT (no ?_)) (λh1=>?_)) (λh0=>yF rfl (cT (no ?_)))
  ·rw[aax h1,Bool.false_and,aco]
  ·refine⟨ms,zs,p,pp.2,by rw[ept],g,b1,b2,?_⟩;rw[aau (show last + 1<=pp.1 by omega),aau h1,abh,abh]at no hb;walk_at "vs"
   cases hs:zu zs p.boxes p.height pp.2 with
   | false=>exact yF rfl (no hs)
   | true =>
    refine lE rfl (k1 _ _ ?_);clear k1 R1;walk_at "vs";rw[aaD hs]at hb;exact⟨_,_,_,rfl,rfl,hb⟩
  ·rw[aax (by omega)];rfl
 ·rintro env st ⟨last,o4,o5,rfl,rfl,hb⟩;rw[aaa,List.drop_length]at hb;refine kk _ _ ?_;clear kk R;refine aK (ax bS) ?_;walk_at "vc";exact q hb
theorem bJ:aI ["_law_script","_law_part_here","_law_cell_here","_law_boxes","_law_papers_here","_law_at","_law_k"] ["_law_script","_law_part_here"] (dS jG):=by walk_at "sc"
theorem vH{f:Addr}{fd:FuncData}(F:gf K "_law_papers" "_law_papers" jG f fd)(dh:mg "enumerate"=none)(oW:mg "int"=none)(aO:mg "len"=none)(AD:mg "max"=none)(cc:mg "range"=none)(j2:mg "tuple"=none)(br:bM P w K mg base bf "_law_cell" 2 ["_law_script","_law_k"] (eD K))(aD:bM P w K mg base bf "_law_mixed" 1 ["_law_cell_here","_law_k"] (bE K)):bB P w K mg base bf 3 f fd ["_law_script","_law_part_here"] (fw K):=by
 refine F.ok bJ (λvs H Q E h=>?_) (λcdv A outer s H vs Q E hr h=>?_)
 ·obtain⟨PP,ds,hP,hv,ns,p,zs,rfl,hn,hB,q⟩:=h;exact hv.1
 obtain⟨PP,ds,hP,hv,ns,p,zs,rfl,hn,hB,q⟩:=h;refine aP hP hv ?_;show gZ _ _ _ _ [some _,some _,none,none,none,none,none] [];clear hP hv;have tb:=hB.tb;have bx:=hB.bx;have r2:=hB.r2;have ept:=cC p;refine ah (az (i:=2) bJ.nd rfl (abY rfl) (aw br bP bI (hr.mono (by decide)) rfl (aa (ae 0) (aa aq af)))) (λR kk=>?_);walk_at "vc";refine⟨ns,_,rfl,by decide,λc=>kk _ _ ?_⟩;clear kk R;refine ah (az (i:=3) bJ.nd rfl (aad rfl) (aL (aj (n:=0) (ae 1)) (fv (dD (aa (av (aa aA af)) af)) (cq (aj (n:=2) (ae 1)) (aT rfl aO (aa (aj (n:=0) (ae 1)) af)))))) (λR kk=>?_);rw[ept];walk_at "vc";have lk:(fE p.takes).length=p.takes.length:=aaa ..;have hm:((p.boxes:Int) - ((fE p.takes).length:Int)).toNat=p.boxes - p.takes.length:=by rw[lk];omega
 rw[hm,pR,lk];rw[List.length_replicate];refine⟨by omega,by omega,by omega,by omega,kk _ _ ?_⟩;clear kk R;rw[N3,← ept];have el:=uz tb;refine ah (az (i:=3) bJ.nd rfl (aad rfl) (zR rfl j2 (aa (zW 2 ["_law_b","_law_kind_here","_law_cell_here"] [2] ⟨rfl,rfl,rfl,rfl,rfl,rfl,rfl,rfl⟩ (Dp rfl dh (aa (ae 3) af)) (λ_ _ _ _=>(uG rfl (eG (bY (i:=0) (show List.Nodup (["_law_b","_law_kind_here","_law_cell_here"]:List Str)by decide +kernel) rfl (aad rfl)) (eG (bY (i:=1) (show List.Nodup (["_law_b","_law_kind_here","_law_cell_here"]:List Str)by decide +kernel) rfl (aad rfl)) qt)))) (Lr (m:=2) (gY (qF (i:=0)) (gY (qF (i:=1)) yA))) (P1 (jf (vn (by decide)) (jf (vn (by decide)) yt))) (λ_ _ _ _=>⟨kY,(bj (dD (aa (ae 1) (aa (av (aa aA af)) af))) (vg rfl oW (aa (qD (hr.units) (aU (aw aD aR aM (hr.mono (by decide)) rfl (aa (ae 2) (aa (ae 0) af))) aq) aq) af)) (λ_ _=>rfl))⟩)) af))) (λR kk=>?_);walk_at "vc";refine zV (λi ys=>∃B:List KI,ys=bw B/\B.length=i/\∀(t:Nat) k o,(B5 p)[t]?=some k->B[t]?=some o->o=.any∨o=k) (by rw[oh,aaa];omega) ⟨[],rfl,rfl,λt k o _ h=>by cases h⟩ ?_ ?_
 ·rintro i ys d hd ⟨B,rfl,lB,Vq⟩;obtain⟨x,hx,rfl⟩:=vj hd;obtain⟨k,hk,rfl⟩:=dZ hx;have hi:=(bz hk).1
  have nxt:∀o:KI,(o=.any∨o=k)->∃B':List KI,bw B++[PyData.tuple (ui o)]=bw B'/\B'.length=i + 1/\∀(t:Nat) k o,(B5 p)[t]?=some k->B'[t]?=some o->o=.any∨o=k:=by
   intro o ho;refine⟨B++[o],by unfold bw;rw[List.map_append];rfl,by simp[lB],λt k' o' h1 h2=>?_⟩;by_cases ht:t < B.length
   ·rw[aae ht]at h2;exact Vq t k' o' h1 h2
   ·have e:t=B.length:=by
     have:=(bz h2).1;simp at this;omega
    subst e;rw[aam (aaj _),aa3]at h2;cases h2;rw[lB,hk]at h1;cases h1;exact ho
  walk_at "vc";refine⟨rfl,rfl,rfl,?_⟩;rw[aaD rfl];walk_at "vc";refine⟨_,_,rfl,by omega,by omega,λv _ _=>?_⟩;walk_at "vc";refine⟨by decide,?_⟩;split
  ·exact⟨_,rfl,rfl,nxt .any (.inl rfl)⟩
  ·exact⟨_,rfl,rfl,nxt k (.inr rfl)⟩
 rintro ys ⟨B,rfl,lB,Vq⟩;rw[oh,aaa]at lB;have uB:Up (B5 p) B:=⟨lB,Vq⟩
 have oB:B.all (kK zs)=true:=by
  rw[aa1];intro o ho;obtain⟨t,ht⟩:=aa9 ho;have hl:=(bz ht).1;rcases Vq t _ o (cW (by omega)) ht with rfl | rfl
  ·rfl
  ·exact aa1.mp (Il hB) _ (ab8 _)
 walk_at "vc";refine kk _ _ ?_;clear kk R;refine ah (az (i:=4) bJ.nd rfl (aad rfl) (iu af)) (λR kk=>?_);walk_at "vc";refine kk _ _ ?_;clear kk R;refine ah (az (i:=5) bJ.nd rfl (aad rfl) aq) (λR kk=>?_);walk_at "vc";refine kk _ _ ?_;clear kk R;refine ah (jE aa7 rfl (je rfl cc (aa (PR rfl rfl AD (aa (aT rfl aO (aa (eB (ae 0) (bD aq) (bD aq)) af)) (aa (aU (ae 2) aq) af))) af)) (bZ (i:=6) bJ.nd rfl (aad rfl)) (cI (az (i:=5) bJ.nd rfl (aad rfl) (aL (ae 5) (pj aq (aL (aU (aw aD aR aM (hr.mono (by decide)) rfl (aa (aw br bP bI (hr.mono (by decide)) rfl (aa (ae 0) (aa (aL aq (ae 6)) af))) (aa aq af))) aq) (vg rfl oW (aa (NK (ae 6) aq) af))))))
   (au (aG (oS (ae 5) (aT rfl aO (aa (aj (n:=4) (ae 1)) af))) (au (bT (bq (ae 4) (aa (av (aa (ae 5) (aa (av (aa (ae 3) (aa (av af) af))) af))) af)))) ay)))) (λR kk=>?_)
 walk_at "vc"
 obtain⟨N,eN,hN⟩:∃N:Nat,(if c % 5 > ((cutD (ns.map PyData.int) (some 8) (some 32)).length:Int)then c % 5 else((cutD (ns.map PyData.int) (some 8) (some 32)).length:Int))=(N:Int)/\N<=63:=by
  have h1:=LU (ns.map PyData.int) (some 8) (some 32);rw[aaa]at h1;generalize (cutD (ns.map PyData.int) (some 8) (some 32)).length=L at h1;obtain⟨y,ey,hy⟩:=e9 c (m:=5) (n:=5) rfl (by decide);rw[ey];by_cases h:(y:Int) > (L:Int)
  ·exact⟨y,by rw[aaD h],by omega⟩
  ·exact⟨L,by rw[aaF h],by omega⟩
 rw[eN,acv];refine⟨by decide,⟨by omega,by omega⟩,?_⟩;refine gu (λi env st=>∃(pps:List Pp) (at':Int) (o6:Option DV),env=[some (.dat (.list (ns.map PyData.int))),some (.dat (kI p)),some (.dat (.int c)),some (.dat (.tuple (bw B))),some (.ref 0),some (.dat (.int at')),o6]/\st=[.live (pps.map i8)]/\at' % 2=0/\0<=at'/\(∀x∈pps,x.2=(B,[])/\x.1 % 2=0/\0<=x.1/\x.1 < (p.rows.length:Int)/\x.1<=at')/\(pps.map (·.1)).Pairwise (· < ·)/\pps.length<=i) ⟨[],0,_,rfl,rfl,rfl,by decide,(λx hx=>nomatch hx),List.Pairwise.nil,aaj _⟩ (λ_ _ _ _=>trivial) ?_ ?_
 ·rintro i env st d hd ⟨pps,at',o6,rfl,rfl,a2,a0,hall,hpw,hle⟩;obtain⟨hi,rfl⟩:=jD hd;walk_at "vs";refine iw (λR1 k1=>?_);walk_at "vs";refine⟨ns,i + 8,by rw[show(8:Int) + (0 + (i:Int))=((i + 8:Nat):Int)by omega],by omega,λc1=>?_⟩;walk_at "vs";refine⟨_,_,rfl,by decide,by decide,λv _ _=>?_⟩;walk_at "vs";obtain⟨y,ey,hy⟩:=e9 v (m:=3) (n:=3) rfl (by decide);rw[ey]
  obtain⟨t,et,ht⟩:∃t:Nat,(if decide ((0:Int) < 0 + (i:Int))=true then(1:Int)else 0)=(t:Int)/\(0 < i->0 < t):=by
   by_cases h:(0:Int) < 0 + (i:Int)
   ·exact⟨1,by rw[aaD (aau h)];rfl,λ_=>by decide⟩
   ·exact⟨0,by rw[aaF (λz=>h (abG z))];rfl,λz=>by omega⟩
  rw[et];refine⟨by decide,.inl (.inl ⟨by decide,by decide⟩),k1 _ _ ?_⟩;clear k1 R1;rw[ept];walk_at "vs";rw[aaa];have ev:(at' + 2 * ((y:Int) + (t:Int))) % 2=0:=by omega
  have big:∀x∈pps,x.1 < at' + 2 * ((y:Int) + (t:Int)):=λx hx=>by
   have h1:=(hall x hx).2.2.2.2
   have:0 < i:=by
    have:=List.length_pos_of_mem hx;omega
   have:=ht this;omega
  have nn:0<=at' + 2 * ((y:Int) + (t:Int)):=by omega
  generalize at' + 2 * ((y:Int) + (t:Int))=a' at ev big nn
  have all':∀x∈pps,x.2=(B,[])/\x.1 % 2=0/\0<=x.1/\x.1 < (p.rows.length:Int)/\x.1<=a':=λx hx=>by
   obtain⟨h1,h2,h3,h4,_⟩:=hall x hx;exact⟨h1,h2,h3,h4,Int.le_of_lt (big x hx)⟩
  refine bO (λh=>?_) (λh=>⟨pps,a',_,rfl,rfl,ev,nn,all',hpw,by omega⟩);refine⟨rfl,by rw[List.length_map];omega,pps++[(a',(B,[]))],a',_,rfl,by rw[List.map_append];rfl,ev,nn,λx hx=>?_,?_,by simp;omega⟩
  ·rcases aaN.mp hx with z | z
   ·exact all' x z
   ·rw[ik z];exact⟨rfl,ev,nn,h,Int.le_refl _⟩
  ·rw[abB,List.pairwise_append];refine⟨hpw,List.pairwise_singleton _ _,λa ha b hb=>?_⟩;obtain⟨x,hx,rfl⟩:=abp.mp ha;rw[ik hb];exact big x hx
 ·rintro env st ⟨pps,at',o6,rfl,rfl,a2,a0,hall,hpw,hle⟩;rw[c9]at hle;refine kk _ _ ?_;clear kk R;refine aK (ax (ae 4)) ?_;walk_at "vc";exact q pps ⟨⟨B,uB,oB,λx hx=>⟨(hall x hx).1,(hall x hx).2.1,(hall x hx).2.2.1,(hall x hx).2.2.2.1⟩⟩,hpw,by omega⟩
theorem wC:aI ["_law_found"] ["_law_found"] (dS lh):=by walk_at "sc"
theorem wD{f:Addr}{fd:FuncData}(F:gf K "_law_whole" "_law_whole" lh f fd)(vI:mg "bool"=none)(oW:mg "int"=none)(bF:mg "isinstance"=none)(qZ:IsT K "bool" (Dt "bool"))(vJ:IsT K "int" Lx):bB P w K mg base bf 1 f fd ["_law_found"] (gA K):=by
 refine F.ok wC (λvs H Q E h=>?_) (λcdv A outer s H vs Q E hr h=>?_)
 ·obtain⟨PP,ds,hP,hv,x,rfl,q⟩:=h;exact hv.1
 obtain⟨PP,ds,hP,hv,x,rfl,q⟩:=h;refine aP hP hv ?_;show gZ _ _ _ _ [some _] [];clear hP hv;refine aK (ax (oa (HJ vJ rfl bF rfl oW Gs (ae 0)) (kX (Lk (HJ qZ rfl bF rfl vI Kx (ae 0)))))) ?_;walk_at "vc";rw[show(!("int" == "bool"))=true by decide];exact B6 (by decide) q
theorem j3:aI ["makes","c","elders"] ["makes","c"] (dS lj):=by walk_at "sc"
theorem zd{f:Addr}{fd:FuncData}(F:gf K "elders_of" "elders_of" lj f fd):bB P w K mg base bf 1 f fd ["makes","c"] (eT K):=by
 refine F.ok j3 (λvs H Q E h=>?_) (λcdv A outer s H vs Q E hr h=>?_)
 ·obtain⟨PP,ds,hP,hv,ms,c,rfl,hw,hc,q⟩:=h;exact hv.1
 obtain⟨PP,ds,hP,hv,ms,c,rfl,hw,hc,q⟩:=h;refine aP hP hv ?_;show gZ _ _ _ _ [some _,some _,none] [];clear hP hv;refine ah (az (i:=2) j3.nd rfl (aad rfl) (iu af)) (λR kk=>?_);walk_at "vc";refine kk _ _ ?_;clear kk R;refine ah (zX aa7 (jB (ae 1) bS) (cI (bT (bq (ae 2) (aa (ae 1) af)))
   (au (az (i:=1) j3.nd rfl (aad rfl) (aj (n:=0) (bj (ae 0) (ae 1) (λ_ _=>rfl))))))) (λR kk=>?_)
 refine Ds (λm env st=>∃(cur:Option Nat) (pre:List Nat),env=[some (.dat (cV ms)),some (.dat (Af cur)),some (.ref 0)]/\st=[.live (dw pre)]/\(∀j,cur=some j->j < ms.length)/\pre++rest ms cur=eR ms c/\m=(match cur with | some j=>j + 1 | none=>0)) ⟨_,some c,[],rfl,rfl,λj hj=>by cases hj;exact hc,rfl,rfl⟩ ?_;rintro m env st ⟨cur,pre,rfl,rfl,hj,he,rfl⟩
 cases cur with
 | none =>
  rw[show Af none=.none from rfl];walk_at "vs";refine dI (kk _ _ ?_);clear kk R;refine aK (ax (ae 2)) ?_;walk_at "vc";rw[show pre=eR ms c by rw[← he];simp[rest]];exact q
 | some j =>
  rw[show Af (some j)=.int (j:Int)from rfl];walk_at "vs";refine cT ?_;obtain⟨mk,hm,hel,hlt⟩:=hw.el (hj j rfl)
  have l8:pre.length<=100:=by
   have h1:=(sr hw c hc).1;have h2:(pre++rest ms (some j)).length=(eR ms c).length:=by rw[he]
   have h3:=hw.few;rw[abd]at h2;omega
  rw[show cV ms=.list (ms.map BZ)from rfl];walk_at "vc";refine⟨rfl,by rw[oj];omega,_,bg (f:=BZ) hm,?_⟩;rw[show BZ mk=.tuple [Af mk.1,.list (fE mk.2)]from rfl];walk_at "vc";refine⟨_,?_,mk.1,pre++[j],rfl,by rw[xv],λi hi=>?_,?_,rfl⟩
  ·cases e:mk.1 with
   | none=>exact abQ _
   | some i=>have:=hlt i e;show i + 1 < j + 1;omega
  ·have:=hlt i hi;have:=hj j rfl;omega
  ·rw[← he,List.append_assoc];show pre++(j::rest ms mk.1)=pre++eR ms j;rw[iy hw (hj j rfl),hel]
theorem gH:aI ["makes","c","fields","elder"] ["makes","c"] (dS lq):=by walk_at "sc"
theorem ze{f:Addr}{fd:FuncData}(F:gf K "fields_of" "fields_of" lq f fd)(dE:mg "list"=none)(lN:bM P w K mg base bf "elders_of" 1 ["makes","c"] (eT K)):bB P w K mg base bf 2 f fd ["makes","c"] (gB K):=by
 refine F.ok gH (λvs H Q E h=>?_) (λcdv A outer s H vs Q E hr h=>?_)
 ·obtain⟨PP,ds,hP,hv,ms,zs,c,z,rfl,g,hz,q⟩:=h;exact hv.1
 obtain⟨PP,ds,hP,hv,ms,zs,c,z,rfl,g,hz,q⟩:=h;refine aP hP hv ?_;show gZ _ _ _ _ [some _,some _,none,none] [];clear hP hv;have hc:c < ms.length:=by rw[g.len];exact(bz hz).1
 refine ah (az (i:=2) gH.nd rfl (Or.inl rfl) (dD af)) (λR kk=>?_);walk_at "vc";refine kk _ _ ?_;clear kk R;refine ah (jE PassesOwn.never rfl (rZ (aw lN qT qS (hr.mono (by decide)) rfl (aa (ae 0) (aa (ae 1) af)))) (bZ (i:=3) gH.nd rfl (Or.inl rfl)) (au (az (i:=2) gH.nd rfl (Or.inl rfl) (aL (Di rfl dE (aa (aj (n:=1) (bj (ae 0) (ae 3) (λ_ _=>rfl))) af)) (ae 2))))) (λR kk=>?_);walk_at "vc";refine⟨ms,c,rfl,g.wf,hc,?_⟩;refine gu (λi env st=>∃(xs:List PyData) (o3:Option DV),env=[some (.dat (cV ms)),some (.dat (.int (c:Int))),some (.dat (.list xs)),o3]/\st=[]/\xs.length=(jh ms ((eR ms c).take i)).length/\xs.length<=50 * i) ⟨[],_,rfl,rfl,rfl,by simp⟩ (λ_ _ _ _=>trivial) ?_ ?_
 ·rintro i env st d hd ⟨xs,o3,rfl,rfl,hl,h50⟩;obtain⟨j,hj,rfl⟩:=dZ hd;have hel:j < ms.length:=by have:=(sr g.wf c hc).2 j (aan hj);omega
  have hm:=cW hel
  have hi8:i < 8:=by
   have h1:=(sr g.wf c hc).1;have h2:=g.wf.few;have h3:=(bz hj).1;omega
  have own:ownOf ms j=(ms[j]).2:=by unfold ownOf;rw[hm]
  have l6:=g.Um j _ hm;rw[dU];walk_at "vc";refine⟨_,bg (f:=BZ) hm,?_⟩;rw[show BZ ms[j]=.tuple [Af ms[j].1,.list (fE ms[j].2)]from rfl];walk_at "vc";refine⟨by rw[List.length_map];omega,?_⟩;refine⟨_,_,rfl,rfl,?_,by rw[List.length_append,List.length_map];omega⟩;obtain⟨h1,h2⟩:=bz hj;rw[jI,List.take_succ_eq_append_getElem h1,h2,List.reverse_append,List.map_append,List.flatten_append,List.length_append,List.length_append,hl,jI,List.length_map];simp[own]
 ·rintro env st ⟨xs,o3,rfl,rfl,hl,_⟩;rw[oj,aca]at hl;refine kk _ _ ?_;clear kk R;refine aK (ax (ae 2)) ?_;walk_at "vc";refine q xs ?_;obtain⟨z',h1,h2⟩:=g.B0 c hc;rw[hz]at h1;cases h1;rw[hl];exact h2
theorem zf:aI ["makes","c"] ["makes","c"] (dS lx):=by walk_at "sc"
theorem zg{f:Addr}{fd:FuncData}(F:gf K "full_mask" "full_mask" lx f fd)(aO:mg "len"=none)(AF:bM P w K mg base bf "fields_of" 2 ["makes","c"] (gB K)):bB P w K mg base bf 3 f fd ["makes","c"] (gE K):=by
 refine F.ok zf (λvs H Q E h=>?_) (λcdv A outer s H vs Q E hr h=>?_)
 ·obtain⟨PP,ds,hP,hv,ms,zs,c,z,rfl,g,hz,q⟩:=h;exact hv.1
 obtain⟨PP,ds,hP,hv,ms,zs,c,z,rfl,g,hz,q⟩:=h;refine aP hP hv ?_;show gZ _ _ _ _ [some _,some _] [];clear hP hv;refine aK (ax (cq (uZ aq (aT rfl aO (aa (aw AF yP yO (hr.mono (by decide)) rfl (aa (ae 0) (aa (ae 1) af))) af))) aq)) ?_;walk_at "vc";have h6:=g.six z (List.mem_of_getElem? hz);refine⟨ms,zs,c,z,rfl,g,hz,λxs hx=>⟨⟨by omega,by omega,by decide⟩,?_⟩⟩;rw[show(1:Int) * 2 ^ ((xs.length:Int)).toNat=((2 ^ z:Nat):Int)by rw[Int.toNat_natCast,hx];simp];exact q
theorem Cd:aI ["makes","kind"] ["makes","kind"] (dS si):=by walk_at "sc"
theorem Cf{f:Addr}{fd:FuncData}(F:gf K "is_kind" "is_kind" si f fd)(aO:mg "len"=none)(sY:bM P w K mg base bf "full_mask" 3 ["makes","c"] (gE K)):bB P w K mg base bf 4 f fd ["makes","kind"] (jS K):=by
 refine F.ok Cd (λvs H Q E h=>?_) (λcdv A outer s H vs Q E hr h=>?_)
 ·obtain⟨PP,ds,hP,hv,ms,zs,k,rfl,g,q⟩:=h;exact hv.1
 obtain⟨PP,ds,hP,hv,ms,zs,k,rfl,g,q⟩:=h;refine aP hP hv ?_;show gZ _ _ _ _ [some _,some _] [];clear hP hv;refine ah (aG (kW (aj (n:=0) (ae 1)) (av (aa aA (aa aA af))) rfl) (au (ax fc)) ay) (λR kk=>?_)
 cases k with
 | any =>
  rw[show ui .any=[.str "any"]from rfl];walk_at "vc";exact⟨⟨rfl,rfl⟩,B6 (by decide +kernel) q⟩
 | num =>
  rw[show ui .num=[.str "number"]from rfl];walk_at "vc";exact⟨⟨rfl,rfl⟩,B6 (by decide +kernel) q⟩
 | whole c =>
  have gl:=g.len;have e0:kK zs (.whole c)=decide (0<=c/\c < (zs.length:Int)):=rfl;rw[e0]at q;rw[show ui (.whole c)=[.str "whole",.int c]from rfl];walk_at "vc";refine⟨⟨rfl,rfl⟩,gk (by decide +kernel) (kk _ _ ?_)⟩;clear kk R;refine ah (aG (ff (g9 oN qw (cZ λ_ _ _=>.bl _) (cZ λ_ _ _=>.bl _) aq (aj (n:=1) (ae 1)) (aT rfl aO (aa (ae 0) af)))) (au (ax fc)) ay) (λR kk=>?_);rw[dU];walk_at "vc";rw[aaa];refine bO (λh0=>eO (λh1=>?_) (λh1=>kk _ _ ?_)) (λh0=>yF rfl ?_)
  ·rw[aax (by omega)]at q;exact q
  ·clear kk R;rw[aau ⟨h0,by omega⟩]at q;refine aK (ax (Hl (qD (hr.units) (aj (n:=0) (ae 1)) aA) (kX (zZ oN oN (cZ λ_ _ _=>.bl _) (cZ λ_ _ _=>.bl _) aq (aj (n:=2) (ae 1)) (aw sY qV qU (hr.mono (by decide)) rfl (aa (ae 0) (aa (aj (n:=1) (ae 1)) af))))))) ?_;walk_at "vc";exact B6 (by decide +kernel) q
  ·rw[aax (by omega)]at q;exact q
 | raw c m =>
  have gl:=g.len;have e0:kK zs (.raw c m)=(decide (0<=c/\c < (zs.length:Int))&&decide (0<=m/\m < ((2 ^ sizeOf zs c:Nat):Int))):=rfl;rw[e0]at q;rw[show ui (.raw c m)=[.str "raw",.int c,.int m]from rfl];walk_at "vc";refine⟨⟨rfl,rfl⟩,gk (by decide +kernel) (kk _ _ ?_)⟩;clear kk R;refine ah (aG (ff (g9 oN qw (cZ λ_ _ _=>.bl _) (cZ λ_ _ _=>.bl _) aq (aj (n:=1) (ae 1)) (aT rfl aO (aa (ae 0) af)))) (au (ax fc)) ay) (λR kk=>?_);rw[dU];walk_at "vc";rw[aaa];refine bO (λh0=>eO (λh1=>?_) (λh1=>kk _ _ ?_)) (λh0=>yF rfl ?_)
  ·rw[aax (by omega)]at q;exact q
  ·clear kk R;rw[aau ⟨h0,by omega⟩,abh]at q;obtain⟨n,rfl⟩:∃n:Nat,c=(n:Int):=⟨c.toNat,by omega⟩;have hn:n < zs.length:=by omega
   have hz:zs[n]?=some zs[n]:=cW hn;have hs:sizeOf zs (n:Int)=zs[n]:=by unfold sizeOf;rw[Int.toNat_natCast,hz];rfl
   rw[hs]at q;refine aK (ax (Hl (qD (hr.units) (aj (n:=0) (ae 1)) aA) (kX (zZ oN oN (cZ λ_ _ _=>.bl _) (cZ λ_ _ _=>.bl _) aq (aj (n:=2) (ae 1)) (aw sY qV qU (hr.mono (by decide)) rfl (aa (ae 0) (aa (aj (n:=1) (ae 1)) af))))))) ?_;rw[← dU];walk_at "vc";refine gk (by decide +kernel) ?_;refine bO (λh2=>⟨ms,zs,n,_,rfl,g,hz,?_⟩) (λh2=>?_)
   ·have e1:decide (0<=m/\m < ((2 ^ zs[n]:Nat):Int))=decide (m<=((2 ^ zs[n]:Nat):Int) - 1):=by
     rw[Bool.eq_iff_iff,decide_eq_true_iff,decide_eq_true_iff];exact⟨λz=>by omega,λz=>⟨h2,by omega⟩⟩
    rw[e1]at q;exact q
   ·rw[aax (λz=>h2 z.1)]at q;exact q
  ·rw[aax (by omega)]at q;exact q
theorem AH:aI ["book","part","stand"] ["book","part","stand"] (dS pM):=by walk_at "sc"
theorem AJ{f:Addr}{fd:FuncData}(F:gf K "is_stand" "is_stand" pM f fd)(sZ:mg "all"=none)(aO:mg "len"=none)(ET:bM P w K mg base bf "is_kind" 4 ["makes","kind"] (jS K)):bB P w K mg base bf 5 f fd ["book","part","stand"] (iM K):=by
 refine F.ok AH (λvs H Q E h=>?_) (λcdv A outer s H vs Q E hr h=>?_)
 ·obtain⟨PP,ds,hP,hv,ms,zs,ps,j,p,s,rfl,g,hp,l1,l2,q⟩:=h;exact hv.1
 obtain⟨PP,ds,hP,hv,ms,zs,ps,j,p,s,rfl,g,hp,l1,l2,q⟩:=h;refine aP hP hv ?_;show gZ _ _ _ _ [some _,some _,some _] [];clear hP hv;refine ah (aG (wa.dt (qE (kH (hr.units) (aT rfl aO (aa (aj (n:=0) (ae 2)) af)) (aj (n:=2) (bj (aj (n:=1) (ae 0)) (ae 1) (λ_ _=>rfl)))) (px (vb (aT rfl aO (aa (aj (n:=1) (ae 2)) af)) (aj (n:=3) (bj (aj (n:=1) (ae 0)) (ae 1) (λ_ _=>rfl))))))) (au (ax fc)) ay) (λR kk=>?_);unfold zu at q;rw[jJ];rw[lD];walk_at "vc";refine⟨_,bg (f:=kI) hp,?_⟩;rw[cC];walk_at "vc";rw[List.length_map];refine eO (λh1=>cT ?_) (λh1=>⟨_,bg (f:=kI) hp,?_⟩)
 ·rw[aax (by omega)]at q;exact q
 rw[cC];walk_at "vc";rw[aaa];rw[aau (show s.1.length=p.boxes by omega),abh]at q;refine bO (λh2=>?_) (λh2=>kk _ _ ?_)
 ·rw[aax (by omega)]at q;exact q
 rw[aau (show s.2.length<=p.height by omega),abh]at q;clear kk R;refine aK (ax (BW rfl rfl sZ (aa (zW 1 ["kind","book"] [0] ⟨rfl,rfl,rfl,rfl,rfl,rfl,rfl,rfl⟩ (rZ (aL (aj (n:=0) (ae 2)) (aj (n:=1) (ae 2)))) (λ_ _ _ _=>(bY (i:=0) (show List.Nodup (["kind","book"]:List Str)by decide +kernel) rfl (aad rfl))) (qF (i:=0)) (vn (by decide)) (λ_ _ _ _=>⟨kY,(aw ET Cb Ca (hr.mono (by decide)) rfl (aa (aj (n:=0) (ae 1)) (aa (ae 0) af)))⟩)) af))) ?_;walk_at "vc";rw[← abB,aaa,aaa];refine⟨by omega,?_⟩;refine N1 (s.1++s.2) (λk=>.tuple (ui k)) (λk=>.bool (kK zs k)) rfl (by rw[abd];omega) (λi k hk P N hP=>?_) ?_
 ·walk_at "vc";exact⟨rfl,rfl,cT ⟨ms,zs,k,rfl,g,rfl,hP⟩⟩
 ·walk_at "vc";refine⟨(s.1++s.2).map (kK zs),by rw[abN];rfl,?_⟩;rw[List.all_map];exact q
theorem dO:aI ["book","part","papers","least","paper","at"] ["book","part","papers"] (dS jH):=by walk_at "sc"
theorem wF{f:Addr}{fd:FuncData}(F:gf K "check_form" "check_form" jH f fd)(aO:mg "len"=none){ar:Addr}(fj:mg "NoPaper"=some (.ref ar))(fk:PySem.W.ktsIn K ar "BaseException"=true)(EU:KY P w K mg base ar ["part","at","word"])(Cg:bM P w K mg base bf "is_stand" 5 ["book","part","stand"] (iM K)):bB P w K mg base (xg P w) 6 f fd ["book","part","papers"] (fz K ar):=by
 refine F.Yx dO (λvs H Q E h=>?_) (λcdv A outer s H vs Q E hr h=>?_)
 ·obtain⟨PP,ds,hP,hv,ms,zs,ps,j,p,pps,rfl,g,hp,hl,q,x⟩:=h;exact hv.1
 obtain⟨PP,ds,hP,hv,ms,zs,ps,j,p,pps,rfl,g,hp,hl,q,x⟩:=h;refine xq (Ex:=λC fs=>∀dd H',aS H H'->EG K PP H' dd fs->E (.ref C) dd H') hP hv (λ_ _ z=>z) ?_;show gZ _ _ _ _ [some _,some _,some _,none,none,none] [];clear hP hv;refine ah (az (i:=3) dO.nd rfl (aad rfl) aq) (λR kk=>?_);walk_at "vc";refine kk _ _ ?_;clear kk R;refine aK (jE PassesOwn.leaving rfl (rZ (ae 2)) (bZ (i:=4) dO.nd rfl (aad rfl)) (cI (az (i:=5) dO.nd rfl (aad rfl) (aj (n:=0) (ae 4)))
   (cI (aG (wa.dt (qE (ff (g9 oN qw (cZ λ_ _ _=>.bl _) (cZ λ_ _ _=>.bl _) (ae 3) (ae 5) (aT rfl aO (aa (aj (n:=4) (bj (aj (n:=1) (ae 0)) (ae 1) (λ_ _=>rfl))) af)))) (px (ff (pq (aw Cg Av Au (hr.mono (by decide)) rfl (aa (ae 0) (aa (ae 1) (aa (aj (n:=1) (ae 4)) af))))))))) (au (EI Po EU (hr.mono (by decide)) rfl fj rfl (aa (ae 1) (aa (ae 5) (aa aA af))))) ay)
   (au (az (i:=3) dO.nd rfl (aad rfl) (aL (ae 5) aq)))))) ?_
 walk_at "vc";refine gu (λi env st=>∃(least:Int) (o4 o5:Option DV),env=[some (.dat (uy ms ps)),some (.dat (.int (j:Int))),some (.dat (.list (pps.map i8))),some (.dat (.int least)),o4,o5]/\st=[]/\bad zs p.boxes p.height p.rows.length 0 pps=bad zs p.boxes p.height p.rows.length least (pps.drop i)) ⟨0,_,_,rfl,rfl,rfl⟩ (λ_ _ _ _=>trivial) ?_ ?_
 ·rintro i env st d hd ⟨least,o4,o5,rfl,rfl,hb⟩;obtain⟨pp,hpp,rfl⟩:=dZ hd;obtain⟨b1,b2⟩:=hl pp (aan hpp);rw[DH hpp,qL]at hb;rw[show i8 pp=.tuple [.int pp.1,iz pp.2]from rfl];have no:N2 zs p.boxes p.height p.rows.length least pp=false->∀(dd:Option Addr) (H':Hp),aS H H'->EG K PP H' dd [("part",.int (j:Int)),("at",.int pp.1),("word",.str "paper")]->E (.ref ar) dd H':=λh=>x pp.1 (by rw[hb,h];rfl)
  unfold N2 at no hb;have UA:=lD ms ps;refine iw (λR1 k1=>?_);walk_at "vs";refine k1 _ _ ?_;clear k1 R1;refine iw (λR1 k1=>?_);rw[UA];walk_at "vs";refine bO (λh0=>⟨_,bg (f:=kI) hp,?_⟩) (λh0=>yF rfl (cT ⟨rfl,no ?_⟩));rotate_left
  ·rw[aax h0];rfl
  rw[cC];walk_at "vs";rw[aaa];refine eO (λh1=>cT ⟨rfl,no ?_⟩) (λh1=>?_)
  ·rw[aau h0,aax h1];rfl
  refine⟨ms,zs,ps,j,p,pp.2,by rw[UA],g,hp,b1,b2,?_⟩;rw[aau h0,aau h1,abh,abh]at no hb;walk_at "vs"
  cases hs:zu zs p.boxes p.height pp.2 with
  | false=>exact yF rfl ⟨rfl,no hs⟩
  | true =>
   refine lE rfl (k1 _ _ ?_);clear k1 R1;walk_at "vs";rw[aaD hs]at hb;exact⟨_,_,_,by rw[UA],rfl,hb⟩
 ·rintro env st ⟨least,o4,o5,rfl,rfl,hb⟩;rw[aaa,List.drop_length]at hb;exact q hb
theorem vK:aI ["book","part","takes","others"] ["book","part"] (dS yC):=by walk_at "sc"
theorem IF{f:Addr}{fd:FuncData}(F:gf K "entry" "entry" yC f fd)(aO:mg "len"=none)(j2:mg "tuple"=none):bB P w K mg base bf 1 f fd ["book","part"] (vA K):=by
 refine F.ok vK (λvs H Q E h=>?_) (λcdv A outer s H vs Q E hr h=>?_)
 ·obtain⟨PP,ds,hP,hv,ms,ps,j,p,rfl,hp,h8,htb,q⟩:=h;exact hv.1
 obtain⟨PP,ds,hP,hv,ms,ps,j,p,rfl,hp,h8,htb,q⟩:=h;refine aP hP hv ?_;show gZ _ _ _ _ [some _,some _,none,none] [];clear hP hv;refine ah (az (i:=2) vK.nd rfl (aad rfl) (aj (n:=0) (bj (aj (n:=1) (ae 0)) (ae 1) (λ_ _=>rfl)))) (λR kk=>?_);rw[lD];walk_at "vc";refine⟨_,bg (f:=kI) hp,?_⟩;rw[cC];walk_at "vc";refine kk _ _ ?_;clear kk R;refine ah (az (i:=3) vK.nd rfl (aad rfl) (cq (aj (n:=2) (bj (aj (n:=1) (ae 0)) (ae 1) (λ_ _=>rfl))) (aT rfl aO (aa (ae 2) af)))) (λR kk=>?_);walk_at "vc";refine⟨_,bg (f:=kI) hp,?_⟩;rw[cC];walk_at "vc";refine kk _ _ ?_;clear kk R;refine aK (ax (av (aa (aL (zR rfl j2 (aa (ae 2) af)) (fv (av (aa (av (aa aA af)) af)) (ae 3))) (aa (av af) af)))) ?_;walk_at "vc";have lk:(fE p.takes).length=p.takes.length:=aaa ..;have hn:((p.boxes:Int) - ((fE p.takes).length:Int)).toNat=p.boxes - p.takes.length:=by rw[lk];omega
 rw[hn,pR,lk];refine⟨by simp,by omega,by omega,by omega,by rw[List.length_replicate];omega,?_⟩;rw[N3];exact q
theorem AK:aI ["makes","c","other"] ["makes","c","other"] (dS pO):=by walk_at "sc"
theorem AL{f:Addr}{fd:FuncData}(F:gf K "is_under" "is_under" pO f fd)(lN:bM P w K mg base bf "elders_of" 1 ["makes","c"] (eT K)):bB P w K mg base bf 2 f fd ["makes","c","other"] (iN K):=by
 refine F.ok AK (λvs H Q E h=>?_) (λcdv A outer s H vs Q E hr h=>?_)
 ·obtain⟨PP,ds,hP,hv,ms,c,rfl,hw,hc,q⟩:=h;exact hv.1
 obtain⟨PP,ds,hP,hv,ms,c,rfl,hw,hc,q⟩:=h;refine aP hP hv ?_;show gZ _ _ _ _ [some _,some _,some _] [];clear hP hv;refine aK (ax (TC (ae 2) (aw lN qT qS (hr.mono (by decide)) rfl (aa (ae 0) (aa (ae 1) af))) rfl)) ?_;walk_at "vc";refine⟨ms,c,rfl,hw,hc,⟨rfl,B2 _⟩,?_⟩;rw[Ii (by rw[iy hw hc];exact aaC)];exact q
theorem Ci:aI ["makes","kind","other"] ["makes","kind","other"] (dS sj):=by walk_at "sc"
theorem Cj{f:Addr}{fd:FuncData}(F:gf K "beneath" "beneath" sj f fd)(p5:bM P w K mg base bf "is_under" 2 ["makes","c","other"] (iN K)):bB P w K mg base bf 3 f fd ["makes","kind","other"] (jW K):=by
 refine F.ok Ci (λvs H Q E h=>?_) (λcdv A outer s H vs Q E hr h=>?_)
 ·obtain⟨PP,ds,hP,hv,ms,zs,k,o,rfl,g,hk,ho,q⟩:=h;exact hv.1
 obtain⟨PP,ds,hP,hv,ms,zs,k,o,rfl,g,hk,ho,q⟩:=h;refine aP hP hv ?_;show gZ _ _ _ _ [some _,some _,some _] [];clear hP hv;refine ah (aG (bH (hr.units) (aj (n:=0) (ae 2)) aA) (au (ax fc)) ay) (λR kk=>?_);rcases ho with rfl | rfl
 ·rw[show ui .any=[.str "any"]from rfl];walk_at "vc";exact B6 (by decide +kernel) q
 cases o with
 | any =>
  rw[show ui .any=[.str "any"]from rfl];walk_at "vc";exact B6 (by decide +kernel) q
 | num =>
  rw[show ui .num=[.str "number"]from rfl];walk_at "vc";refine gk (by decide +kernel) (kk _ _ ?_);clear kk R;refine ah (aG (kH (hr.units) (aj (n:=0) (ae 1)) (aj (n:=0) (ae 2))) (au (ax fc)) ay) (λR kk=>?_);walk_at "vc";refine lE (by decide +kernel) (kk _ _ ?_);clear kk R;refine ah (aG (bH (hr.units) (aj (n:=0) (ae 1)) aA) (au (ax (aw p5 lM lL (hr.mono (by decide)) rfl (aa (ae 0) (aa (aj (n:=1) (ae 1)) (aa (aj (n:=1) (ae 2)) af)))))) ay) (λR kk=>?_);walk_at "vc";refine gk (by decide +kernel) (kk _ _ ?_);clear kk R;refine ah (aG (bH (hr.units) (aj (n:=0) (ae 1)) aA) (au (ax (oa (qD (hr.units) (aj (n:=1) (ae 1)) (aj (n:=1) (ae 2))) (kX (qD (hr.units) (Hb (aj (n:=2) (ae 1)) (aj (n:=2) (ae 2))) (aj (n:=2) (ae 2))))))) ay) (λR kk=>?_);walk_at "vc";refine gk (by decide +kernel) (kk _ _ ?_);clear kk R;refine aK (ax fc) ?_;walk_at "vc";exact q
 | whole c =>
  have hk:decide (0<=c/\c < (zs.length:Int))=true:=hk;obtain⟨h0,h1⟩:=abG hk;obtain⟨n,rfl⟩:∃n:Nat,c=(n:Int):=⟨c.toNat,by omega⟩;rw[show ui (.whole (n:Int))=[.str "whole",.int (n:Int)]from rfl];walk_at "vc";refine gk (by decide +kernel) (kk _ _ ?_);clear kk R;refine ah (aG (kH (hr.units) (aj (n:=0) (ae 1)) (aj (n:=0) (ae 2))) (au (ax fc)) ay) (λR kk=>?_);walk_at "vc";refine lE (by decide +kernel) (kk _ _ ?_);clear kk R;refine ah (aG (bH (hr.units) (aj (n:=0) (ae 1)) aA) (au (ax (aw p5 lM lL (hr.mono (by decide)) rfl (aa (ae 0) (aa (aj (n:=1) (ae 1)) (aa (aj (n:=1) (ae 2)) af)))))) ay) (λR kk=>?_);walk_at "vc";exact B6 (by decide +kernel) ⟨ms,n,rfl,g.wf,by rw[g.len];omega,q⟩
 | raw c m =>
  have hk:(decide (0<=c/\c < (zs.length:Int))&&decide (0<=m/\m < ((2 ^ sizeOf zs c:Nat):Int)))=true:=hk;rw[abU]at hk;have h1:=abG hk.2;obtain⟨n,rfl⟩:∃n:Nat,m=(n:Int):=⟨m.toNat,by omega⟩;rw[show ui (.raw c (n:Int))=[.str "raw",.int c,.int (n:Int)]from rfl];walk_at "vc";refine gk (by decide +kernel) (kk _ _ ?_);clear kk R;refine ah (aG (kH (hr.units) (aj (n:=0) (ae 1)) (aj (n:=0) (ae 2))) (au (ax fc)) ay) (λR kk=>?_);walk_at "vc";refine lE (by decide +kernel) (kk _ _ ?_);clear kk R;refine ah (aG (bH (hr.units) (aj (n:=0) (ae 1)) aA) (au (ax (aw p5 lM lL (hr.mono (by decide)) rfl (aa (ae 0) (aa (aj (n:=1) (ae 1)) (aa (aj (n:=1) (ae 2)) af)))))) ay) (λR kk=>?_);walk_at "vc";refine gk (by decide +kernel) (kk _ _ ?_);clear kk R;refine ah (aG (bH (hr.units) (aj (n:=0) (ae 1)) aA) (au (ax (oa (qD (hr.units) (aj (n:=1) (ae 1)) (aj (n:=1) (ae 2))) (kX (qD (hr.units) (Hb (aj (n:=2) (ae 1)) (aj (n:=2) (ae 2))) (aj (n:=2) (ae 2))))))) ay) (λR kk=>?_);walk_at "vc";refine B6 (by decide +kernel) ?_;rw[B1,Nat.and_self];refine B6 (aau rfl) ?_;rw[aau rfl];exact q
theorem vL:aI ["makes","some","others"] ["makes","some","others"] (dS iW):=by walk_at "sc"
theorem vM{f:Addr}{fd:FuncData}(F:gf K "all_beneath" "all_beneath" iW f fd)(sZ:mg "all"=none)(aO:mg "len"=none)(xB:mg "zip"=none)(xC:bM P w K mg base bf "beneath" 3 ["makes","kind","other"] (jW K)):bB P w K mg base bf 4 f fd ["makes","some","others"] (da K):=by
 refine F.ok vL (λvs H Q E h=>?_) (λcdv A outer s H vs Q E hr h=>?_)
 ·obtain⟨PP,ds,hP,hv,ms,zs,ks,os,y,rfl,g,hk,hu,DA,hy,q⟩:=h;exact hv.1
 obtain⟨PP,ds,hP,hv,ms,zs,ks,os,y,rfl,g,hk,hu,DA,hy,q⟩:=h;refine aP hP hv ?_;show gZ _ _ _ _ [some _,some _,some _] [];clear hP hv;refine ah (aG (kH (hr.units) (aT rfl aO (aa (ae 1) af)) (aT rfl aO (aa (ae 2) af))) (au (ax fc)) ay) (λR kk=>?_);rcases hy with rfl | rfl
 ·walk_at "vc";rw[aaa,aaa,hu.1];refine lE (aau rfl) (kk _ _ ?_);clear kk R;refine aK (ax (BW rfl rfl sZ (aa (zW 2 ["kind","other","makes"] [0] ⟨rfl,rfl,rfl,rfl,rfl,rfl,rfl,rfl⟩ (Hy rfl xB (aa (ae 1) (aa (ae 2) af))) (λ_ _ _ _=>(uG rfl (eG (bY (i:=0) (show List.Nodup (["kind","other","makes"]:List Str)by decide +kernel) rfl (aad rfl)) (eG (bY (i:=1) (show List.Nodup (["kind","other","makes"]:List Str)by decide +kernel) rfl (aad rfl)) qt)))) (Lr (m:=2) (gY (qF (i:=0)) (gY (qF (i:=1)) yA))) (P1 (jf (vn (by decide)) (jf (vn (by decide)) yt))) (λ_ _ _ _=>⟨kY,(aw xC vC vB (hr.mono (by decide)) rfl (aa (ae 2) (aa (ae 0) (aa (ae 1) af))))⟩)) af))) ?_;walk_at "vc";refine zV (λi ys=>ys=List.replicate i (.bool true)) (by rw[z9,aaa];omega) rfl ?_ ?_
  ·rintro i ys d hd rfl;obtain⟨x,y,hx,hy,rfl⟩:=Du hd;obtain⟨k,KU,rfl⟩:=dZ hx;obtain⟨o,WC,rfl⟩:=dZ hy;walk_at "vc";refine⟨rfl,rfl,rfl,cT ⟨ms,zs,k,o,rfl,g,B3 hk KU,hu.2 i k o KU WC,?_⟩⟩;exact⟨rfl,(List.replicate_succ' ..).symm⟩
  ·rintro ys rfl;refine⟨List.replicate (vh (bw ks) (bw os)).length true,by rw[ac9],?_⟩;rw[show(List.replicate (vh (bw ks) (bw os)).length true).all id=true from aa1.mpr λb hb=>by rw[acK hb];rfl];exact q
 ·walk_at "vc";rw[aaa,aaa,hu.1];refine lE (aau rfl) (kk _ _ ?_);clear kk R;refine aK (ax (BW rfl rfl sZ (aa (zW 2 ["kind","other","makes"] [0] ⟨rfl,rfl,rfl,rfl,rfl,rfl,rfl,rfl⟩ (Hy rfl xB (aa (ae 1) (aa (ae 2) af))) (λ_ _ _ _=>(uG rfl (eG (bY (i:=0) (show List.Nodup (["kind","other","makes"]:List Str)by decide +kernel) rfl (aad rfl)) (eG (bY (i:=1) (show List.Nodup (["kind","other","makes"]:List Str)by decide +kernel) rfl (aad rfl)) qt)))) (Lr (m:=2) (gY (qF (i:=0)) (gY (qF (i:=1)) yA))) (P1 (jf (vn (by decide)) (jf (vn (by decide)) yt))) (λ_ _ _ _=>⟨kY,(aw xC vC vB (hr.mono (by decide)) rfl (aa (ae 2) (aa (ae 0) (aa (ae 1) af))))⟩)) af))) ?_;walk_at "vc";refine zV (λi ys=>ys=List.replicate i (.bool true)) (by rw[z9,aaa];omega) rfl ?_ ?_
  ·rintro i ys d hd rfl;obtain⟨x,y,hx,hy,rfl⟩:=Du hd;obtain⟨k,KU,rfl⟩:=dZ hx;obtain⟨o,WC,rfl⟩:=dZ hy;walk_at "vc";refine⟨rfl,rfl,rfl,cT ⟨ms,zs,k,o,rfl,g,B3 hk KU,hu.2 i k o KU WC,?_⟩⟩;exact⟨rfl,(List.replicate_succ' ..).symm⟩
  ·rintro ys rfl;refine⟨List.replicate (vh (bw ks) (bw os)).length true,by rw[ac9],?_⟩;rw[show(List.replicate (vh (bw ks) (bw os)).length true).all id=true from aa1.mpr λb hb=>by rw[acK hb];rfl];exact q
theorem AM:aI ["book","part","row","sign","parts"] ["book","part","row"] (dS yD):=by walk_at "sc"
theorem IG{f:Addr}{fd:FuncData}(F:gf K "asked" "asked" yD f fd)(dE:mg "list"=none){dj:Addr}(jm:mg "ALWAYS"=some (.ref dj))(AN:JO K w dj fh):bB P w K mg base bf 1 f fd ["book","part","row"] (jj K):=by
 refine F.ok AM (λvs H Q E h=>?_) (λcdv A outer s H vs Q E hr h=>?_)
 ·obtain⟨v0,v1,rw',sign,xs,ks,rfl,hR,h,q⟩:=h;rfl
 obtain⟨v0,v1,rw',sign,xs,ks,rfl,hR,h,q⟩:=h;refine⟨_,(qK (eI (i:=3) AM.nd rfl (aad rfl) (cY cM (pv 2) pI (λ_ _=>rfl)))
   (qK (qr (tR Pj (pv 3) (qq (v:=.ref dj) rfl jm rfl) rfl) (qO (kM (gK cw rfl dE jv (pK (cY GD (qq (v:=.ref dj) rfl jm rfl) (pv 3) (λ_ _=>rfl)) pN)))) il)
   (qK fD
   (qK fD
   (qK fD
   (qO fD)))))),?_⟩
 refine⟨_,rfl,rw',_,_,_,rfl,rfl,hR,aN (j:=0) rfl,?_⟩;refine⟨_,rfl,dj,fh,sign,rfl,rfl,AN,_,rfl,Y6 (by rw[h];rfl) ?_⟩;refine⟨_,rfl,dj,fh,sign,_,rfl,rfl,AN,h,λv hv=>?_⟩;obtain⟨a,ys,rfl,hS,hY⟩:=aX.bL (hv λ_=>none);have sn:∀H2,aS (λ_=>none) H2:=λH2 c o e=>by cases e
 refine⟨a,ys,rfl,.inr ((sn H).tup hS),λr hr=>?_⟩;exact q r ys _ (sN hr (.lst ys)) hr uS λH2=>bV.same (sn H2) hY
theorem EV:aI ["row"] ["row"] (dS vv):=by walk_at "sc"
theorem EW{f:Addr}{fd:FuncData}(F:gf K "leaves" "leaves" vv f fd){j4:Addr}(vN:mg "LEFT"=some (.ref j4))(QD:JO K w j4 oi):bB P w K mg base bf 1 f fd ["row"] (gM K):=by
 refine F.ok EV (λvs H Q E h=>?_) (λcdv A outer s H vs Q E hr h=>?_)
 ·obtain⟨rw',sign,xs,rfl,hR,q⟩:=h;rfl
 obtain⟨rw',sign,xs,rfl,hR,q⟩:=h;refine⟨_,(qO (kM (KG (qq (v:=.ref j4) rfl vN rfl) (pK (cY cM (pv 0) pI (λ_ _=>rfl)) (pK pI pN))))),?_⟩;refine⟨j4,oi,rfl,QD,_,rfl,rw',_,_,_,rfl,rfl,hR,aN (j:=0) rfl,sign,_,rfl,λhn=>?_,λdt hd v hv=>?_⟩
 ·unfold iY at q;rw[hn]at q;exact q
 ·obtain⟨i,rfl⟩:=Ih hd;unfold iY at q;rw[hd]at q;rw[aX.aW (hv H)];exact q
theorem eE:aI ["book","part","at","stand","row","wanted","under"] ["book","part","at","stand"] (dS vw):=by walk_at "sc"
theorem EX{f:Addr}{fd:FuncData}(F:gf K "breaks" "breaks" vw f fd)(aO:mg "len"=none)(cL:bM P w K mg base bf "all_beneath" 4 ["makes","some","others"] (da K))(j5:bM P w K mg base bf "asked" 1 ["book","part","row"] (jj K))(ia:bM P w K mg base bf "leaves" 1 ["row"] (gM K)):bB P w K mg base bf 5 f fd ["book","part","at","stand"] (sv K):=by
 refine F.ok eE (λvs H Q E h=>?_) (λcdv A outer s H vs Q E hr h=>?_)
 ·obtain⟨PP,ds,hP,hv,ms,zs,ps,j,i,p,r,B,rfl,g,hp,hr',h3,hh,q⟩:=h;exact hv.1
 obtain⟨PP,ds,hP,hv,ms,zs,ps,j,i,p,r,B,rfl,g,hp,hr',h3,hh,q⟩:=h;refine aP hP hv ?_;show gZ _ _ _ _ [some _,some _,some _,some _,none,none,none] [];clear hP hv;refine ah (az (i:=4) eE.nd rfl (aad rfl) (bj (aj (n:=4) (bj (aj (n:=1) (ae 0)) (ae 1) (λ_ _=>rfl))) (ae 2) (λ_ _=>rfl))) (λR kk=>?_);rw[lD];walk_at "vc";refine⟨_,bg (f:=kI) hp,?_⟩;rw[cC];walk_at "vc";refine⟨_,bg (f:=qI) hr',kk _ _ ?_⟩;clear kk R
 cases h3 with
 | push w =>
  refine ah (az (i:=5) eE.nd rfl (aad rfl) (aw j5 jl jk (hr.mono (by decide)) rfl (aa (ae 0) (aa (ae 1) (aa (ae 4) af))))) (λR kk=>?_);rw[show qI (.push w)=.tuple [.str "push",.int w]from rfl,show iz (B,FF (.push w))=.tuple [.tuple (bw B),.tuple []]from rfl];walk_at "vc";refine⟨_,_,_,_,[],rfl,rfl,kk _ _ ?_⟩;clear kk R;refine ah (az (i:=6) eE.nd rfl (aad rfl) (cq (aT rfl aO (aa (aj (n:=1) (ae 3)) af)) (aT rfl aO (aa (ae 5) af)))) (λR kk=>?_);walk_at "vc";refine kk _ _ ?_;clear kk R;refine ah (aG (oS (ae 6) aq) (au (ax aA)) ay) (λR kk=>?_);walk_at "vc";refine gk (by decide +kernel) (kk _ _ ?_);clear kk R;refine ah (aG (ff (pq (aw cL df dc (hr.mono (by decide)) rfl (aa (aj (n:=0) (ae 0)) (aa (eB (aj (n:=1) (ae 3)) (bD (ae 6)) bN) (aa (ae 5) af)))))) (au (ax aA)) ay) (λR kk=>?_);walk_at "vc";refine⟨ms,zs,[],[],_,rfl,g,rfl,⟨rfl,λi k o h1 h2=>?_⟩,by decide,.inr rfl,dI (kk _ _ ?_)⟩
  ·cases h1
  clear kk R;refine ah (aG (vb (aL (ae 6) (aw ia gP gO (hr.mono (by decide)) rfl (aa (ae 4) af))) (aj (n:=3) (bj (aj (n:=1) (ae 0)) (ae 1) (λ_ _=>rfl)))) (au (ax aA)) ay) (λR kk=>?_);walk_at "vc";refine⟨_,_,rfl,_,bg (f:=kI) hp,?_⟩;rw[cC];walk_at "vc";rw[show iY "push"=1 by decide +kernel];refine gk (decide_eq_false (by simp<;>omega)) (kk _ _ ?_)
  clear kk R;refine aK (ax bS) ?_;walk_at "vc";exact q
 | drop =>
  refine ah (az (i:=5) eE.nd rfl (aad rfl) (aw j5 jl jk (hr.mono (by decide)) rfl (aa (ae 0) (aa (ae 1) (aa (ae 4) af))))) (λR kk=>?_);rw[show qI (.bare "drop")=.tuple [.str "drop"]from rfl,show iz (B,FF (.bare "drop"))=.tuple [.tuple (bw B),.tuple [.tuple [.str "number"]]]from rfl];walk_at "vc";refine⟨_,_,_,_,[.tuple [.str "any"]],rfl,rfl,kk _ _ ?_⟩;clear kk R;refine ah (az (i:=6) eE.nd rfl (aad rfl) (cq (aT rfl aO (aa (aj (n:=1) (ae 3)) af)) (aT rfl aO (aa (ae 5) af)))) (λR kk=>?_);walk_at "vc";refine kk _ _ ?_;clear kk R;refine ah (aG (oS (ae 6) aq) (au (ax aA)) ay) (λR kk=>?_);walk_at "vc";refine gk (by decide +kernel) (kk _ _ ?_);clear kk R;refine ah (aG (ff (pq (aw cL df dc (hr.mono (by decide)) rfl (aa (aj (n:=0) (ae 0)) (aa (eB (aj (n:=1) (ae 3)) (bD (ae 6)) bN) (aa (ae 5) af)))))) (au (ax aA)) ay) (λR kk=>?_);walk_at "vc";refine⟨ms,zs,[.num],[.any],_,rfl,g,rfl,⟨rfl,λi k o h1 h2=>?_⟩,by decide,.inr rfl,dI (kk _ _ ?_)⟩
  ·match i,h1,h2 with
   | 0,h1,h2=>cases h1;cases h2;exact .inl rfl
   | n + 1,h1,_=>cases h1
  clear kk R;refine ah (aG (vb (aL (ae 6) (aw ia gP gO (hr.mono (by decide)) rfl (aa (ae 4) af))) (aj (n:=3) (bj (aj (n:=1) (ae 0)) (ae 1) (λ_ _=>rfl)))) (au (ax aA)) ay) (λR kk=>?_);walk_at "vc";refine⟨_,_,rfl,_,bg (f:=kI) hp,?_⟩;rw[cC];walk_at "vc";rw[show iY "drop"=0 by decide +kernel];refine gk (decide_eq_false (by simp<;>omega)) (kk _ _ ?_)
  clear kk R;refine aK (ax bS) ?_;walk_at "vc";exact q
 | toss =>
  refine ah (az (i:=5) eE.nd rfl (aad rfl) (aw j5 jl jk (hr.mono (by decide)) rfl (aa (ae 0) (aa (ae 1) (aa (ae 4) af))))) (λR kk=>?_);rw[show qI (.bare "toss")=.tuple [.str "toss"]from rfl,show iz (B,FF (.bare "toss"))=.tuple [.tuple (bw B),.tuple [.tuple [.str "number"]]]from rfl];walk_at "vc";refine⟨_,_,_,_,[.tuple [.str "number"]],rfl,rfl,kk _ _ ?_⟩;clear kk R;refine ah (az (i:=6) eE.nd rfl (aad rfl) (cq (aT rfl aO (aa (aj (n:=1) (ae 3)) af)) (aT rfl aO (aa (ae 5) af)))) (λR kk=>?_);walk_at "vc";refine kk _ _ ?_;clear kk R;refine ah (aG (oS (ae 6) aq) (au (ax aA)) ay) (λR kk=>?_);walk_at "vc";refine gk (by decide +kernel) (kk _ _ ?_);clear kk R;refine ah (aG (ff (pq (aw cL df dc (hr.mono (by decide)) rfl (aa (aj (n:=0) (ae 0)) (aa (eB (aj (n:=1) (ae 3)) (bD (ae 6)) bN) (aa (ae 5) af)))))) (au (ax aA)) ay) (λR kk=>?_);walk_at "vc";refine⟨ms,zs,[.num],[.num],_,rfl,g,rfl,⟨rfl,λi k o h1 h2=>?_⟩,by decide,.inr rfl,dI (kk _ _ ?_)⟩
  ·match i,h1,h2 with
   | 0,h1,h2=>cases h1;cases h2;exact .inr rfl
   | n + 1,h1,_=>cases h1
  clear kk R;refine ah (aG (vb (aL (ae 6) (aw ia gP gO (hr.mono (by decide)) rfl (aa (ae 4) af))) (aj (n:=3) (bj (aj (n:=1) (ae 0)) (ae 1) (λ_ _=>rfl)))) (au (ax aA)) ay) (λR kk=>?_);walk_at "vc";refine⟨_,_,rfl,_,bg (f:=kI) hp,?_⟩;rw[cC];walk_at "vc";rw[show iY "toss"=0 by decide +kernel];refine gk (decide_eq_false (by simp<;>omega)) (kk _ _ ?_)
  clear kk R;refine aK (ax bS) ?_;walk_at "vc";exact q
theorem vO:aI ["stretches","at","stretch"] ["stretches","at"] (dS sk):=by walk_at "sc"
theorem Ck{f:Addr}{fd:FuncData}(F:gf K "catcher" "catcher" sk f fd):bB P w K mg base bf 1 f fd ["stretches","at"] (jX K):=by
 refine F.ok vO (λvs H Q E h=>?_) (λcdv A outer s H vs Q E hr h=>?_)
 ·obtain⟨PP,ds,hP,hv,i,rfl,q⟩:=h;exact hv.1
 obtain⟨PP,ds,hP,hv,i,rfl,q⟩:=h;refine aP hP hv ?_;show gZ _ _ _ _ [some _,some _,none] [];clear hP hv;refine ah (jE aa7 rfl (rZ (ae 0)) (bZ (i:=2) vO.nd rfl (aad rfl)) (au (aG (g9 oN qw (cZ λ_ _ _=>.bl _) (cZ λ_ _ _=>.bl _) (aj (n:=0) (ae 2)) (ae 1) (aj (n:=1) (ae 2))) (au (ax (aj (n:=2) (ae 2)))) ay))) (λR kk=>?_);walk_at "vc";refine gu (λi' env st=>i'=0/\env=[some (.dat (.list [])),some (.dat (.int i)),none]/\st=[]) ⟨rfl,rfl,rfl⟩ (λ_ _ _ _=>trivial) (λi' env st d hd=>nomatch hd) ?_;rintro env st ⟨_,rfl,rfl⟩;refine kk _ _ ?_;clear kk R;refine aK (ax bS) ?_;walk_at "vc";exact q
theorem gI:aI ["book","row","boxes","took","sign"] ["book","row","boxes","took"] (dS lz):=by walk_at "sc"
theorem zh{f:Addr}{fd:FuncData}(F:gf K "kinds_put" "kinds_put" lz f fd){du:Addr}(cG:mg "OF_RECORDS"=some (.ref du))(j6:∀H:Hp,aX K H (.ref du) oV)(LZ:∃o,K.lookup du=some o/\o.cls=.type "tuple"/\o.dict=none)(ia:bM P w K mg base bf "leaves" 1 ["row"] (gM K)):bB P w K mg base bf 2 f fd ["book","row","boxes","took"] (gF K):=by
 refine F.ok gI (λvs H Q E h=>?_) (λcdv A outer s H vs Q E hr h=>?_)
 ·obtain⟨PP,ds,hP,hv,b,bx,tk,r,rfl,h3,q⟩:=h;exact hv.1
 obtain⟨PP,ds,hP,hv,b,bx,tk,r,rfl,h3,q⟩:=h;refine aP hP hv ?_;show gZ _ _ _ _ [some _,some _,some _,some _,none] [];clear hP hv
 cases h3 with
 | push w =>
  rw[show qI (.push w)=.tuple [.str "push",.int w]from rfl];refine ah (az (i:=4) gI.nd rfl (Or.inl rfl) (aj (n:=0) (ae 1))) (λR kk=>?_);walk_at "vc";refine kk _ _ ?_;clear kk R;refine ah (aG (bH (hr.units) (ae 4) aA) (au (ax (av (aa (bj (ae 2) (aj (n:=1) (ae 1)) (λ_ _=>rfl)) af)))) ay) (λR kk=>?_);walk_at "vc";refine gk (by decide +kernel) (kk _ _ ?_);clear kk R;refine ah (aG (bH (hr.units) (ae 4) aA) (au (ax (av (aa (aj (n:=0) (ae 3)) (aa (aj (n:=0) (ae 3)) af))))) ay) (λR kk=>?_);walk_at "vc";refine gk (by decide +kernel) (kk _ _ ?_);clear kk R;refine ah (aG (bH (hr.units) (ae 4) aA) (au (ax (av (aa (aj (n:=1) (ae 3)) (aa (aj (n:=0) (ae 3)) af))))) ay) (λR kk=>?_);walk_at "vc";refine gk (by decide +kernel) (kk _ _ ?_);clear kk R;refine ah (aG (bH (hr.units) (ae 4) aA) (au (ax (av (aa (aj (n:=0) (ae 3)) af)))) ay) (λR kk=>?_);walk_at "vc";refine gk (by decide +kernel) (kk _ _ ?_);clear kk R;refine ah (aG (bH (hr.units) (ae 4) aA) (au (ax (av (aa (aj (n:=1) (bj (aj (n:=1) (ae 0)) (aj (n:=1) (ae 1)) (λ_ _=>rfl))) af)))) ay) (λR kk=>?_);walk_at "vc";refine gk (by decide +kernel) (kk _ _ ?_);clear kk R;refine ah (aG (kW (ae 4) (dR (v:=.ref du) rfl cG rfl j6) rfl) (au jg) ay) (λR kk=>?_);walk_at "vc";refine⟨⟨rfl,by decide +kernel⟩,gk (by decide +kernel) (kk _ _ ?_)⟩;clear kk R;refine aK (ax (fv (av (aa (av (aa aA af)) af)) (aw ia gP gO (hr.mono (by decide)) rfl (aa (ae 1) af)))) ?_;walk_at "vc";refine⟨_,_,rfl,?_⟩;rw[show iY "push"=1 by decide +kernel];exact⟨by simp,by decide,by decide,by decide,q⟩
 | drop =>
  rw[show qI (.bare "drop")=.tuple [.str "drop"]from rfl];refine ah (az (i:=4) gI.nd rfl (Or.inl rfl) (aj (n:=0) (ae 1))) (λR kk=>?_);walk_at "vc";refine kk _ _ ?_;clear kk R;refine ah (aG (bH (hr.units) (ae 4) aA) (au (ax (av (aa (bj (ae 2) (aj (n:=1) (ae 1)) (λ_ _=>rfl)) af)))) ay) (λR kk=>?_);walk_at "vc";refine gk (by decide +kernel) (kk _ _ ?_);clear kk R;refine ah (aG (bH (hr.units) (ae 4) aA) (au (ax (av (aa (aj (n:=0) (ae 3)) (aa (aj (n:=0) (ae 3)) af))))) ay) (λR kk=>?_);walk_at "vc";refine gk (by decide +kernel) (kk _ _ ?_);clear kk R;refine ah (aG (bH (hr.units) (ae 4) aA) (au (ax (av (aa (aj (n:=1) (ae 3)) (aa (aj (n:=0) (ae 3)) af))))) ay) (λR kk=>?_);walk_at "vc";refine gk (by decide +kernel) (kk _ _ ?_);clear kk R;refine ah (aG (bH (hr.units) (ae 4) aA) (au (ax (av (aa (aj (n:=0) (ae 3)) af)))) ay) (λR kk=>?_);walk_at "vc";refine gk (by decide +kernel) (kk _ _ ?_);clear kk R;refine ah (aG (bH (hr.units) (ae 4) aA) (au (ax (av (aa (aj (n:=1) (bj (aj (n:=1) (ae 0)) (aj (n:=1) (ae 1)) (λ_ _=>rfl))) af)))) ay) (λR kk=>?_);walk_at "vc";refine gk (by decide +kernel) (kk _ _ ?_);clear kk R;refine ah (aG (kW (ae 4) (dR (v:=.ref du) rfl cG rfl j6) rfl) (au jg) ay) (λR kk=>?_);walk_at "vc";refine⟨⟨rfl,by decide +kernel⟩,gk (by decide +kernel) (kk _ _ ?_)⟩;clear kk R;refine aK (ax (fv (av (aa (av (aa aA af)) af)) (aw ia gP gO (hr.mono (by decide)) rfl (aa (ae 1) af)))) ?_;walk_at "vc";refine⟨_,_,rfl,?_⟩;rw[show iY "drop"=0 by decide +kernel];exact⟨by simp,by decide,by decide,by decide,q⟩
 | toss =>
  rw[show qI (.bare "toss")=.tuple [.str "toss"]from rfl];refine ah (az (i:=4) gI.nd rfl (Or.inl rfl) (aj (n:=0) (ae 1))) (λR kk=>?_);walk_at "vc";refine kk _ _ ?_;clear kk R;refine ah (aG (bH (hr.units) (ae 4) aA) (au (ax (av (aa (bj (ae 2) (aj (n:=1) (ae 1)) (λ_ _=>rfl)) af)))) ay) (λR kk=>?_);walk_at "vc";refine gk (by decide +kernel) (kk _ _ ?_);clear kk R;refine ah (aG (bH (hr.units) (ae 4) aA) (au (ax (av (aa (aj (n:=0) (ae 3)) (aa (aj (n:=0) (ae 3)) af))))) ay) (λR kk=>?_);walk_at "vc";refine gk (by decide +kernel) (kk _ _ ?_);clear kk R;refine ah (aG (bH (hr.units) (ae 4) aA) (au (ax (av (aa (aj (n:=1) (ae 3)) (aa (aj (n:=0) (ae 3)) af))))) ay) (λR kk=>?_);walk_at "vc";refine gk (by decide +kernel) (kk _ _ ?_);clear kk R;refine ah (aG (bH (hr.units) (ae 4) aA) (au (ax (av (aa (aj (n:=0) (ae 3)) af)))) ay) (λR kk=>?_);walk_at "vc";refine gk (by decide +kernel) (kk _ _ ?_);clear kk R;refine ah (aG (bH (hr.units) (ae 4) aA) (au (ax (av (aa (aj (n:=1) (bj (aj (n:=1) (ae 0)) (aj (n:=1) (ae 1)) (λ_ _=>rfl))) af)))) ay) (λR kk=>?_);walk_at "vc";refine gk (by decide +kernel) (kk _ _ ?_);clear kk R;refine ah (aG (kW (ae 4) (dR (v:=.ref du) rfl cG rfl j6) rfl) (au jg) ay) (λR kk=>?_);walk_at "vc";refine⟨⟨rfl,by decide +kernel⟩,gk (by decide +kernel) (kk _ _ ?_)⟩;clear kk R;refine aK (ax (fv (av (aa (av (aa aA af)) af)) (aw ia gP gO (hr.mono (by decide)) rfl (aa (ae 1) af)))) ?_;walk_at "vc";refine⟨_,_,rfl,?_⟩;rw[show iY "toss"=0 by decide +kernel];exact⟨by simp,by decide,by decide,by decide,q⟩
theorem aV:aI ["book","part","row","stand","boxes","under","took","stack"] ["book","part","row","stand"] (dS hJ):=by walk_at "sc"
theorem uk{f:Addr}{fd:FuncData}(F:gf K "stand_behind" "stand_behind" hJ f fd)(aO:mg "len"=none)(j5:bM P w K mg base bf "asked" 1 ["book","part","row"] (jj K))(lO:bM P w K mg base bf "kinds_put" 2 ["book","row","boxes","took"] (gF K)):bB P w K mg base bf 3 f fd ["book","part","row","stand"] (dW K):=by
 refine F.ok aV (λvs H Q E h=>?_) (λcdv A outer s H vs Q E hr h=>?_)
 ·obtain⟨PP,ds,hP,hv,b,j,r,B,rfl,h3,q⟩:=h;exact hv.1
 obtain⟨PP,ds,hP,hv,b,j,r,B,rfl,h3,q⟩:=h;refine aP hP hv ?_;show gZ _ _ _ _ [some _,some _,some _,some _,none,none,none,none] [];clear hP hv;refine ah (az (i:=4) aV.nd rfl (aad rfl) (aj (n:=0) (ae 3))) (λR kk=>?_);rw[jJ];walk_at "vc";refine kk _ _ ?_;clear kk R;have h3':=h3
 cases h3 with
 | push w =>
  rw[show qI (.push w)=.tuple [.str "push",.int w]from rfl,show bw (B,FF (.push w)).2=[]from rfl];refine ah (az (i:=5) aV.nd rfl (aad rfl) (cq (aT rfl aO (aa (aj (n:=1) (ae 3)) af)) (aT rfl aO (aa (aw j5 jl jk (hr.mono (by decide)) rfl (aa (ae 0) (aa (ae 1) (aa (ae 2) af)))) af)))) (λR kk=>?_);walk_at "vc";refine⟨_,_,_,_,[],rfl,rfl,kk _ _ ?_⟩;clear kk R;refine ah (az (i:=6) aV.nd rfl (aad rfl) (eB (aj (n:=1) (ae 3)) (bD (ae 5)) bN)) (λR kk=>?_);walk_at "vc";refine kk _ _ ?_;clear kk R;refine ah (az (i:=7) aV.nd rfl (aad rfl) (aL (eB (aj (n:=1) (ae 3)) bN (bD (ae 5))) (aw lO jZ jY (hr.mono (by decide)) rfl (aa (ae 0) (aa (ae 2) (aa (ae 4) (aa (ae 6) af))))))) (λR kk=>?_);walk_at "vc";refine⟨_,_,_,(.push w),rfl,h3',by show 0 + 1<=1000000;decide,kk _ _ ?_⟩;clear kk R;refine ah (aG (bH (hr.units) (aj (n:=0) (ae 2)) aA) (au jg) ay) (λR kk=>?_);walk_at "vc";refine gk (by decide +kernel) (kk _ _ ?_);clear kk R;refine aK (ax (av (aa (ae 4) (aa (ae 7) af)))) ?_;walk_at "vc";exact q
 | drop =>
  rw[show qI (.bare "drop")=.tuple [.str "drop"]from rfl,show bw (B,FF (.bare "drop")).2=[.tuple [.str "number"]]from rfl];refine ah (az (i:=5) aV.nd rfl (aad rfl) (cq (aT rfl aO (aa (aj (n:=1) (ae 3)) af)) (aT rfl aO (aa (aw j5 jl jk (hr.mono (by decide)) rfl (aa (ae 0) (aa (ae 1) (aa (ae 2) af)))) af)))) (λR kk=>?_);walk_at "vc";refine⟨_,_,_,_,[.tuple [.str "any"]],rfl,rfl,kk _ _ ?_⟩;clear kk R;refine ah (az (i:=6) aV.nd rfl (aad rfl) (eB (aj (n:=1) (ae 3)) (bD (ae 5)) bN)) (λR kk=>?_);walk_at "vc";refine kk _ _ ?_;clear kk R;refine ah (az (i:=7) aV.nd rfl (aad rfl) (aL (eB (aj (n:=1) (ae 3)) bN (bD (ae 5))) (aw lO jZ jY (hr.mono (by decide)) rfl (aa (ae 0) (aa (ae 2) (aa (ae 4) (aa (ae 6) af))))))) (λR kk=>?_);walk_at "vc";refine⟨_,_,_,(.bare "drop"),rfl,h3',by decide,kk _ _ ?_⟩;clear kk R;refine ah (aG (bH (hr.units) (aj (n:=0) (ae 2)) aA) (au jg) ay) (λR kk=>?_);walk_at "vc";refine gk (by decide +kernel) (kk _ _ ?_);clear kk R;refine aK (ax (av (aa (ae 4) (aa (ae 7) af)))) ?_;walk_at "vc";exact q
 | toss =>
  rw[show qI (.bare "toss")=.tuple [.str "toss"]from rfl,show bw (B,FF (.bare "toss")).2=[.tuple [.str "number"]]from rfl];refine ah (az (i:=5) aV.nd rfl (aad rfl) (cq (aT rfl aO (aa (aj (n:=1) (ae 3)) af)) (aT rfl aO (aa (aw j5 jl jk (hr.mono (by decide)) rfl (aa (ae 0) (aa (ae 1) (aa (ae 2) af)))) af)))) (λR kk=>?_);walk_at "vc";refine⟨_,_,_,_,[.tuple [.str "number"]],rfl,rfl,kk _ _ ?_⟩;clear kk R;refine ah (az (i:=6) aV.nd rfl (aad rfl) (eB (aj (n:=1) (ae 3)) (bD (ae 5)) bN)) (λR kk=>?_);walk_at "vc";refine kk _ _ ?_;clear kk R;refine ah (az (i:=7) aV.nd rfl (aad rfl) (aL (eB (aj (n:=1) (ae 3)) bN (bD (ae 5))) (aw lO jZ jY (hr.mono (by decide)) rfl (aa (ae 0) (aa (ae 2) (aa (ae 4) (aa (ae 6) af))))))) (λR kk=>?_);walk_at "vc";refine⟨_,_,_,(.bare "toss"),rfl,h3',by decide,kk _ _ ?_⟩;clear kk R;refine ah (aG (bH (hr.units) (aj (n:=0) (ae 2)) aA) (au jg) ay) (λR kk=>?_);walk_at "vc";refine gk (by decide +kernel) (kk _ _ ?_);clear kk R;refine aK (ax (av (aa (ae 4) (aa (ae 7) af)))) ?_;walk_at "vc";exact q
theorem cS:aI ["book","part","at","stand","row","sign","told","behind","caught"] ["book","part","at","stand"] (dS BY):=by walk_at "sc"
theorem L3{f:Addr}{fd:FuncData}(F:gf K "outs" "outs" BY f fd){jn:Addr}(ib:mg "ENDING"=some (.ref jn))(vP:∀H:Hp,aX K H (.ref jn) xu)(UB:∃o,K.lookup jn=some o/\o.cls=.type "tuple"/\o.dict=none){fq:Addr}(ef:mg "FAULTING"=some (.ref fq))(p6:∀H:Hp,aX K H (.ref fq) sS)(QE:∃o,K.lookup fq=some o/\o.cls=.type "tuple"/\o.dict=none){oz:Addr}(j7:mg "GOING"=some (.ref oz))(zi:∀H:Hp,aX K H (.ref oz) Ae)(Vr:∃o,K.lookup oz=some o/\o.cls=.type "tuple"/\o.dict=none)(sA:bM P w K mg base bf "catcher" 1 ["stretches","at"] (jX K))(ic:bM P w K mg base bf "stand_behind" 3 ["book","part","row","stand"] (dW K)):bB P w K mg base bf 4 f fd ["book","part","at","stand"] (yS K):=by
 refine F.ok cS (λvs H Q E h=>?_) (λcdv A outer s H vs Q E hr h=>?_)
 ·obtain⟨PP,ds,hP,hv,ms,ps,j,i,p,r,B,rfl,hp,hr',h3,hsp,q⟩:=h;exact hv.1
 obtain⟨PP,ds,hP,hv,ms,ps,j,i,p,r,B,rfl,hp,hr',h3,hsp,q⟩:=h;refine aP hP hv ?_;show gZ _ _ _ _ [some _,some _,some _,some _,none,none,none,none,none] [];clear hP hv;have UA:=lD ms ps;refine ah (az (i:=4) cS.nd rfl (aad rfl) (bj (aj (n:=4) (bj (aj (n:=1) (ae 0)) (ae 1) (λ_ _=>rfl))) (ae 2) (λ_ _=>rfl))) (λR kk=>?_);rw[UA];walk_at "vc";refine⟨_,bg (f:=kI) hp,?_⟩;rw[cC];walk_at "vc";refine⟨_,bg (f:=qI) hr',kk _ _ ?_⟩;clear kk R;have h3':=h3
 cases h3 with
 | push w =>
  have er:qI (.push w)=.tuple [.str "push",.int w]:=rfl;refine ah (az (i:=5) cS.nd rfl (aad rfl) (aj (n:=0) (ae 4))) (λR kk=>?_);rw[er];walk_at "vc";refine kk _ _ ?_;clear kk R;refine ah (az (i:=6) cS.nd rfl (aad rfl) (iu af)) (λR kk=>?_);walk_at "vc";refine kk _ _ ?_;clear kk R;refine ah (az (i:=7) cS.nd rfl (aad rfl) (aw ic fY fX (hr.mono (by decide)) rfl (aa (ae 0) (aa (ae 1) (aa (ae 4) (aa (ae 3) af)))))) (λR kk=>?_);rw[← er];walk_at "vc";refine⟨_,_,_,B,rfl,h3',kk _ _ ?_⟩;clear kk R;refine ah (aG (vd (ae 5) (dR (v:=.ref jn) rfl ib rfl vP) rfl) (au (bT (bq (ae 6) (aa (av (aa aA (aa (aL (ae 2) aq) (aa (ae 7) af)))) af)))) ay) (λR kk=>?_);walk_at "vc";refine⟨⟨rfl,by decide +kernel⟩,B6 (by decide +kernel) ⟨rfl,by decide,kk _ _ ?_⟩⟩;clear kk R;refine ah (aG (bH (hr.units) (ae 5) aA) (au (bT (bq (ae 6) (aa (av (aa aA (aa (aj (n:=2) (ae 4)) (aa (av (aa (aj (n:=0) (ae 7)) (aa (aL (eB (aj (n:=1) (ae 7)) bN (bD (jA aq))) (av (aa (av (aa aA (aa (aj (n:=1) (ae 4)) af))) af))) af))) af)))) af)))) (au (aG (kW (ae 5) (dR (v:=.ref oz) rfl j7 rfl zi) rfl) (au (bT (bq (ae 6) (aa (av (aa aA (aa (aj (n:=1) (ae 4)) (aa (ae 7) af)))) af)))) ay))) (λR kk=>?_);rw[er];walk_at "vc";refine gk (by decide +kernel) ⟨⟨rfl,by decide +kernel⟩,gk (by decide +kernel) (kk _ _ ?_)⟩;clear kk R;refine ah (az (i:=8) cS.nd rfl (aad rfl) (aw sA pY pX (hr.mono (by decide)) rfl (aa (aj (n:=5) (bj (aj (n:=1) (ae 0)) (ae 1) (λ_ _=>rfl))) (aa (ae 2) af)))) (λR kk=>?_);walk_at "vc";refine⟨_,bg (f:=kI) hp,?_⟩;rw[cC,hsp];walk_at "vc";refine⟨_,rfl,kk _ _ ?_⟩;clear kk R;refine ah (aG (wa.dt (pA (kW (ae 5) (dR (v:=.ref fq) rfl ef rfl p6) rfl) (jC (jB (ae 8) bS)))) (au (bT (bq (ae 6) (aa (av (aa aA (aa (ae 8) (aa (av (aa (aj (n:=0) (ae 3)) (aa (av (aa (av (aa aA af)) af)) af))) af)))) af)))) ay) (λR kk=>?_);walk_at "vc";refine⟨⟨rfl,by decide +kernel⟩,?_⟩;refine gk (by decide +kernel) (dI (kk _ _ ?_));clear kk R;refine aK (ax (ae 6)) ?_;walk_at "vc";rw[show B4 (.push w) i B=[.tuple [.str "next",.int ((i:Int) + 1),iz (B,[.num])]]from rfl]at q;exact q
 | drop =>
  have er:qI (.bare "drop")=.tuple [.str "drop"]:=rfl;refine ah (az (i:=5) cS.nd rfl (aad rfl) (aj (n:=0) (ae 4))) (λR kk=>?_);rw[er];walk_at "vc";refine kk _ _ ?_;clear kk R;refine ah (az (i:=6) cS.nd rfl (aad rfl) (iu af)) (λR kk=>?_);walk_at "vc";refine kk _ _ ?_;clear kk R;refine ah (az (i:=7) cS.nd rfl (aad rfl) (aw ic fY fX (hr.mono (by decide)) rfl (aa (ae 0) (aa (ae 1) (aa (ae 4) (aa (ae 3) af)))))) (λR kk=>?_);rw[← er];walk_at "vc";refine⟨_,_,_,B,rfl,h3',kk _ _ ?_⟩;clear kk R;refine ah (aG (vd (ae 5) (dR (v:=.ref jn) rfl ib rfl vP) rfl) (au (bT (bq (ae 6) (aa (av (aa aA (aa (aL (ae 2) aq) (aa (ae 7) af)))) af)))) ay) (λR kk=>?_);walk_at "vc";refine⟨⟨rfl,by decide +kernel⟩,B6 (by decide +kernel) ⟨rfl,by decide,kk _ _ ?_⟩⟩;clear kk R;refine ah (aG (bH (hr.units) (ae 5) aA) (au (bT (bq (ae 6) (aa (av (aa aA (aa (aj (n:=2) (ae 4)) (aa (av (aa (aj (n:=0) (ae 7)) (aa (aL (eB (aj (n:=1) (ae 7)) bN (bD (jA aq))) (av (aa (av (aa aA (aa (aj (n:=1) (ae 4)) af))) af))) af))) af)))) af)))) (au (aG (kW (ae 5) (dR (v:=.ref oz) rfl j7 rfl zi) rfl) (au (bT (bq (ae 6) (aa (av (aa aA (aa (aj (n:=1) (ae 4)) (aa (ae 7) af)))) af)))) ay))) (λR kk=>?_);rw[er];walk_at "vc";refine gk (by decide +kernel) ⟨⟨rfl,by decide +kernel⟩,gk (by decide +kernel) (kk _ _ ?_)⟩;clear kk R;refine ah (az (i:=8) cS.nd rfl (aad rfl) (aw sA pY pX (hr.mono (by decide)) rfl (aa (aj (n:=5) (bj (aj (n:=1) (ae 0)) (ae 1) (λ_ _=>rfl))) (aa (ae 2) af)))) (λR kk=>?_);walk_at "vc";refine⟨_,bg (f:=kI) hp,?_⟩;rw[cC,hsp];walk_at "vc";refine⟨_,rfl,kk _ _ ?_⟩;clear kk R;refine ah (aG (wa.dt (pA (kW (ae 5) (dR (v:=.ref fq) rfl ef rfl p6) rfl) (jC (jB (ae 8) bS)))) (au (bT (bq (ae 6) (aa (av (aa aA (aa (ae 8) (aa (av (aa (aj (n:=0) (ae 3)) (aa (av (aa (av (aa aA af)) af)) af))) af)))) af)))) ay) (λR kk=>?_);walk_at "vc";refine⟨⟨rfl,by decide +kernel⟩,?_⟩;refine gk (by decide +kernel) (dI (kk _ _ ?_));clear kk R;refine aK (ax (ae 6)) ?_;walk_at "vc";rw[su]at q;exact q
 | toss =>
  have er:qI (.bare "toss")=.tuple [.str "toss"]:=rfl;refine ah (az (i:=5) cS.nd rfl (aad rfl) (aj (n:=0) (ae 4))) (λR kk=>?_);rw[er];walk_at "vc";refine kk _ _ ?_;clear kk R;refine ah (az (i:=6) cS.nd rfl (aad rfl) (iu af)) (λR kk=>?_);walk_at "vc";refine kk _ _ ?_;clear kk R;refine ah (az (i:=7) cS.nd rfl (aad rfl) (aw ic fY fX (hr.mono (by decide)) rfl (aa (ae 0) (aa (ae 1) (aa (ae 4) (aa (ae 3) af)))))) (λR kk=>?_);rw[← er];walk_at "vc";refine⟨_,_,_,B,rfl,h3',kk _ _ ?_⟩;clear kk R;refine ah (aG (vd (ae 5) (dR (v:=.ref jn) rfl ib rfl vP) rfl) (au (bT (bq (ae 6) (aa (av (aa aA (aa (aL (ae 2) aq) (aa (ae 7) af)))) af)))) ay) (λR kk=>?_);walk_at "vc";refine⟨⟨rfl,by decide +kernel⟩,gk (by decide +kernel) (kk _ _ ?_)⟩;clear kk R;refine ah (aG (bH (hr.units) (ae 5) aA) (au (bT (bq (ae 6) (aa (av (aa aA (aa (aj (n:=2) (ae 4)) (aa (av (aa (aj (n:=0) (ae 7)) (aa (aL (eB (aj (n:=1) (ae 7)) bN (bD (jA aq))) (av (aa (av (aa aA (aa (aj (n:=1) (ae 4)) af))) af))) af))) af)))) af)))) (au (aG (kW (ae 5) (dR (v:=.ref oz) rfl j7 rfl zi) rfl) (au (bT (bq (ae 6) (aa (av (aa aA (aa (aj (n:=1) (ae 4)) (aa (ae 7) af)))) af)))) ay))) (λR kk=>?_);rw[er];walk_at "vc";refine gk (by decide +kernel) ⟨⟨rfl,by decide +kernel⟩,gk (by decide +kernel) (kk _ _ ?_)⟩;clear kk R;refine ah (az (i:=8) cS.nd rfl (aad rfl) (aw sA pY pX (hr.mono (by decide)) rfl (aa (aj (n:=5) (bj (aj (n:=1) (ae 0)) (ae 1) (λ_ _=>rfl))) (aa (ae 2) af)))) (λR kk=>?_);walk_at "vc";refine⟨_,bg (f:=kI) hp,?_⟩;rw[cC,hsp];walk_at "vc";refine⟨_,rfl,kk _ _ ?_⟩;clear kk R;refine ah (aG (wa.dt (pA (kW (ae 5) (dR (v:=.ref fq) rfl ef rfl p6) rfl) (jC (jB (ae 8) bS)))) (au (bT (bq (ae 6) (aa (av (aa aA (aa (ae 8) (aa (av (aa (aj (n:=0) (ae 3)) (aa (av (aa (av (aa aA af)) af)) af))) af)))) af)))) ay) (λR kk=>?_);walk_at "vc";refine⟨⟨rfl,by decide +kernel⟩,?_⟩;refine B6 (by decide +kernel) (lE rfl (kk _ _ ?_));clear kk R;refine aK (ax (ae 6)) ?_;walk_at "vc";rw[xw]at q;exact q
theorem dm:aI ["book","part","at","stand","kept","word","behind","lead"] ["book","part","at","stand","kept"] (dS iX):=by walk_at "sc"
theorem vQ{f:Addr}{fd:FuncData}(F:gf K "stand_after" "stand_after" iX f fd)(IH:bM P w K mg base bf "breaks" 5 ["book","part","at","stand"] (sv K))(QF:bM P w K mg base bf "outs" 4 ["book","part","at","stand"] (yS K)):bB P w K mg base bf 6 f fd ["book","part","at","stand","kept"] (eV K):=by
 refine F.ok dm (λvs H Q E h=>?_) (λcdv A outer s H vs Q E hr h=>?_)
 ·obtain⟨v0,vc,j,i,d,ms,ps,zs,p,r,B,rfl,hB,g,hv,hp,hr',h3,hsp,hh,q⟩:=h;rfl
 obtain⟨v0,vc,j,i,d,ms,ps,zs,p,r,B,rfl,hB,g,hv,hp,hr',h3,hsp,hh,q⟩:=h;refine⟨_,(qK (eI (i:=5) dm.nd rfl (aad rfl) (ip IH (hr.mono (by decide)) rfl (pK (pv 0) (pK (pv 1) (pK (pv 2) (pK (pv 3) pN))))))
   (qK (qr (tR qx (pv 5) rO (dX _)) (qO fD) il)
   (qK (eI (i:=6) dm.nd rfl (aad rfl) rO)
   (qK (Bu aa7 rfl (xU (ip QF (hr.mono (by decide)) rfl (pK (pv 0) (pK (pv 1) (pK (pv 2) (pK (pv 3) pN)))))) (bY (i:=7) dm.nd rfl (aad rfl)) (qO (qr (tR Gb (cY cM (pv 7) pI (λ_ _=>rfl)) oZ (dX _)) (qO (eI (i:=6) dm.nd rfl (aad rfl) (cY cM (pv 7) pI (λ_ _=>rfl)))) (qO fD))))
   (qO (kM (pv 6))))))),?_⟩
 have hb:bR (aX K H) [v0,.int (j:Int),.int (i:Int),vc] [uy ms ps,.int (j:Int),.int (i:Int),iz (B,FF r)]:=.cons hB (.cons (.int _) (.cons (.int _) (.cons hv .nil)));refine⟨_,rfl,_,rfl,_,rfl,_,rfl,iA ES hb ⟨ms,zs,ps,j,i,p,r,B,rfl,g,hp,hr',h3,hh,λv1 H1 s1 r1=>?_⟩⟩;cases r1;refine⟨_,rfl,rfl,_,rfl,dI ?_⟩;dsimp only[uF];refine⟨_,rfl,_,rfl,_,rfl,_,rfl,iA LY (hb.imp λ_ _ z=>z.same s1) ⟨ms,ps,j,i,p,r,B,rfl,hp,hr',h3,hsp,λv2 H2 s2 r2=>?_⟩⟩;obtain⟨L,ys,rfl,hS,hY⟩:=aX.cN r2;refine⟨L,rfl,⟨_,hS⟩,?_⟩;refine FY (xs:=ys) (λk σ H3=>H3=H2/\∃(o6:V) (o7:Option V),σ=[some v0,some (.int (j:Int)),some (.int (i:Int)),some vc,some d,some .non,some o6,o7]/\(0 < k->aX K H2 o6 (iz (B,EO r)))) ⟨rfl,_,_,rfl,λz=>absurd z (Nat.lt_irrefl _)⟩ ?_ ?_ ?_
 ·rintro k σ H3 _ ⟨rfl,_⟩;exact hS
 ·rintro k y σ H3 hy ⟨rfl,o6,o7,rfl,_⟩;have hk:k < (B4 r i B).length:=by rw[← hY.1];exact(bz hy).1
  have YN:=hY.2 k y _ hy (cW hk);obtain⟨_,e⟩:=LQ h3 (cW hk);rw[e]at YN;obtain⟨t,us,rfl,hT,hU⟩:=aX.bL YN;obtain⟨u0,u1,u2,rfl⟩:=Wt hU.1;have r0:=hU.2 0 u0 _ rfl rfl;cases r0;refine⟨_,rfl,t,_,_,_,rfl,rfl,hT,aN (j:=0) rfl,rfl,_,rfl,Y5 rfl ?_⟩;exact⟨_,rfl,t,_,_,_,rfl,rfl,hT,aN (j:=2) rfl,rfl,_,_,rfl,λ_=>hU.2 2 u2 _ rfl rfl⟩
 ·rintro σ H3 ⟨rfl,o6,o7,rfl,h6⟩;refine⟨_,rfl,q o6 _ (s1.trans s2) λn=>h6 ?_⟩;rw[hY.1];exact Ij h3 i B n
theorem sC:aI ["makes","one","other"] ["makes","one","other"] (dS fW):=by walk_at "sc"
theorem sD{f:Addr}{fd:FuncData}(F:gf K "stand_beneath" "stand_beneath" fW f fd)(cL:bM P w K mg base bf "all_beneath" 4 ["makes","some","others"] (da K)):bB P w K mg base bf 5 f fd ["makes","one","other"] (fi K):=by
 refine F.ok sC (λvs H Q E h=>?_) (λcdv A outer s H vs Q E hr h=>?_)
 ·obtain⟨PP,ds,hP,hv,ms,zs,s,t,rfl,g,h1,h2,u1,u2,l1,l2,q⟩:=h;exact hv.1
 obtain⟨PP,ds,hP,hv,ms,zs,s,t,rfl,g,h1,h2,u1,u2,l1,l2,q⟩:=h;refine aP hP hv ?_;show gZ _ _ _ _ [some _,some _,some _] [];clear hP hv;refine aK (ax (oa (aw cL df dc (hr.mono (by decide)) rfl (aa (ae 0) (aa (aj (n:=0) (ae 1)) (aa (aj (n:=0) (ae 2)) af)))) (kX (aw cL df dc (hr.mono (by decide)) rfl (aa (ae 0) (aa (aj (n:=1) (ae 1)) (aa (aj (n:=1) (ae 2)) af))))))) ?_;rw[jJ,jJ];walk_at "vc";exact⟨ms,zs,s.1,t.1,_,rfl,g,h1,u1,l1,.inl rfl,cT ⟨ms,zs,s.2,t.2,_,rfl,g,h2,u2,l2,.inl rfl,q⟩⟩
theorem AQ:aI ["book","part","at","came","kept"] ["book","part","at","came","kept"] (dS pP):=by walk_at "sc"
theorem AR{f:Addr}{fd:FuncData}(F:gf K "stand_at" "stand_at" pP f fd)(um:bM P w K mg base bf "stand_beneath" 5 ["makes","one","other"] (fi K)):bB P w K mg base bf 6 f fd ["book","part","at","came","kept"] (iP K):=by
 refine F.ok AQ (λvs H Q E h=>?_) (λcdv A outer s H vs Q E hr h=>?_)
 ·obtain⟨v0,vc,j,i,d,kvs,ms,ps,zs,C,S,B,rfl,hB,g,hd,hv,hC,lC,hu,q1,q⟩:=h;rfl
 obtain⟨v0,vc,j,i,d,kvs,ms,ps,zs,C,S,B,rfl,hB,g,hd,hv,hC,lC,hu,q1,q⟩:=h;refine⟨_,(qK (qr (OE (Ez (Gr hr) (pv 2) (pv 4))) (qO (kM (pv 3))) il)
   (qK (qr (PW.pt (pw_and (tR qx (pv 3) rO (dX _)) (pw_and1 (FL (FK (ip um (hr.mono (by decide)) rfl (pK (cY cM (pv 0) pI (λ_ _=>rfl)) (pK (pv 3) (pK (C7 (Gr hr) (pv 4) (pv 2) (λ_ _=>rfl)) pN))))))))) (qO fD) il)
   (qO (kM (C7 (Gr hr) (pv 4) (pv 2) (λ_ _=>rfl)))))),?_⟩
 obtain⟨b,ys,rfl,hT,hY⟩:=aX.bL hB;obtain⟨mk,pl,rfl⟩:=Ul hY.1;have hM:=hY.2 0 mk _ rfl rfl;refine⟨_,rfl,_,rfl,d,_,rfl,wj.k (k:=Sum.inl i) hd,_,rfl,?_⟩
 cases hval:rT kvs (Sum.inl i)with
 | none=>exact cT ⟨_,rfl,q _ H C (aS.refl _) (.inl rfl) hv⟩
 | some w =>
  refine dI ?_;obtain⟨rfl,hw⟩:=q1 w hval;have hg:∀H',aS H H'->wj H' d (.int i) (some w):=λH' s=>by rw[← hval];exact wj.k (k:=Sum.inl i) (s _ _ hd)
  obtain⟨va,vs,rfl,_⟩:=aX.bL hv;dsimp only[uF];refine⟨_,rfl,rfl,_,rfl,cT ⟨_,rfl,b,_,_,_,rfl,rfl,hT,aN (j:=0) rfl,_,rfl,_,rfl,_,rfl,d,w,rfl,hg H (aS.refl _),iA sy (.cons hM (.cons hv (.cons hw .nil))) ⟨ms,zs,(C,[]),(B,[]),rfl,g,hC,rfl,hu,Up.nil,lC,Nat.zero_le _,λv1 H1 s1 r1=>?_⟩⟩⟩;cases r1;refine⟨_,rfl,dI ?_⟩;dsimp only[uF];exact⟨_,rfl,_,rfl,d,w,rfl,hg H1 s1,q w H1 B s1 (.inr rfl) (hw.same s1)⟩
theorem jo:aI ["book","part","papers","kept","stand","at"] ["book","part","papers"] (dS yE):=by walk_at "sc"
theorem II{f:Addr}{fd:FuncData}(F:gf K "check" "check" yE f fd)(vR:mg "dict"=none)(aO:mg "len"=none)(cc:mg "range"=none)(zj:bM P w K mg base (xg P w) "check_form" 6 ["book","part","papers"] (fz K ar))(L6:bM P w K mg base bf "entry" 1 ["book","part"] (vA K))(wG:bM P w K mg base bf "stand_after" 6 ["book","part","at","stand","kept"] (eV K))(Cm:bM P w K mg base bf "stand_at" 6 ["book","part","at","came","kept"] (iP K)):bB P w K mg base (xg P w) 7 f fd ["book","part","papers"] (qW K ar):=by
 refine F.Yx jo (λvs H Q E h=>?_) (λcdv A outer s H vs Q E hr h=>?_)
 ·obtain⟨PP,ds,hP,hv,ms,zs,ps,j,p,pps,rfl,g,hp,hl,q,x⟩:=h;exact hv.1
 obtain⟨PP,ds,hP,hv,ms,zs,ps,j,p,pps,rfl,g,hp,hl,q,x⟩:=h;refine xq (Ex:=λC fs=>∀dd H',aS H H'->EG K PP H' dd fs->E (.ref C) dd H') hP hv (λ_ _ z=>z) ?_;show gZ _ _ _ _ [some _,some _,some _,none,none,none] [];clear hP hv;refine ah (bT (HR zj K0 wx wu (hr.mono (by decide)) rfl (aa (ae 0) (aa (ae 1) (aa (ae 2) af))))) (λR kk=>?_);walk_at "vc";refine⟨ms,zs,ps,j,p,pps,rfl,g,hp,hl,λhb=>kk _ _ ?_,x⟩;obtain⟨F,q⟩:=q hb;clear kk R;refine Dy (qK (eI (i:=3) jo.nd rfl (aad rfl) (HZ rfl vR rfl (pK (pv 2) pN)))
   (qK (eI (i:=4) jo.nd rfl (aad rfl) (ip L6 (hr.mono (by decide)) rfl (pK (pv 0) (pK (pv 1) pN))))
   (qO (Bu PassesOwn.leaving rfl (wO rfl cc (pK (gR gp rfl aO x9 (pK (cY cM (cY ur (cY cM (pv 0) pI (λ_ _=>rfl)) (pv 1) (λ_ _=>rfl)) pI (λ_ _=>rfl)) pN)) pN)) (bY (i:=5) jo.nd rfl (aad rfl)) (qK (eI (i:=4) jo.nd rfl (aad rfl) (ip Cm (hr.mono (by decide)) rfl (pK (pv 0) (pK (pv 1) (pK (pv 5) (pK (pv 4) (pK (pv 3) pN)))))))
   (qO (qr (tR qx (pv 4) rO (dX _)) (qO (eI (i:=4) jo.nd rfl (aad rfl) (ip wG (hr.mono (by decide)) rfl (pK (pv 0) (pK (pv 1) (pK (pv 5) (pK (pv 4) (pK (pv 3) pN)))))))) il))))))) ?_
 intro H0 A0 G al H1 σ D I En k;obtain⟨a0,a1,a2,a3,a4,a5,rfl⟩:=Wu En.1;obtain⟨v0,e0,r0⟩:=En.2 0 _ rfl;obtain⟨v1,e1,r1⟩:=En.2 1 _ rfl;obtain⟨v2,e2,r2⟩:=En.2 2 _ rfl;cases e0;cases e1;cases e2;have r0:aX K H1 v0 (uy ms ps):=aE.now r0;have r1:aX K H1 v1 (.int (j:Int)):=aE.now r1;cases r1;have r2:aX K H1 v2 (.list (pps.map i8)):=aE.now r2;obtain⟨pl,ys,rfl,hS,hY⟩:=aX.cN r2;obtain⟨kvs,k1,k2,k3⟩:=Ai (K:=K) (H:=H1) (pps:=pps) (ys:=ys) hY;have lk:kvs.length=pps.length:=by have:=congrArg List.length k1;simpa using this
 refine⟨_,rfl,pl,ys,kvs,rfl,hS,by rw[k1];exact F.nd,by rw[lk];exact F.le,by rw[hY.1,List.length_map,lk],k2,λd hd=>?_⟩;have sd:=sN hd (.dK (kvs.map λp=>((Sum.inl p.1:Key),p.2)));have gd:=uS (H:=H1) (a:=d) (o:=.dK (kvs.map λp=>((Sum.inl p.1:Key),p.2)));generalize upd H1 d (.dK (kvs.map λp=>((Sum.inl p.1:Key),p.2)))=H2 at sd gd ⊢;dsimp only[gc];refine⟨_,rfl,_,rfl,iA IC (.cons (r0.same sd) (.cons (.int _) .nil)) ⟨ms,ps,j,p,rfl,hp,F.bx,F.tb,λv3 H3 s3 r3=>?_⟩⟩;dsimp only[gc];have S3:=sd.trans s3;obtain⟨b,bs,rfl,hT,hBs⟩:=aX.bL r0;obtain⟨mk,pa,rfl⟩:=Ul hBs.1;obtain⟨pr,us,rfl,hPS,hUs⟩:=aX.cN (hBs.2 1 pa _ rfl rfl);obtain⟨u,hu,hur⟩:=bV.at hUs (i:=j) (d:=kI p) (by rw[List.getElem?_map,hp];rfl);obtain⟨t,ts,rfl,hTT,hTs⟩:=aX.bL hur;obtain⟨t0,t1,t2,t3,t4,t5,rfl⟩:=Wu hTs.1;obtain⟨ra,rs,rfl,hRS,hRs⟩:=aX.cN (hTs.2 4 t4 _ rfl rfl);have lrs:rs.length=p.rows.length:=by rw[hRs.1,List.length_map]
 obtain⟨B,uB,oB,hB⟩:=F.pp;refine⟨_,rfl,b,_,_,_,rfl,rfl,S3.tup hT,aN (j:=1) rfl,_,rfl,pr,_,_,_,rfl,rfl,S3.seq hPS,aN hu,t,_,_,_,rfl,rfl,S3.tup hTT,aN (j:=4) rfl,ra,rs,rfl,.inl (S3.seq hRS),?_⟩;have lr:=F.r2;refine⟨_,rfl,by omega,by omega,?_⟩;refine D5 (lo:=0) (n:=((rs.length:Nat):Int).toNat) (λi σ H4=>∃(vs:V) (o5:Option V),σ=[some (.ref b),some (.int (j:Int)),some (.ref pl),some (.ref d),some vs,o5]/\aS H3 H4/\(i < rs.length->∃C,aX K H4 vs (iz (C,if i % 2=0 then []else [.num]))/\Up C B/\C.all (kK zs)=true/\C.length=p.boxes)) ?_ ?_ ?_
 ·refine⟨v3,_,rfl,aS.refl _,λ_=>⟨B5 p,r3,uB,F.tk,?_⟩⟩;unfold B5;rw[List.length_append,List.length_map,List.length_replicate];have:=F.tb;omega
 ·rintro i σ H4 hi ⟨vs,o5,rfl,s4,hC⟩;rw[acv]at hi;obtain⟨C,rC,uC,oC,lC⟩:=hC hi;have S4:=S3.trans s4;have l8:=F.bx;obtain⟨r,YO⟩:∃r,p.rows[i]?=some r:=⟨_,cW (by omega)⟩;have e0:(0:Int) + (i:Int)=(i:Int):=by omega
  rw[e0];dsimp only[gc];refine⟨_,rfl,_,rfl,_,rfl,_,rfl,_,rfl,.ref b,vs,j,i,d,_,ms,ps,zs,C,_,B,rfl,(aX.wg hT hBs).same S4,g,s4 _ _ (s3 _ _ gd),rC,oC,by omega,uC,λw hw=>?_,λw H5 C5 s5 hc r5=>?_⟩
  ·obtain⟨pp,hpp,a1,a2⟩:=k3 _ (DJ hw);obtain⟨b1,b2⟩:=hB pp hpp;rw[b1]at a2;refine⟨aaD ?_,a2.same S4⟩;have a1:pp.1=(i:Int):=a1;omega
  have S5:=S4.trans s5
  have h5:Up C5 B/\C5.all (kK zs)=true/\C5.length=p.boxes:=by
   rcases hc with rfl | rfl
   ·exact⟨uC,oC,lC⟩
   ·exact⟨Up.refl _,oB,by rw[uC.1];exact lC⟩
  obtain⟨a,ws,rfl,_⟩:=aX.bL r5;dsimp only[gc];refine⟨_,rfl,rfl,_,rfl,cT ?_⟩
  have h3:Row3 r/\FF r=(if i % 2=0 then []else [.num])/\(r≠.bare "toss"->EO r=if (i + 1) % 2=0 then []else [.num])/\(r=.bare "toss"->i + 1=p.rows.length):=by
   rcases F.ro i r YO with⟨e,w,rfl⟩ | ⟨e,rfl | ⟨rfl,e2⟩⟩
   ·exact⟨.push w,(aaD e).symm,λ_=>(aaF (by omega)).symm,λz=>by cases z⟩
   ·exact⟨.drop,(aaF (by omega)).symm,λ_=>(aaD (by omega)).symm,λz=>absurd (Rw.bare.inj z) (by decide +kernel)⟩
   ·exact⟨.toss,(aaF (by omega)).symm,λz=>absurd rfl z,λ_=>e2⟩
  obtain⟨h3,hs,hpt,hts⟩:=h3;rw[← hs]at r5;refine⟨_,rfl,_,rfl,_,rfl,_,rfl,_,rfl,.ref b,_,j,i,_,ms,ps,zs,p,r,C5,rfl,(aX.wg hT hBs).same S5,g,r5,hp,YO,h3,F.sp,F.hh,λv H6 s6 r6=>?_⟩;refine⟨v,_,rfl,s4.trans (s5.trans s6),λhi2=>⟨C5,?_,h5⟩⟩;have nt:r≠.bare "toss":=λz=>by have:=hts z;omega
  rw[← hpt nt];exact r6 nt
 ·rintro σ H4 ⟨vs,o5,rfl,s4,_⟩;have S4:=S3.trans s4;refine k.nx (List.replicate 6 none) _ al _ H4 (.same S4) (I.same S4) ⟨rfl,λi dv h=>?_⟩ q;rw[List.getElem?_replicate]at h;split at h<;>cases h
theorem eX:aI ["_law_book_here","_law_part_here","_law_papers_here","_law_told_here","_law_found","e"] ["_law_book_here","_law_part_here","_law_papers_here"] (dS pQ):=by walk_at "sc"
theorem zk{f:Addr}{fd:FuncData}(F:gf K "_law_told" "_law_told" pQ f fd)(eY:mg "ValueError"=none)(bF:mg "isinstance"=none){ar:Addr}(fj:mg "NoPaper"=some (.ref ar))(fk:PySem.W.ktsIn K ar "BaseException"=true){ie:Addr}(lP:mg "NoPass"=some (.ref ie))(rb:PySem.W.ktsIn K ie "BaseException"=true){bG:Addr}(dP:mg "WardenError"=some (.ref bG))(fB:PySem.W.excIn K bG (GL true) (Pm true)=true)(fC:PySem.W.ktsIn K bG "BaseException"=true)(rf:bM P w K mg base bf "_law_whole" 1 ["_law_found"] (gA K))(L7:bM P w K mg base (xg P w) "check" 7 ["book","part","papers"] (qW K ar))(IJ:PySem.W.mroIn K ar (.ref ar)=some true)(fK:PySem.W.findIn K (.ref ar) "__getattribute__"=some (some (.builtin "BaseException.__getattribute__")))(fL:PySem.W.findIn K (.ref ar) "__getattr__"=some none)(fM:PySem.W.findIn K (.ref ar) "__class__"=some (some (.builtin "object.__class__")))(fN:PySem.W.mroIn K ar (.type "BaseException")=some true)(fO:PySem.W.mroIn K ar (.type "object")=some true)(fP:PySem.W.hasDictIn K ar=true)(IK:PySem.W.kitOne K (.ref ar) (.ref bG)=some true)(IL:PySem.W.kitOne K (.ref ar) (.type "ValueError")=some true)(UC:fR K ar "part")(UD:fR K ar "at")(UE:fR K ar "word")(IM:PySem.W.kitOne K (.ref ar) (.ref ie)=some false):bB P w K mg base bf 8 f fd ["_law_book_here","_law_part_here","_law_papers_here"] (iQ K):=by
 refine F.ok eX (λvs H Q E h=>?_) (λcdv A outer s H vs Q E hr h=>?_)
 ·obtain⟨PP,ds,hP,hv,ms,zs,ps,j,p,pps,rfl,g,hp,hl,hF,q⟩:=h;exact hv.1
 obtain⟨PP,ds,hP,hv,ms,zs,ps,j,p,pps,rfl,g,hp,hl,hF,q⟩:=h;refine aP hP hv ?_;show gZ _ _ _ _ [some _,some _,some _,none,none,none] [];clear hP hv;refine ah (az (i:=3) eX.nd rfl (aad rfl) bS) (λR kk=>?_);walk_at "vc";refine kk _ _ ?_;clear kk R;refine ah (az (i:=4) eX.nd rfl (aad rfl) bS) (λR kk=>?_);walk_at "vc";refine kk _ _ ?_;clear kk R;refine ah (LD (i:=5) (j:=4) L7 IE ID (hr.mono (by decide)) rfl (Ue λ_=>(aa (ae 0) (aa (ae 1) (aa (ae 2) af)))) rfl fj fk eX.nd rfl rfl rfl (aad rfl) (Ug λ_ _=>(au (az (i:=3) eX.nd rfl (aad rfl) (av (aa (BX (ae 5)) (aa (BX (ae 5)) (aa (BX (ae 5)) (aa (Ac rfl bF rfl dP (ae 5)) (aa (HW rfl bF rfl eY we (ae 5)) (aa (Ac rfl bF rfl lP (ae 5)) af))))))))))) (λR kk=>?_);walk_at "vc";refine⟨ms,zs,ps,j,p,pps,rfl,g,hp,hl,λhb=>⟨hF hb,kk _ _ ?_⟩,λa hb=>⟨IJ,?_⟩⟩
 ·clear kk R;rw[hb]at q;refine ah (aG (jB (ae 4) bS) (au (ax (av (aa aA af)))) ay) (λR kk=>?_);walk_at "vc";refine dI (kk _ _ ?_);clear kk R;refine ah (aG (Hi (ae 3) bS) (au (ax bS)) ay) (λR kk=>?_);walk_at "vc";exact cT q
 ·rw[hb]at q;walk_at "vc";have kx:KX K ar/\PySem.W.hasDictIn K ar=true:=⟨⟨fK,fL,fM,fN,fO⟩,fP⟩;refine⟨ar,_,_,rfl,⟨kx.1,kx.2,UC⟩,rfl,ar,_,_,rfl,⟨kx.1,kx.2,UD⟩,rfl,ar,_,_,rfl,⟨kx.1,kx.2,UE⟩,rfl,ar,_,true,rfl,kx,IK,ar,_,true,rfl,kx,IL,ar,_,false,rfl,kx,IM,kk _ _ ?_⟩;clear kk R;refine ah (aG (jB (ae 4) bS) (au (ax (av (aa aA af)))) ay) (λR kk=>?_);walk_at "vc";refine dI (kk _ _ ?_);clear kk R;refine ah (aG (Hi (ae 3) bS) (au (ax bS)) ay) (λR kk=>?_);walk_at "vc";refine dI (kk _ _ ?_);clear kk R;refine ah (aG (wa.dt (qE (kH (hr.units) (eB (ae 3) (bD aq) bN) (av (aa fc (aa fc (aa fc af))))) (qE (ff (pq (aw rf qR qQ (hr.mono (by decide)) rfl (aa (aj (n:=0) (ae 3)) af)))) (px (ff (pq (aw rf qR qQ (hr.mono (by decide)) rfl (aa (aj (n:=1) (ae 3)) af)))))))) (au (ax (av (aa aA af)))) ay) (λR kk=>?_);walk_at "vc";rw[Us];refine⟨⟨rfl,rfl⟩,lE rfl ⟨_,rfl,?_⟩⟩;walk_at "vc";refine lE rfl ⟨_,rfl,?_⟩;walk_at "vc";refine lE rfl (kk _ _ ?_);clear kk R;refine aK (ax (eB (ae 3) bN (bD aq))) ?_;walk_at "vc";rw[Ut];exact q
theorem cj:aI ["_law_book_here","_law_number","_law_cell_here","_law_rows","_law_at"] ["_law_book_here","_law_number","_law_cell_here"] (dS cB):=by walk_at "sc"
theorem i6{f:Addr}{fd:FuncData}(F:gf K "_law_with_a_wrong_row" "_law_with_a_wrong_row" cB f fd)(aO:mg "len"=none)(aD:bM P w K mg base bf "_law_mixed" 1 ["_law_cell_here","_law_k"] (bE K)):bB P w K mg base bf 2 f fd ["_law_book_here","_law_number","_law_cell_here"] (bK K):=by
 refine F.ok cj (λvs H Q E h=>?_) (λcdv A outer s H vs Q E hr h=>?_)
 ·obtain⟨PX,b,l4,c,ms,ps,j,p,rfl,hPX,hC,r2,WD,hB,q⟩:=h;rfl
 obtain⟨PX,b,l4,c,ms,ps,j,p,rfl,hPX,hC,r2,WD,hB,q⟩:=h;refine⟨_,(qK (eI (i:=3) cj.nd rfl (aad rfl) (cY cM (cY ur (cY cM (pv 0) pI (λ_ _=>rfl)) (pv 1) (λ_ _=>rfl)) pI (λ_ _=>rfl)))
   (qK (qr (tR Ge (wQ uI (pv 2) pI) pI (dX _)) (qK (eI (i:=4) cj.nd rfl (aad rfl) (wQ uI (ip aD (hr.mono (by decide)) rfl (pK (pv 2) (pK pI pN))) (wQ FZ (gR gp rfl aO x9 (pK (pv 3) pN)) pI)))
   (qO (FT (cY ur (BA (pK (ju (pK oZ pN)) (pK (ju (pK oZ (pK (wQ uI (ip aD (hr.mono (by decide)) rfl (pK (pv 2) (pK pI pN))) (gR gp rfl aO x9 (pK (pv 3) pN))) pN))) (pK (ju (pK oZ pN)) (pK (ju (pK oZ pN)) pN))))) (wQ uI (ip aD (hr.mono (by decide)) rfl (pK (pv 2) (pK pI pN))) pI) (λ_ _=>rfl)) (FR (pv 3) (pv 4) set_list)))) il)
   (qO (kM (pv 0))))),?_⟩
 obtain⟨mk,pl,t,ys,x0,x1,x2,x3,x5,rv,h1,h2,h3,h4,h5,h6⟩:=hC.at';have lrv:rv.length=p.rows.length:=by rw[h6.1,aaa]
 refine⟨_,rfl,b,_,_,_,rfl,rfl,dG.of h1,aN (j:=1) rfl,_,rfl,pl,_,_,_,rfl,rfl,dC.of h2,aN h3,t,_,_,_,rfl,rfl,dG.of h4,aN (j:=4) rfl,?_⟩;dsimp only[gc];refine⟨_,rfl,_,_,rfl,rfl,(by show(0:Int) < 4;decide),_,_,rfl,rfl,_,rfl,VP (λz=>?_) (λz=>?_)⟩;rotate_left
 ·dsimp only[uF];exact⟨_,rfl,q p.rows H (λc o _ e=>e) rfl hB (hC.rd (cutH PX H) rv p.rows (λ_ _ n _ e=>ba.mpr ⟨n,e⟩) (ba.mpr ⟨hC.np,h5⟩) ⟨h6.1,h6.2⟩)⟩
 refine⟨_,rfl,iA aM (.cons (.int _) (.cons (.int _) .nil)) ⟨c,1,rfl,by decide,by decide,λv _ _ v1 H1 s1 r1=>?_⟩⟩;cases r1;refine⟨_,rfl,l4,rv,rfl,.inl (dC.of (s1 _ _ h5)),_,_,rfl,rfl,_,_,rfl,rfl,by omega,?_⟩;dsimp only[gc];refine⟨Vs,λa1 n1=>?_⟩;have u1:=sN n1 (.tup [.str "drop"]);have g1:=uS (H:=H1) (a:=a1) (o:=.tup [.str "drop"]);generalize upd H1 a1 (.tup [.str "drop"])=H2 at u1 g1;refine⟨_,rfl,iA aM (.cons (.int _) (.cons (.int _) .nil)) ⟨c,2,rfl,by decide,by decide,λv2 _ _ w2 H3 s3 r3=>?_⟩⟩;cases r3;have S3:=s1.trans (u1.trans s3);refine⟨_,rfl,l4,rv,rfl,.inl (dC.of (S3 _ _ h5)),_,_,rfl,rfl,by omega,Vt,λa2 n2=>?_⟩;obtain⟨m2,Z2,JR⟩:=e9 v2 (m:=(rv.length:Int)) (n:=rv.length) rfl (by omega);rw[Z2];have u2:=sN n2 (.tup [.str "jump",.int (m2:Int)]);have g2:=uS (H:=H3) (a:=a2) (o:=.tup [.str "jump",.int (m2:Int)]);generalize upd H3 a2 (.tup [.str "jump",.int (m2:Int)])=H4 at u2 g2;refine⟨Vs,λa3 n3=>?_⟩;have u3:=sN n3 (.tup [.str "toss"]);have g3:=uS (H:=H4) (a:=a3) (o:=.tup [.str "toss"]);generalize upd H4 a3 (.tup [.str "toss"])=H5 at u3 g3;refine⟨Vs,λa4 n4=>?_⟩;have u4:=sN n4 (.tup [.str "swap"]);have g4:=uS (H:=H5) (a:=a4) (o:=.tup [.str "swap"]);generalize upd H5 a4 (.tup [.str "swap"])=H6 at u4 g4;refine⟨YU,λL nL=>?_⟩;have u5:=sN nL (.lst [.ref a1,.ref a2,.ref a3,.ref a4]);have g5:=uS (H:=H6) (a:=L) (o:=.lst [.ref a1,.ref a2,.ref a3,.ref a4]);generalize upd H6 L (.lst [.ref a1,.ref a2,.ref a3,.ref a4])=H7 at u5 g5;refine⟨_,rfl,iA aM (.cons (.int _) (.cons (.int _) .nil)) ⟨c,3,rfl,by decide,by decide,λv3 _ _ w3 H8 s8 r8=>?_⟩⟩;cases r8;have S8:=S3.trans (u2.trans (u3.trans (u4.trans (u5.trans s8))));obtain⟨k,ek,hk⟩:=e9 v3 (m:=4) (n:=4) rfl (by decide);refine⟨_,_,rfl,rfl,(by show(0:Int) < 4;decide),?_⟩
 obtain⟨x,row,hx,hrw,hrb⟩:∃(x:V) (row:Rw),sP [V.ref a1,.ref a2,.ref a3,.ref a4] (v3 % 4)=some x/\(∀H9,(∀c o,¬ PX c->c≠l4->H8 c=some o->H9 c=some o)->aX K H9 x (qI row))/\Sf row:=by
  have z5:=s8.trans (aS.refl H8);have nn:∀a,H1 a=none->a≠l4:=λa ha=>(nN (s1 _ _ h5) ha).symm
  have fr:∀a,H1 a=none->¬ PX a:=λa ha z=>by obtain⟨o,e⟩:=hPX a z;rw[s1 a o e]at ha;cases ha
  have k1:=fr a1 n1;have k2:=fr a2 (u1.free (s3.free n2));have k3:=fr a3 (u1.free (s3.free (u2.free n3)));have k4:=fr a4 (u1.free (s3.free (u2.free (u3.free n4))));have m1:a1≠l4:=nn a1 n1;have m2':a2≠l4:=nn a2 (u1.free (s3.free n2));have m3:a3≠l4:=nn a3 (u1.free (s3.free (u2.free n3)));have m4:a4≠l4:=nn a4 (u1.free (s3.free (u2.free (u3.free n4))));have q5:=u5.trans s8;have q4:=u4.trans q5;have q3:=u3.trans q4;have q2:=s3.trans (u2.trans q3);rw[ek]
  match k,hk with
  | 0,_=>exact⟨_,.bare "drop",rfl,λH9 hs=>aX.wg (dG.of (hs _ _ k1 m1 (q2 _ _ g1))) (.cons (.str _) .nil),.inl rfl⟩
  | 1,_=>exact⟨_,.jump m2,rfl,λH9 hs=>aX.wg (dG.of (hs _ _ k2 m2' (q3 _ _ g2))) (.cons (.str _) (.cons (.int _) .nil)),show m2 < 1000 by omega⟩
  | 2,_=>exact⟨_,.bare "toss",rfl,λH9 hs=>aX.wg (dG.of (hs _ _ k3 m3 (q4 _ _ g3))) (.cons (.str _) .nil),.inr (.inl rfl)⟩
  | 3,_=>exact⟨_,.bare "swap",rfl,λH9 hs=>aX.wg (dG.of (hs _ _ k4 m4 (q5 _ _ g4))) (.cons (.str _) .nil),.inr (.inr rfl)⟩
 refine⟨L,_,_,x,rfl,rfl,dC.of (s8 _ _ g5),hx,?_⟩;obtain⟨at',ea,ha⟩:=e9 v (m:=(rv.length:Int) - 1) (n:=rv.length - 1) (by omega) (by omega);rw[ea];have sX:∀c o,c≠l4->H8 c=some o->upd H8 l4 (.lst (rv.set at' x)) c=some o:=λc o n e=>by rw[uN n];exact e
 have gX:upd H8 l4 (.lst (rv.set at' x)) l4=some (.lst (rv.set at' x)):=uS;refine⟨_,rfl,_,rfl,l4,rv,_,at',rfl,rfl,S8 _ _ h5,qJ (by omega),?_⟩;generalize upd H8 l4 (.lst (rv.set at' x))=H9 at sX gX
 have rX:bV K (cutH PX H9) (rv.set at' x) ((p.rows.set at' row).map qI):=by
  rw[aci];refine bV.set ⟨h6.1,λi y d hy hd=>?_⟩ (hrw (cutH PX H9) λc o n1 n2 e=>ba.mpr ⟨n1,sX c o n2 e⟩);obtain⟨r,hr,rfl⟩:=dZ hd
  exact QA (h6.2 i y _ hy (by rw[aaR,hr];rfl)) λc o e nl=>by
   obtain⟨n,e⟩:=ba.mp e;exact ba.mpr ⟨n,sX c o (λz=>by subst z;rw[h5]at e;cases e;exact nl _ rfl) (S8 c o e)⟩
 refine⟨_,rfl,q (p.rows.set at' row) H9 (λc o n e=>sX c o n (S8 c o e)) (by rw[aaH]) (λr hr=>?_) (hC.rd (cutH PX H9) _ _ (λc o n0 n e=>ba.mpr ⟨n0,sX c o n (S8 c o e)⟩) (ba.mpr ⟨hC.np,gX⟩) rX)⟩;rcases abf hr with h | rfl
 ·exact hB r h
 ·exact hrb
theorem dF:aI ["_law_script","_law_book_here","_law_number","_law_makes_here","_law_part_here","_law_papers_here","_law_told_here","_law_k","_law_paper","_law_due_here","_law_at","_law_kept","_law_text","_law_handed"] ["_law_script"] (dS qH):=by walk_at "sc"
theorem QG{f:Addr}{fd:FuncData}(F:gf K "law" "law" qH f fd)(dh:mg "enumerate"=none)(dE:mg "list"=none)(sE:mg "repr"=none)(AU:bM P w K mg base bf "_law_book" 4 ["_law_script"] (iG K))(br:bM P w K mg base bf "_law_cell" 2 ["_law_script","_law_k"] (eD K))(lQ:bM P w K mg base bf "_law_changed" 4 ["_law_makes_here","_law_part_here","_law_papers_here","_law_cell_here"] (eS K))(AV:bM P w K mg base bf "_law_copy" 1 ["_law_book_here"] (iH K))(Co:bM P w K mg base bf "_law_due" 3 ["_law_makes_here","_law_part_here","_law_papers_here"] (jR K))(wH:bM P w K mg base bf "_law_papers" 3 ["_law_script","_law_part_here"] (fw K))(fQ:bM P w K mg base bf "_law_told" 8 ["_law_book_here","_law_part_here","_law_papers_here"] (iQ K))(jq:bM P w K mg base bf "_law_with_a_wrong_row" 2 ["_law_book_here","_law_number","_law_cell_here"] (bK K)):bB P w K mg base bf 9 f fd ["_law_script"] (vF K):=by
 refine F.ok dF (λvs H Q E h=>?_) (λcdv A outer s H vs Q E hr h=>?_)
 ·obtain⟨a,ns,rfl,hS,YQ,q⟩:=h;rfl
 obtain⟨a,ns,rfl,hS,YQ,q0⟩:=h;have hv:bR (aE K (λ_=>False) H) [.ref a] [.list (ns.map PyData.int)]:=.cons (Hv (.lst hS (by simp) λi x d hx hd=>(HL (K:=K) (P:=λ_=>False) (H:=H) (ns:=ns)).2 i x d hx hd |>.now)) .nil;have q:∀v H',aS H H'->aE K (λ_=>False) H' v (.bool true)->Q v H':=λv H' _ r=>by rw[aE.gU r];exact q0 H'
 refine aP (P:=λ_=>False) (λ_ h=>h.elim) hv ?_;show gZ _ _ _ _ [some _,none,none,none,none,none,none,none,none,none,none,none,none,none] [];clear hv q0 hS;refine ah (pC (aw AU As Ar (hr.mono (by decide)) rfl (aa (ae 0) af)) (vm (m:=2) rfl (dM (bZ (i:=1) dF.nd rfl (aad rfl)) (dM (bZ (i:=2) dF.nd rfl (aad rfl)) qG)))) (λR kk=>?_);walk_at "vc";refine⟨ns,rfl,λms zs ps j n p wd g h8 hps hp hn hrw=>⟨rfl,kk _ _ ?_⟩⟩;clear kk R;have hB:=hps p (aan hp);have ebk:=lD ms ps;have g8:=g.wf.few;refine ah (az (i:=3) dF.nd rfl (aad rfl) (aj (n:=0) (ae 1))) (λR kk=>?_);rw[ebk];walk_at "vc";refine kk _ _ ?_;clear kk R;refine ah (az (i:=4) dF.nd rfl (aad rfl) (bj (aj (n:=1) (ae 1)) (ae 2) (λ_ _=>rfl))) (λR kk=>?_);walk_at "vc";refine⟨_,bg (f:=kI) hp,kk _ _ ?_⟩;clear kk R;rw[← ebk];refine ah (az (i:=5) dF.nd rfl (aad rfl) (aw wH wq wo (hr.mono (by decide)) rfl (aa (ae 0) (aa (ae 4) af)))) (λR kk=>?_);walk_at "vc";refine⟨ns,p,zs,rfl,YQ,hB,λpps hP=>kk _ _ ?_⟩;clear kk R;have WB:=hP.le;refine ah (az (i:=6) dF.nd rfl (aad rfl) (xt lQ lK lJ (hr.mono (by decide)) rfl (aa (ae 3) (aa (ae 4) (aa (ae 5) (aa (aw br bP bI (hr.mono (by decide)) rfl (aa (ae 0) (aa aq af))) af)))))) (λR kk=>?_);walk_at "vc";refine⟨ns,_,rfl,by decide,λc6=>?_⟩;walk_at "vc";refine⟨ms,zs,p,pps,c6,rfl,g,hB,hP,λt1 NW=>kk _ _ ?_⟩;clear kk R;refine ah (aG (bH (hr.units) (aU (aw br bP bI (hr.mono (by decide)) rfl (aa (ae 0) (aa aq af))) aq) aq) (au (jE aa7 rfl (Dp rfl dh (aa (xt lQ lK lJ (hr.mono (by decide)) rfl (aa (ae 3) (aa (ae 4) (aa (ae 5) (aa (cA (aw br bP bI (hr.mono (by decide)) rfl (aa (ae 0) (aa aq af))) aq) af))))) af)) (vm (m:=2) rfl (dM (bZ (i:=7) dF.nd rfl (aad rfl)) (dM (bZ (i:=8) dF.nd rfl (aad rfl)) qG))) (au (aG (bH (hr.units) (bj (ae 6) (ae 7) (λ_ _=>rfl)) (bj (ae 5) (ae 7) (λ_ _=>rfl))) (au (pC (ae 8) (yr (ae 6) (ae 7)))) ay)))) ay) (λR kk=>?_)
 have nxt:∀(u:List Pp) (tl:aF) (o7 o8:Option DV),N4 zs p pps u->R [some (.dat (.list (ns.map PyData.int))),some (.dat (uy ms ps)),some (.dat (.int (j:Int))),some (.dat (cV ms)),some (.dat (kI p)),some (.dat (.list (pps.map i8))),some (.ref 0),o7,o8,none,none,none,none,none] (.live (u.map i8)::tl):=by
  intro u tl o7 o8 hu;refine kk _ _ ?_;clear kk R NW;have hul:=yI hB hP hu;refine ah (az (i:=9) dF.nd rfl (aad rfl) bS) (λR kk=>?_);walk_at "vc";refine kk _ _ ?_;clear kk R;refine ah (az (i:=10) dF.nd rfl (aad rfl) (aw Co B9 B8 (hr.mono (by decide)) rfl (aa (ae 3) (aa (ae 4) (aa (ae 6) af))))) (λR kk=>?_);walk_at "vc"
  have fin:∀o:Option Int,bad zs p.boxes p.height p.rows.length 0 u=o->R [some (.dat (.list (ns.map PyData.int))),some (.dat (uy ms ps)),some (.dat (.int (j:Int))),some (.dat (cV ms)),some (.dat (kI p)),some (.dat (.list (pps.map i8))),some (.ref 0),o7,o8,some (.dat .none),some (.dat (Uz o)),none,none,none] (.froz (u.map i8)::tl):=by
   intro o ho;refine kk _ _ ?_;clear kk R;refine LM (eI (i:=11) dF.nd rfl (aad rfl) (ip AV (hr.mono (by decide)) rfl (pK (pv 1) pN))) (qr (tR qx (pv 10) rO (dX _)) (qK (eI (i:=9) dF.nd rfl (aad rfl) (ju (pK (pv 2) (pK (pv 10) (pK oZ pN)))))
   (qO (eI (i:=11) dF.nd rfl (aad rfl) (ip jq (hr.mono (by decide)) rfl (pK (pv 11) (pK (pv 2) (pK (ip br (hr.mono (by decide)) rfl (pK (pv 0) (pK pI pN))) pN))))))) il) (λenv'=>∃(ps':List Pt) (p':Pt),(∀q∈ps',FG zs q)/\ps'.length<=8/\ps'[j]?=some p'/\p'.boxes=p.boxes/\p'.height=p.height/\p'.rows.length=p.rows.length/\(o=none->p'=p)/\env'=[some (.dat (.list (ns.map PyData.int))),some (.dat (uy ms ps)),some (.dat (.int (j:Int))),some (.dat (cV ms)),some (.dat (kI p)),some (.dat (.list (pps.map i8))),some (.ref 0),o7,o8,some (.dat (wm j o)),some (.dat (Uz o)),some (.dat (uy ms ps')),none,none]) ?_ ?_
   ·rintro env' ⟨ps',p',hps',h8',hp',e1,e2,e3,e4,rfl⟩;have ebk':=lD ms ps';have gd:=Uy g hps' h8';have hbad:bad zs p'.boxes p'.height p'.rows.length 0 u=o:=by rw[e1,e2,e3];exact ho
    have hfine:bad zs p'.boxes p'.height p'.rows.length 0 u=none->LV zs p' u:=λhb=>by
     rw[hbad]at hb;rw[e4 hb,Iy hu (by rw[ho,hb])];exact yJ hB hP hrw
    rw[ebk']at gd;refine ah (az (i:=12) dF.nd rfl (aad rfl) (DB hr.gd hr.units rfl sE (aa (ae 11) af))) (λR kk=>?_);rw[ebk'];walk_at "vc";refine⟨⟨gd.sh,gd.nd,aaB gd.dp (by decide),aaB gd.ln (by decide)⟩,kk _ _ ?_⟩;clear kk R;refine ah (az (i:=13) dF.nd rfl (aad rfl) (Di rfl dE (aa (ae 6) af))) (λR kk=>?_);walk_at "vc";refine kk _ _ ?_;clear kk R;refine ah (aG (wa.dt (qE (kH (hr.units) (aw fQ fH fG (hr.mono (by decide)) rfl (aa (ae 11) (aa (ae 2) (aa (ae 13) af)))) (ae 9)) (qE (kH (hr.units) (ae 13) (ae 6)) (px (kH (hr.units) (DB hr.gd hr.units rfl sE (aa (ae 11) af)) (ae 12)))))) (au (ax fc)) ay) (λR kk=>?_);rw[← ebk'];walk_at "vc";refine⟨ms,zs,ps',j,p',u,rfl,g,hp',hul,hfine,?_⟩;rw[hbad]
    cases o with
    | none =>
     rw[show wm j none=.none from rfl];walk_at "vc";refine⟨⟨rfl,rfl⟩,lE rfl ⟨⟨(pS u).ok,(pS u).ok⟩,lE (pS u).self ?_⟩⟩;rw[ebk'];walk_at "vc";refine⟨⟨gd.sh,gd.nd,aaB gd.dp (by decide),aaB gd.ln (by decide)⟩,lE (aau rfl) (kk _ _ ?_)⟩;clear kk R;refine aK (ax (oa (Hc (aw fQ fH fG (hr.mono (by decide)) rfl (aa (ae 1) (aa (ae 2) (aa (ae 5) af)))) bS) (kX (qD (hr.units) (aw fQ fH fG (hr.mono (by decide)) rfl (aa (ae 11) (aa (ae 2) (aa (ae 6) af)))) (ae 9))))) ?_;walk_at "vc";refine⟨ms,zs,ps,j,p,pps,rfl,g,hp,yI hB hP Ao,λ_=>yJ hB hP hrw,?_⟩;rw[An hB hP,show wm j none=.none from rfl];walk_at "vc";refine cT ⟨ms,zs,ps',j,p',u,rfl,g,hp',hul,hfine,?_⟩;rw[hbad,show wm j none=.none from rfl];walk_at "vc";exact⟨⟨rfl,rfl⟩,q⟩
    | some a =>
     have sht:=QB j (some a);rw[show wm j (some a)=.tuple [.int (j:Int),.int a,.str "paper"]from rfl]at sht ⊢;walk_at "vc";refine⟨⟨sht.ok,sht.ok⟩,lE sht.self ⟨⟨(pS u).ok,(pS u).ok⟩,lE (pS u).self ?_⟩⟩;rw[ebk'];walk_at "vc";refine⟨⟨gd.sh,gd.nd,aaB gd.dp (by decide),aaB gd.ln (by decide)⟩,lE (aau rfl) (kk _ _ ?_)⟩;clear kk R;refine aK (ax (oa (Hc (aw fQ fH fG (hr.mono (by decide)) rfl (aa (ae 1) (aa (ae 2) (aa (ae 5) af)))) bS) (kX (qD (hr.units) (aw fQ fH fG (hr.mono (by decide)) rfl (aa (ae 11) (aa (ae 2) (aa (ae 6) af)))) (ae 9))))) ?_;walk_at "vc";refine⟨ms,zs,ps,j,p,pps,rfl,g,hp,yI hB hP Ao,λ_=>yJ hB hP hrw,?_⟩;rw[An hB hP,show wm j none=.none from rfl];walk_at "vc";refine cT ⟨ms,zs,ps',j,p',u,rfl,g,hp',hul,hfine,?_⟩;rw[hbad,show wm j (some a)=.tuple [.int (j:Int),.int a,.str "paper"]from rfl];walk_at "vc";refine⟨⟨sht.ok,sht.ok⟩,?_⟩;rw[sht.self];exact q
   ·intro H0 A0 G al H1 σ N D I En k;obtain⟨v0,e0,r0⟩:=En.2 0 _ rfl;obtain⟨v1,e1,r1⟩:=En.2 1 _ rfl;obtain⟨v2,e2,r2⟩:=En.2 2 _ rfl;obtain⟨v10,Z3,Nv⟩:=En.2 10 _ rfl
    have hPX:∀c,Fb G al (.froz (u.map i8)::tl) c->∃o,H1 c=some o:=λc hc=>by
     obtain⟨o,e,_⟩:=I.qB hc;exact⟨o,e⟩
    refine⟨v1,e1,_,v1,ms,ps,j,p,rfl,hPX,r1,by omega,h8,hp,λb l4 H2 s2 f4 hC=>?_⟩;dsimp only[gc];have l14:σ.length=14:=En.1;have S2:jz K (Fb G al (.froz (u.map i8)::tl)) H2 al σ _:=En.ext (.same s2);have UG:(σ.set 11 (some (.ref b)))[10]?=some (some v10):=by rw[List.getElem?_set_ne (by decide)];exact Z3
    cases o with
    | none =>
     have Nv:aE K _ H1 v10 .none:=Nv;rw[aE.fU Nv]at UG;refine⟨_,UG,rfl,_,rfl,dI ?_⟩;dsimp only[uF];exact k _ _ H2 ⟨ps,p,hps,h8,hp,rfl,rfl,rfl,λ_=>rfl,rfl⟩ s2 (S2.set (fS.d (LX hC hp)) 11)
    | some a =>
     have Nv:aE K _ H1 v10 (.int a):=Nv;have r2:aE K _ H1 v2 (.int (j:Int)):=r2;have r0:aE K _ H1 v0 (.list (ns.map PyData.int)):=r0;rw[aE.aW Nv]at UG;rw[aE.aW r2]at e2;have n2:(σ.set 11 (some (.ref b)))[2]?=some (some (.int (j:Int))):=by rw[aaq (by decide)];exact e2
     refine⟨_,UG,rfl,_,rfl,cT ?_⟩;refine⟨_,n2,_,UG,YT,λt nt=>?_⟩;have u3:=sN nt (.tup [.int (j:Int),.int a,.str "paper"]);have g3:=uS (H:=H2) (a:=t) (o:=.tup [.int (j:Int),.int a,.str "paper"]);generalize upd H2 t (.tup [.int (j:Int),.int a,.str "paper"])=H3 at u3 g3;dsimp only[gc];have Z4:((σ.set 11 (some (.ref b))).set 9 (some (.ref t)))[11]?=some (some (.ref b)):=by rw[List.getElem?_set_ne (by decide),List.getElem?_set_self (by omega)]
     have n2':((σ.set 11 (some (.ref b))).set 9 (some (.ref t)))[2]?=some (some (.int (j:Int))):=by rw[aaq (by decide)];exact n2
     have n0:((σ.set 11 (some (.ref b))).set 9 (some (.ref t)))[0]?=some (some v0):=by rw[aaq (by decide),aaq (by decide)];exact e0
     have S3:=s2.trans u3;refine⟨_,Z4,_,n2',_,n0,iA bI (.cons ((r0.now).same S3) (.cons (.int _) .nil)) ⟨ns,33,rfl,by decide,λc v5 H4 s4 r5=>?_⟩⟩;cases r5;have S4:=S3.trans s4;have Z5:=Iz hC (u3.trans s4);have fr:∀a,H1 a=none->¬ Fb G al (.froz (u.map i8)::tl) a:=λa ha z=>by obtain⟨o,e⟩:=hPX a z;rw[ha]at e;cases e
     refine⟨_,b,l4,c,ms,ps,j,p,rfl,λc hc=>?_,Z5,?_,hB.r2,hB.ro,λrs H5 h5 lrs hrs YR=>?_⟩
     ·obtain⟨o,e⟩:=hPX c hc;exact⟨o,S4 c o e⟩
     ·rw[hrw,oo];omega
     dsimp only[gc];have S5:aS H1 H5:=λc o e=>h5 c o (nN e f4) (S4 c o e)
     have t4:t≠l4:=by
      obtain⟨_,_,_,_,_,_,_,_,_,_,_,_,_,_,q5,_⟩:=hC.at';exact(nN q5 nt).symm
     have rt:aE K (Fb G al (.froz (u.map i8)::tl)) H5 (.ref t) (wm j (some a)):=aE.tup (fr t (s2.free nt)) (h5 _ _ t4 (s4 _ _ g3)) (.cons (.int _) (.cons (.int _) (.cons (.str _) .nil)));have hj:=(bz hp).1;refine k _ _ H5 ⟨ps.set j {p with rows:=rs},{p with rows:=rs},λq hq=>?_,by rw[aaH];exact h8,aar hj,rfl,rfl,lrs,(λz=>nomatch z),rfl⟩ S5 ((((En.ext (.same S5)).set (fS.d YR) 11).set (fS.d rt) 9).set (fS.d YR) 11);rcases abf hq with h | rfl
     ·exact hps q h
     ·exact⟨hB.tk,hB.t4,hB.gv,hB.tb,hB.bx,hB.h1,hB.h8,by show rs.length<=100;rw[lrs];exact hB.r2,hrs,hB.sp⟩
  exact⟨ms,zs,p,u,rfl,g,hul,λhb=>fin none hb,λa hb=>fin (some a) hb⟩
 walk_at "vc";refine⟨ns,_,rfl,by decide,λc7=>?_⟩;walk_at "vc";refine⟨by decide,bO (λ_=>?_) (λ_=>nxt t1 [] _ _ NW)⟩;refine⟨ns,_,rfl,by decide,λc8=>?_⟩;walk_at "vc";refine⟨⟨by decide,by decide⟩,ms,zs,p,pps,_,rfl,g,hB,hP,λt2 Vn=>?_⟩;have lt2:=Vn.1;have Ws:=NW.1;refine gu (λi env st=>∃(u:List Pp) (o7 o8:Option DV),env=[some (.dat (.list (ns.map PyData.int))),some (.dat (uy ms ps)),some (.dat (.int (j:Int))),some (.dat (cV ms)),some (.dat (kI p)),some (.dat (.list (pps.map i8))),some (.ref 0),o7,o8,none,none,none,none,none]/\st=[.live (u.map i8),.froz (t2.map i8)]/\N4 zs p pps u) ⟨t1,_,_,rfl,rfl,NW⟩ (λ_ _ _ _=>trivial) ?_ ?_
 ·rintro i env st d hd ⟨u,o7,o8,rfl,rfl,hu⟩;obtain⟨x,hx,rfl⟩:=vj hd;obtain⟨x2,R9,rfl⟩:=dZ hx;have hi:=(bz R9).1;have lu:=hu.1;have Z6:u[i]?=some (u[i]'(by omega)):=cW (by omega);have Z7:pps[i]?=some (pps[i]'(by omega)):=cW (by omega);walk_at "vc";refine⟨rfl,_,bg (f:=i8) Z6,_,bg (f:=i8) Z7,⟨(Io _).ok,(Io _).ok⟩,TZ (λ_=>?_) (λ_=>⟨u,_,_,rfl,rfl,hu⟩)⟩;refine⟨i,by rw[aaa];exact qJ (by omega),u.set i x2,_,_,rfl,by rw[aci],by rw[aaH];exact lu,λk y z hy hz=>?_⟩;by_cases e:i=k
  ·subst e;rw[aar (by omega)]at hy;cases hy;exact Vn.2 i x2 z R9 hz
  ·rw[aaq e]at hy;exact hu.2 k y z hy hz
 ·rintro env st ⟨u,o7,o8,rfl,rfl,hu⟩;exact nxt u _ _ _ hu
end
def cv(K:aH)(n:Str)(s:Stmt):Prop:=∃f fd,PySem.W.nsIn K mainGlobals n=some (some (.ref f))/\gf K n n s f fd
theorem all_mk{l:PySem.W.OpenLaw}{w:World}{K:aH}{h:Heap}{mg:Str->Option Value}{fa WE:Addr}(X:K.In h)(G:h.Ns mainGlobals mg)(hfa:mg "law"=some (.ref fa))
  {WG UH:Option Addr} {WH:Array (Option Value)} {WI UI UJ UK QH UL:Value}
  {ar ie bG:Addr}
  {EY:Nat}
  {p7 p9 qa lR lS lT lU lV lW lX lZ md me mf mh mi mj ml mm mn mq mr mv mw mx mz mB mC mD mE mF mG mH j8 j9 ka kb kc ke kg kh kj dj:Addr} {vS vT vU vV tm tq tw tx tD tE tF tG tH tI tJ tK tL tM tN tO tP tQ tS tT tU tV tW tX tY tZ t6 t7 t8 rg rh rj rk rl rm rn rp rq rz:Tok}
  {qb:Addr} {vW vX vY:Tok}
  {km:Addr} {rA rB rD rE:Tok}
  {sF:Addr} {xD xE xF:Tok}
  {L8:Nat}
  {j4:Addr} {AW AX AY AZ A1 A2 A4 A5 A6 xG xH xI xJ xK xM xN xO xP xQ xR:Tok}
  {ig:Addr} {mI mJ mK mL mM:Tok}
  (d0:cv K "_law_mixed" kZ)
  (d1:cv K "_law_cell" pE)
  (d2:cv K "_law_kind" pF)
  (d3:cv K "_law_makes" lb)
  (d4:cv K "_law_fields" jF)
  (d5:cv K "_law_sizes" lg)
  (d6:cv K "_law_part" pG)
  (d7:cv K "_law_word" pH)
  (d8:cv K "_law_book" pJ)
  (d9:cv K "_law_wrong_kind" fg)
  (WJ:cv K "_law_wrong_stand" eP)
  (WK:cv K "_law_changed" iV)
  (WL:cv K "_law_copy" pL)
  (WM:cv K "_law_right_stand" eQ)
  (WN:cv K "_law_due" sg)
  (WO:cv K "_law_papers" jG)
  (WQ:cv K "_law_whole" lh)
  (WR:cv K "elders_of" lj)
  (WS:cv K "fields_of" lq)
  (WT:cv K "full_mask" lx)
  (WU:cv K "is_kind" si)
  (WV:cv K "is_stand" pM)
  (WW:cv K "check_form" jH)
  (WX:cv K "entry" yC)
  (WY:cv K "is_under" pO)
  (WZ:cv K "beneath" sj)
  (W0:cv K "all_beneath" iW)
  (W2:cv K "asked" yD)
  (W3:cv K "leaves" vv)
  (W4:cv K "breaks" vw)
  (W5:cv K "catcher" sk)
  (W6:cv K "kinds_put" lz)
  (W7:cv K "stand_behind" hJ)
  (W8:cv K "outs" BY)
  (W9:cv K "stand_after" iX)
  (Xa:cv K "stand_beneath" fW)
  (Xb:cv K "stand_at" pP)
  (Xc:cv K "check" yE)
  (Xd:cv K "_law_told" pQ)
  (Xe:cv K "_law_with_a_wrong_row" cB)
  (Xf:PySem.W.nsIn K mainGlobals "law"=some (some (.ref WE))) (Xg:K.lookup WE=some ⟨WI,WG,.func (PySem.W.fnOf "law" "law" (dA qH) (dB qH) (dS qH) .none UI UJ UK UH QH UL),WH⟩) (Xh:PySem.W.codeIn K QH "law"=true) (Xi:PySem.W.keepIn K (.ref WE)=true)
  (fj:PySem.W.nsIn K mainGlobals "NoPaper"=some (some (.ref ar)))
  (fk:PySem.W.ktsIn K ar "BaseException"=true)
  (lP:PySem.W.nsIn K mainGlobals "NoPass"=some (some (.ref ie)))
  (rb:PySem.W.ktsIn K ie "BaseException"=true)
  (dP:PySem.W.nsIn K mainGlobals "WardenError"=some (some (.ref bG)))
  (fB:PySem.W.excIn K bG (GL true) (Pm true)=true)
  (fC:PySem.W.ktsIn K bG "BaseException"=true)
  {kn:Addr} {A7 A8:Option Addr} {A9:Array (Option Value)} {Ba Bb Bd Be t9 Bf:Value}
  (mO:PySem.W.findIn K (.ref ar) "__init__"=some (some (.ref kn)))
  (mP:K.lookup kn=some ⟨Ba,A7,.func (PySem.W.fnOf "__init__" "NoPaper.__init__" (dA gL) (dB gL) (dS gL) .none Bb Bd Be A8 t9 Bf),A9⟩)
  (mQ:PySem.W.codeIn K t9 "NoPaper.__init__"=true)
  (mR:PySem.W.keepIn K (.ref kn)=true)
  (mS:PySem.W.isFn K (.ref kn)=true)
  (mT:PySem.W.keepIn K (.ref ar)=true)
  (mU:PySem.W.findIn K (.ref ar) "__setattr__"=some (some (.builtin "object.__setattr__")))
  (mV:PySem.W.mroIn K ar (.type "object")=some true)
  (ko:uR K ar (GL true) (Pm true)=true)
  (mW:PySem.W.findIn K (.ref ar) "part"=some none)
  (mX:PySem.W.findIn K (.ref ar) "at"=some none)
  (mY:PySem.W.findIn K (.ref ar) "word"=some none)
  (qZ:IsT K "bool" (Dt "bool"))
  (vJ:IsT K "int" Lx)
  (IJ:PySem.W.mroIn K ar (.ref ar)=some true)
  (fK:PySem.W.findIn K (.ref ar) "__getattribute__"=some (some (.builtin "BaseException.__getattribute__")))
  (fL:PySem.W.findIn K (.ref ar) "__getattr__"=some none)
  (fM:PySem.W.findIn K (.ref ar) "__class__"=some (some (.builtin "object.__class__")))
  (fN:PySem.W.mroIn K ar (.type "BaseException")=some true)
  (fO:PySem.W.mroIn K ar (.type "object")=some true)
  (fP:PySem.W.hasDictIn K ar=true)
  (IK:PySem.W.kitOne K (.ref ar) (.ref bG)=some true)
  (IL:PySem.W.kitOne K (.ref ar) (.type "ValueError")=some true)
  (UC:fR K ar "part")
  (UD:fR K ar "at")
  (UE:fR K ar "word")
  (IM:PySem.W.kitOne K (.ref ar) (.ref ie)=some false)
  (jm:PySem.W.nsIn K mainGlobals "ALWAYS"=some (some (.ref dj)))
  (kq:(dj == sysModules)=false)
  (kr:K.lookup dj=some {cls:=.type "dict",data:=.dict #[{hash:=PyData.keyHash w.params "push",key:=.str "push" vS,val:=.ref p7},{hash:=PyData.keyHash w.params "load",key:=.str "load" vT,val:=.ref p9},{hash:=PyData.keyHash w.params "store",key:=.str "store" vU,val:=.ref lR},{hash:=PyData.keyHash w.params "dup",key:=.str "dup" tm,val:=.ref lT},{hash:=PyData.keyHash w.params "swap",key:=.str "swap" tw,val:=.ref lW},{hash:=PyData.keyHash w.params "drop",key:=.str "drop" tE,val:=.ref lZ},{hash:=PyData.keyHash w.params "add",key:=.str "add" tG,val:=.ref mf},{hash:=PyData.keyHash w.params "sub",key:=.str "sub" tJ,val:=.ref mj},{hash:=PyData.keyHash w.params "mul",key:=.str "mul" tM,val:=.ref mn},{hash:=PyData.keyHash w.params "div",key:=.str "div" tP,val:=.ref mv},{hash:=PyData.keyHash w.params "rem",key:=.str "rem" tT,val:=.ref mz},{hash:=PyData.keyHash w.params "less",key:=.str "less" tW,val:=.ref mD},{hash:=PyData.keyHash w.params "same",key:=.str "same" tZ,val:=.ref mG},{hash:=PyData.keyHash w.params "jump",key:=.str "jump" t8,val:=.ref mH},{hash:=PyData.keyHash w.params "zero",key:=.str "zero" rg,val:=.ref j9},{hash:=PyData.keyHash w.params "kin",key:=.str "kin" rj,val:=.ref kb},{hash:=PyData.keyHash w.params "make",key:=.str "make" rm,val:=.ref kc},{hash:=PyData.keyHash w.params "toss",key:=.str "toss" rn,val:=.ref kg},{hash:=PyData.keyHash w.params "say",key:=.str "say" rq,val:=.ref kj}] EY})
  (ku:K.lookup kj=some {cls:=.type "tuple",data:=.seq #[.ref kh] 0})
  (ky:K.lookup kh=some {cls:=.type "tuple",data:=.seq #[.str "number" rz] 0})
  (kz:K.lookup kg=some {cls:=.type "tuple",data:=.seq #[.ref ke] 0})
  (kA:K.lookup ke=some {cls:=.type "tuple",data:=.seq #[.str "number" rp] 0})
  (kB:K.lookup kc=some {cls:=.type "tuple",data:=.seq #[] 0})
  (kC:K.lookup kb=some {cls:=.type "tuple",data:=.seq #[.ref ka] 0})
  (kD:K.lookup ka=some {cls:=.type "tuple",data:=.seq #[.str "whole" rk,.int 0 rl] 0})
  (kE:K.lookup j9=some {cls:=.type "tuple",data:=.seq #[.ref j8] 0})
  (kF:K.lookup j8=some {cls:=.type "tuple",data:=.seq #[.str "number" rh] 0})
  (mZ:K.lookup mH=some {cls:=.type "tuple",data:=.seq #[] 0})
  (m6:K.lookup mG=some {cls:=.type "tuple",data:=.seq #[.ref mE,.ref mF] 0})
  (m7:K.lookup mF=some {cls:=.type "tuple",data:=.seq #[.str "number" t7] 0})
  (m9:K.lookup mE=some {cls:=.type "tuple",data:=.seq #[.str "number" t6] 0})
  (nc:K.lookup mD=some {cls:=.type "tuple",data:=.seq #[.ref mB,.ref mC] 0})
  (ng:K.lookup mC=some {cls:=.type "tuple",data:=.seq #[.str "number" tY] 0})
  (nj:K.lookup mB=some {cls:=.type "tuple",data:=.seq #[.str "number" tX] 0})
  (nk:K.lookup mz=some {cls:=.type "tuple",data:=.seq #[.ref mw,.ref mx] 0})
  (nq:K.lookup mx=some {cls:=.type "tuple",data:=.seq #[.str "number" tV] 0})
  (nv:K.lookup mw=some {cls:=.type "tuple",data:=.seq #[.str "number" tU] 0})
  (ny:K.lookup mv=some {cls:=.type "tuple",data:=.seq #[.ref mq,.ref mr] 0})
  (nz:K.lookup mr=some {cls:=.type "tuple",data:=.seq #[.str "number" tS] 0})
  (nA:K.lookup mq=some {cls:=.type "tuple",data:=.seq #[.str "number" tQ] 0})
  (nC:K.lookup mn=some {cls:=.type "tuple",data:=.seq #[.ref ml,.ref mm] 0})
  (nE:K.lookup mm=some {cls:=.type "tuple",data:=.seq #[.str "number" tO] 0})
  (nF:K.lookup ml=some {cls:=.type "tuple",data:=.seq #[.str "number" tN] 0})
  (nI:K.lookup mj=some {cls:=.type "tuple",data:=.seq #[.ref mh,.ref mi] 0})
  (nJ:K.lookup mi=some {cls:=.type "tuple",data:=.seq #[.str "number" tL] 0})
  (nK:K.lookup mh=some {cls:=.type "tuple",data:=.seq #[.str "number" tK] 0})
  (nM:K.lookup mf=some {cls:=.type "tuple",data:=.seq #[.ref md,.ref me] 0})
  (nO:K.lookup me=some {cls:=.type "tuple",data:=.seq #[.str "number" tI] 0})
  (nQ:K.lookup md=some {cls:=.type "tuple",data:=.seq #[.str "number" tH] 0})
  (nR:K.lookup lZ=some {cls:=.type "tuple",data:=.seq #[.ref lX] 0})
  (nS:K.lookup lX=some {cls:=.type "tuple",data:=.seq #[.str "any" tF] 0})
  (nU:K.lookup lW=some {cls:=.type "tuple",data:=.seq #[.ref lU,.ref lV] 0})
  (nV:K.lookup lV=some {cls:=.type "tuple",data:=.seq #[.str "any" tD] 0})
  (nW:K.lookup lU=some {cls:=.type "tuple",data:=.seq #[.str "any" tx] 0})
  (nX:K.lookup lT=some {cls:=.type "tuple",data:=.seq #[.ref lS] 0})
  (nY:K.lookup lS=some {cls:=.type "tuple",data:=.seq #[.str "any" tq] 0})
  (nZ:K.lookup lR=some {cls:=.type "tuple",data:=.seq #[.ref qa] 0})
  (n6:K.lookup qa=some {cls:=.type "tuple",data:=.seq #[.str "any" vV] 0})
  (qc:K.lookup p9=some {cls:=.type "tuple",data:=.seq #[] 0})
  (qe:K.lookup p7=some {cls:=.type "tuple",data:=.seq #[] 0})
  (ib:PySem.W.nsIn K mainGlobals "ENDING"=some (some (.ref qb)))
  (kG:K.lookup qb=some {cls:=.type "tuple",data:=.seq #[.str "jump" vW,.str "toss" vX,.str "give" vY] 0})
  (ef:PySem.W.nsIn K mainGlobals "FAULTING"=some (some (.ref km)))
  (gJ:K.lookup km=some {cls:=.type "tuple",data:=.seq #[.str "div" rA,.str "rem" rB,.str "toss" rD,.str "call" rE] 0})
  (j7:PySem.W.nsIn K mainGlobals "GOING"=some (some (.ref sF)))
  (oA:K.lookup sF=some {cls:=.type "tuple",data:=.seq #[.str "jump" xD,.str "zero" xE,.str "kin" xF] 0})
  (vN:PySem.W.nsIn K mainGlobals "LEFT"=some (some (.ref j4)))
  (sG:(j4 == sysModules)=false)
  (sH:K.lookup j4=some {cls:=.type "dict",data:=.dict #[{hash:=PyData.keyHash w.params "store",key:=.str "store" AW,val:=.int 0 AX},{hash:=PyData.keyHash w.params "dup",key:=.str "dup" AY,val:=.int 2 AZ},{hash:=PyData.keyHash w.params "swap",key:=.str "swap" A1,val:=.int 2 A2},{hash:=PyData.keyHash w.params "drop",key:=.str "drop" A4,val:=.int 0 A5},{hash:=PyData.keyHash w.params "jump",key:=.str "jump" A6,val:=.int 0 xG},{hash:=PyData.keyHash w.params "zero",key:=.str "zero" xH,val:=.int 0 xI},{hash:=PyData.keyHash w.params "put",key:=.str "put" xJ,val:=.int 0 xK},{hash:=PyData.keyHash w.params "toss",key:=.str "toss" xM,val:=.int 0 xN},{hash:=PyData.keyHash w.params "say",key:=.str "say" xO,val:=.int 0 xP},{hash:=PyData.keyHash w.params "give",key:=.str "give" xQ,val:=.int 0 xR}] L8})
  (cG:PySem.W.nsIn K mainGlobals "OF_RECORDS"=some (some (.ref ig)))
  (eZ:K.lookup ig=some {cls:=.type "tuple",data:=.seq #[.str "make" mI,.str "fill" mJ,.str "begin" mK,.str "get" mL,.str "put" mM] 0})
  (eY:PySem.W.nsIn K mainGlobals "ValueError"=some none)
  (sZ:PySem.W.nsIn K mainGlobals "all"=some none)
  (vI:PySem.W.nsIn K mainGlobals "bool"=some none)
  (vR:PySem.W.nsIn K mainGlobals "dict"=some none)
  (dh:PySem.W.nsIn K mainGlobals "enumerate"=some none)
  (oW:PySem.W.nsIn K mainGlobals "int"=some none)
  (bF:PySem.W.nsIn K mainGlobals "isinstance"=some none)
  (aO:PySem.W.nsIn K mainGlobals "len"=some none)
  (dE:PySem.W.nsIn K mainGlobals "list"=some none)
  (AD:PySem.W.nsIn K mainGlobals "max"=some none)
  (Ax:PySem.W.nsIn K mainGlobals "min"=some none)
  (cc:PySem.W.nsIn K mainGlobals "range"=some none)
  (sE:PySem.W.nsIn K mainGlobals "repr"=some none)
  (Aw:PySem.W.nsIn K mainGlobals "sum"=some none)
  (j2:PySem.W.nsIn K mainGlobals "tuple"=some none)
  (xB:PySem.W.nsIn K mainGlobals "zip"=some none)
  : ∃fd:FuncData,(∀(s:Shared) (v:Value),BindsTo s fd ⟨[v],[]⟩ [("_law_script",v)])/\∀base:Heap,K.In base->base.Ns mainGlobals mg->bB l.prog w K mg base bf 9 fa fd ["_law_script"] (vF K):=by
 have e:=hfa.symm.trans (aah X G Xf);cases e;obtain⟨f0,fd0,a0,F0⟩:=d0;have k0:=F0.kp;have b0:=F0.binds (ps:=["_law_cell_here","_law_k"]) λ_ _ _ _ _ _=>ln2 (λ_ _=>by rfl)
 obtain⟨f1,fd1,a1,F1⟩:=d1;have k1:=F1.kp;have b1:=F1.binds (ps:=["_law_script","_law_k"]) λ_ _ _ _ _ _=>ln2 (λ_ _=>by rfl)
 obtain⟨f2,fd2,a2,F2⟩:=d2;have k2:=F2.kp;have b2:=F2.binds (ps:=["_law_number","_law_sizes_here"]) λ_ _ _ _ _ _=>ln2 (λ_ _=>by rfl)
 obtain⟨f3,fd3,a3,F3⟩:=d3;have k3:=F3.kp;have b3:=F3.binds (ps:=["_law_cell_here"]) λ_ _ _ _ _ _=>NX (λ_=>by rfl)
 obtain⟨f4,fd4,a4,F4⟩:=d4;have k4:=F4.kp;have b4:=F4.binds (ps:=["_law_makes_here","_law_c"]) λ_ _ _ _ _ _=>ln2 (λ_ _=>by rfl)
 obtain⟨f5,fd5,a5,F5⟩:=d5;have k5:=F5.kp;have b5:=F5.binds (ps:=["_law_makes_here"]) λ_ _ _ _ _ _=>NX (λ_=>by rfl)
 obtain⟨f6,fd6,a6,F6⟩:=d6;have k6:=F6.kp;have b6:=F6.binds (ps:=["_law_makes_here","_law_cell_here"]) λ_ _ _ _ _ _=>ln2 (λ_ _=>by rfl)
 obtain⟨f7,fd7,a7,F7⟩:=d7;have k7:=F7.kp;have b7:=F7.binds (ps:=["_law_number"]) λ_ _ _ _ _ _=>NX (λ_=>by rfl)
 obtain⟨f8,fd8,a8,F8⟩:=d8;have k8:=F8.kp;have b8:=F8.binds (ps:=["_law_script"]) λ_ _ _ _ _ _=>NX (λ_=>by rfl)
 obtain⟨f9,fd9,a9,F9⟩:=d9;have k9:=F9.kp;have b9:=F9.binds (ps:=["_law_makes_here","_law_number"]) λ_ _ _ _ _ _=>ln2 (λ_ _=>by rfl)
 obtain⟨f10,Z8,Z9,Xj⟩:=WJ;have k10:=Xj.kp;have b10:=Xj.binds (ps:=["_law_makes_here","_law_part_here","_law_stand","_law_way","_law_rest"]) λ_ _ _ _ _ _=>Vo (λ_ _ _ _ _=>by rfl)
 obtain⟨f11,aac,a11,Xk⟩:=WK;have k11:=Xk.kp;have b11:=Xk.binds (ps:=["_law_makes_here","_law_part_here","_law_papers_here","_law_cell_here"]) λ_ _ _ _ _ _=>Qu (λ_ _ _ _=>by rfl)
 obtain⟨f12,aag,a12,Xl⟩:=WL;have k12:=Xl.kp;have b12:=Xl.binds (ps:=["_law_book_here"]) λ_ _ _ _ _ _=>NX (λ_=>by rfl)
 obtain⟨f13,aak,a13,Xm⟩:=WM;have k13:=Xm.kp;have b13:=Xm.binds (ps:=["_law_makes_here","_law_part_here","_law_stand"]) λ_ _ _ _ _ _=>DE (λ_ _ _=>by rfl)
 obtain⟨f14,aao,a14,Xn⟩:=WN;have k14:=Xn.kp;have b14:=Xn.binds (ps:=["_law_makes_here","_law_part_here","_law_papers_here"]) λ_ _ _ _ _ _=>DE (λ_ _ _=>by rfl)
 obtain⟨f15,aas,a15,Xo⟩:=WO;have k15:=Xo.kp;have b15:=Xo.binds (ps:=["_law_script","_law_part_here"]) λ_ _ _ _ _ _=>ln2 (λ_ _=>by rfl)
 obtain⟨f16,aaw,a16,Xp⟩:=WQ;have k16:=Xp.kp;have b16:=Xp.binds (ps:=["_law_found"]) λ_ _ _ _ _ _=>NX (λ_=>by rfl)
 obtain⟨f17,aaA,a17,Xq⟩:=WR;have k17:=Xq.kp;have b17:=Xq.binds (ps:=["makes","c"]) λ_ _ _ _ _ _=>ln2 (λ_ _=>by rfl)
 obtain⟨f18,aaE,a18,Xr⟩:=WS;have k18:=Xr.kp;have b18:=Xr.binds (ps:=["makes","c"]) λ_ _ _ _ _ _=>ln2 (λ_ _=>by rfl)
 obtain⟨f19,aaI,a19,Xs⟩:=WT;have k19:=Xs.kp;have b19:=Xs.binds (ps:=["makes","c"]) λ_ _ _ _ _ _=>ln2 (λ_ _=>by rfl)
 obtain⟨f20,aaM,a20,Xu⟩:=WU;have k20:=Xu.kp;have b20:=Xu.binds (ps:=["makes","kind"]) λ_ _ _ _ _ _=>ln2 (λ_ _=>by rfl)
 obtain⟨f21,aaQ,a21,Xv⟩:=WV;have k21:=Xv.kp;have b21:=Xv.binds (ps:=["book","part","stand"]) λ_ _ _ _ _ _=>DE (λ_ _ _=>by rfl)
 obtain⟨f22,aaU,a22,Xw⟩:=WW;have k22:=Xw.kp;have b22:=Xw.binds (ps:=["book","part","papers"]) λ_ _ _ _ _ _=>DE (λ_ _ _=>by rfl)
 obtain⟨f23,aaY,a23,Xx⟩:=WX;have k23:=Xx.kp;have b23:=Xx.binds (ps:=["book","part"]) λ_ _ _ _ _ _=>ln2 (λ_ _=>by rfl)
 obtain⟨f24,aa2,a24,Xy⟩:=WY;have k24:=Xy.kp;have b24:=Xy.binds (ps:=["makes","c","other"]) λ_ _ _ _ _ _=>DE (λ_ _ _=>by rfl)
 obtain⟨f25,aa6,a25,Xz⟩:=WZ;have k25:=Xz.kp;have b25:=Xz.binds (ps:=["makes","kind","other"]) λ_ _ _ _ _ _=>DE (λ_ _ _=>by rfl)
 obtain⟨f26,aba,a26,XA⟩:=W0;have k26:=XA.kp;have b26:=XA.binds (ps:=["makes","some","others"]) λ_ _ _ _ _ _=>DE (λ_ _ _=>by rfl)
 obtain⟨f27,abe,a27,XB⟩:=W2;have k27:=XB.kp;have b27:=XB.binds (ps:=["book","part","row"]) λ_ _ _ _ _ _=>DE (λ_ _ _=>by rfl)
 obtain⟨f28,abi,a28,XC⟩:=W3;have k28:=XC.kp;have b28:=XC.binds (ps:=["row"]) λ_ _ _ _ _ _=>NX (λ_=>by rfl)
 obtain⟨f29,abm,a29,XE⟩:=W4;have k29:=XE.kp;have b29:=XE.binds (ps:=["book","part","at","stand"]) λ_ _ _ _ _ _=>Qu (λ_ _ _ _=>by rfl)
 obtain⟨f30,abq,a30,XF⟩:=W5;have k30:=XF.kp;have b30:=XF.binds (ps:=["stretches","at"]) λ_ _ _ _ _ _=>ln2 (λ_ _=>by rfl)
 obtain⟨f31,abv,a31,XH⟩:=W6;have k31:=XH.kp;have b31:=XH.binds (ps:=["book","row","boxes","took"]) λ_ _ _ _ _ _=>Qu (λ_ _ _ _=>by rfl)
 obtain⟨f32,abz,a32,XI⟩:=W7;have k32:=XI.kp;have b32:=XI.binds (ps:=["book","part","row","stand"]) λ_ _ _ _ _ _=>Qu (λ_ _ _ _=>by rfl)
 obtain⟨f33,abD,a33,XJ⟩:=W8;have k33:=XJ.kp;have b33:=XJ.binds (ps:=["book","part","at","stand"]) λ_ _ _ _ _ _=>Qu (λ_ _ _ _=>by rfl)
 obtain⟨f34,abH,a34,XM⟩:=W9;have k34:=XM.kp;have b34:=XM.binds (ps:=["book","part","at","stand","kept"]) λ_ _ _ _ _ _=>Vo (λ_ _ _ _ _=>by rfl)
 obtain⟨f35,abL,a35,XN⟩:=Xa;have k35:=XN.kp;have b35:=XN.binds (ps:=["makes","one","other"]) λ_ _ _ _ _ _=>DE (λ_ _ _=>by rfl)
 obtain⟨f36,abP,a36,XO⟩:=Xb;have k36:=XO.kp;have b36:=XO.binds (ps:=["book","part","at","came","kept"]) λ_ _ _ _ _ _=>Vo (λ_ _ _ _ _=>by rfl)
 obtain⟨f37,abT,a37,XQ⟩:=Xc;have k37:=XQ.kp;have b37:=XQ.binds (ps:=["book","part","papers"]) λ_ _ _ _ _ _=>DE (λ_ _ _=>by rfl)
 obtain⟨f38,abX,a38,XR⟩:=Xd;have k38:=XR.kp;have b38:=XR.binds (ps:=["_law_book_here","_law_part_here","_law_papers_here"]) λ_ _ _ _ _ _=>DE (λ_ _ _=>by rfl)
 obtain⟨f39,ab1,a39,XS⟩:=Xe;have k39:=XS.kp;have b39:=XS.binds (ps:=["_law_book_here","_law_number","_law_cell_here"]) λ_ _ _ _ _ _=>DE (λ_ _ _=>by rfl)
 have F40:=x8 (st:=qH) Xg Xh Xi;have zl:=aaG X G eY;have N6:=aaG X G sZ;have y_bool:=aaG X G vI;have QI:=aaG X G vR;have ua:=aaG X G dh;have IP:=aaG X G oW;have rF:=aaG X G bF;have dQ:=aaG X G aO;have vZ:=aaG X G dE;have UM:=aaG X G AD;have UN:=aaG X G Ax;have oE:=aaG X G cc;have QJ:=aaG X G sE;have UO:=aaG X G Aw;have DQ:=aaG X G j2;have UP:=aaG X G xB;have IQ:=aah X G jm;have IS:=aah X G ib;have Cp:=aah X G ef;have L9:=aah X G j7;have QK:=aah X G vN;have zm:=aah X G cG;have xS:=aah X G fj;have IT:=aah X G lP;have wI:=aah X G dP;have IU:JO K w dj fh:=GC (ent:=[("push",vS,.ref p7),("load",vT,.ref p9),("store",vU,.ref lR),("dup",tm,.ref lT),("swap",tw,.ref lW),("drop",tE,.ref lZ),("add",tG,.ref mf),("sub",tJ,.ref mj),("mul",tM,.ref mn),("div",tP,.ref mv),("rem",tT,.ref mz),("less",tW,.ref mD),("same",tZ,.ref mG),("jump",t8,.ref mH),("zero",rg,.ref j9),("kin",rj,.ref kb),("make",rm,.ref kc),("toss",rn,.ref kg),("say",rq,.ref kj)]) kq kr (show(["push","load","store","dup","swap","drop","add","sub","mul","div","rem","less","same","jump","zero","kin","make","toss","say"]:List Str).Nodup by decide +kernel) (.cons ⟨rfl,(aJ (its:=[]) qe (show 0<=sizeLine by decide) .nil)⟩ (.cons ⟨rfl,(aJ (its:=[]) qc (show 0<=sizeLine by decide) .nil)⟩ (.cons ⟨rfl,(aJ (its:=[.ref qa]) nZ (show 1<=sizeLine by decide) (.cons (aJ (its:=[.str "any" vV]) n6 (show 1<=sizeLine by decide) (.cons aQ .nil)) .nil))⟩ (.cons ⟨rfl,(aJ (its:=[.ref lS]) nX (show 1<=sizeLine by decide) (.cons (aJ (its:=[.str "any" tq]) nY (show 1<=sizeLine by decide) (.cons aQ .nil)) .nil))⟩ (.cons ⟨rfl,(aJ (its:=[.ref lU,.ref lV]) nU (show 2<=sizeLine by decide) (.cons (aJ (its:=[.str "any" tx]) nW (show 1<=sizeLine by decide) (.cons aQ .nil)) (.cons (aJ (its:=[.str "any" tD]) nV (show 1<=sizeLine by decide) (.cons aQ .nil)) .nil)))⟩ (.cons ⟨rfl,(aJ (its:=[.ref lX]) nR (show 1<=sizeLine by decide) (.cons (aJ (its:=[.str "any" tF]) nS (show 1<=sizeLine by decide) (.cons aQ .nil)) .nil))⟩ (.cons ⟨rfl,(aJ (its:=[.ref md,.ref me]) nM (show 2<=sizeLine by decide) (.cons (aJ (its:=[.str "number" tH]) nQ (show 1<=sizeLine by decide) (.cons aQ .nil)) (.cons (aJ (its:=[.str "number" tI]) nO (show 1<=sizeLine by decide) (.cons aQ .nil)) .nil)))⟩ (.cons ⟨rfl,(aJ (its:=[.ref mh,.ref mi]) nI (show 2<=sizeLine by decide) (.cons (aJ (its:=[.str "number" tK]) nK (show 1<=sizeLine by decide) (.cons aQ .nil)) (.cons (aJ (its:=[.str "number" tL]) nJ (show 1<=sizeLine by decide) (.cons aQ .nil)) .nil)))⟩ (.cons ⟨rfl,(aJ (its:=[.ref ml,.ref mm]) nC (show 2<=sizeLine by decide) (.cons (aJ (its:=[.str "number" tN]) nF (show 1<=sizeLine by decide) (.cons aQ .nil)) (.cons (aJ (its:=[.str "number" tO]) nE (show 1<=sizeLine by decide) (.cons aQ .nil)) .nil)))⟩ (.cons ⟨rfl,(aJ (its:=[.ref mq,.ref mr]) ny (show 2<=sizeLine by decide) (.cons (aJ (its:=[.str "number" tQ]) nA (show 1<=sizeLine by decide) (.cons aQ .nil)) (.cons (aJ (its:=[.str "number" tS]) nz (show 1<=sizeLine by decide) (.cons aQ .nil)) .nil)))⟩ (.cons ⟨rfl,(aJ (its:=[.ref mw,.ref mx]) nk (show 2<=sizeLine by decide) (.cons (aJ (its:=[.str "number" tU]) nv (show 1<=sizeLine by decide) (.cons aQ .nil)) (.cons (aJ (its:=[.str "number" tV]) nq (show 1<=sizeLine by decide) (.cons aQ .nil)) .nil)))⟩ (.cons ⟨rfl,(aJ (its:=[.ref mB,.ref mC]) nc (show 2<=sizeLine by decide) (.cons (aJ (its:=[.str "number" tX]) nj (show 1<=sizeLine by decide) (.cons aQ .nil)) (.cons (aJ (its:=[.str "number" tY]) ng (show 1<=sizeLine by decide) (.cons aQ .nil)) .nil)))⟩ (.cons ⟨rfl,(aJ (its:=[.ref mE,.ref mF]) m6 (show 2<=sizeLine by decide) (.cons (aJ (its:=[.str "number" t6]) m9 (show 1<=sizeLine by decide) (.cons aQ .nil)) (.cons (aJ (its:=[.str "number" t7]) m7 (show 1<=sizeLine by decide) (.cons aQ .nil)) .nil)))⟩ (.cons ⟨rfl,(aJ (its:=[]) mZ (show 0<=sizeLine by decide) .nil)⟩ (.cons ⟨rfl,(aJ (its:=[.ref j8]) kE (show 1<=sizeLine by decide) (.cons (aJ (its:=[.str "number" rh]) kF (show 1<=sizeLine by decide) (.cons aQ .nil)) .nil))⟩ (.cons ⟨rfl,(aJ (its:=[.ref ka]) kC (show 1<=sizeLine by decide) (.cons (aJ (its:=[.str "whole" rk,.int 0 rl]) kD (show 2<=sizeLine by decide) (.cons aQ (.cons eK .nil))) .nil))⟩ (.cons ⟨rfl,(aJ (its:=[]) kB (show 0<=sizeLine by decide) .nil)⟩ (.cons ⟨rfl,(aJ (its:=[.ref ke]) kz (show 1<=sizeLine by decide) (.cons (aJ (its:=[.str "number" rp]) kA (show 1<=sizeLine by decide) (.cons aQ .nil)) .nil))⟩ (.cons ⟨rfl,(aJ (its:=[.ref kh]) ku (show 1<=sizeLine by decide) (.cons (aJ (its:=[.str "number" rz]) ky (show 1<=sizeLine by decide) (.cons aQ .nil)) .nil))⟩ .nil)))))))))))))))))));have IV:∀H:Hp,aX K H (.ref qb) xu:=uv (aJ (its:=[.str "jump" vW,.str "toss" vX,.str "give" vY]) kG (show 3<=sizeLine by decide) (.cons aQ (.cons aQ (.cons aQ .nil))));have Cq:∀H:Hp,aX K H (.ref km) sS:=uv (aJ (its:=[.str "div" rA,.str "rem" rB,.str "toss" rD,.str "call" rE]) gJ (show 4<=sizeLine by decide) (.cons aQ (.cons aQ (.cons aQ (.cons aQ .nil)))));have Ma:∀H:Hp,aX K H (.ref sF) Ae:=uv (aJ (its:=[.str "jump" xD,.str "zero" xE,.str "kin" xF]) oA (show 3<=sizeLine by decide) (.cons aQ (.cons aQ (.cons aQ .nil))));have QL:JO K w j4 oi:=GC (ent:=[("store",AW,.int 0 AX),("dup",AY,.int 2 AZ),("swap",A1,.int 2 A2),("drop",A4,.int 0 A5),("jump",A6,.int 0 xG),("zero",xH,.int 0 xI),("put",xJ,.int 0 xK),("toss",xM,.int 0 xN),("say",xO,.int 0 xP),("give",xQ,.int 0 xR)]) sG sH (show(["store","dup","swap","drop","jump","zero","put","toss","say","give"]:List Str).Nodup by decide +kernel) (.cons ⟨rfl,eK⟩ (.cons ⟨rfl,eK⟩ (.cons ⟨rfl,eK⟩ (.cons ⟨rfl,eK⟩ (.cons ⟨rfl,eK⟩ (.cons ⟨rfl,eK⟩ (.cons ⟨rfl,eK⟩ (.cons ⟨rfl,eK⟩ (.cons ⟨rfl,eK⟩ (.cons ⟨rfl,eK⟩ .nil))))))))));have zo:∀H:Hp,aX K H (.ref ig) oV:=uv (aJ (its:=[.str "make" mI,.str "fill" mJ,.str "begin" mK,.str "get" mL,.str "put" mM]) eZ (show 5<=sizeLine by decide) (.cons aQ (.cons aQ (.cons aQ (.cons aQ (.cons aQ .nil))))));refine⟨PySem.W.fnOf "law" "law" (dA qH) (dB qH) (dS qH) .none UI UJ UK UH QH UL,λs v=>.of_eq rfl,λbase _ _=>?_⟩;have v7:=x8 (st:=gL) mP mQ mR;have Cr:=v7.binds (ps:=["self","part","at","word"]) λ_ _ _ _ _ _=>Qu (λ_ _ _ _=>by rfl)
 have EZ:KY l.prog w K mg base ar ["part","at","word"]:=⟨⟨mU,⟨_,ko⟩,mV⟩,acj.mpr ⟨mW,acj.mpr ⟨mX,acj.mpr ⟨mY,List.forall_mem_nil _⟩⟩⟩,by decide,⟨_,_,⟨⟨_,ko⟩,mO,mS,mT⟩,yV v7,Cr⟩⟩;have cH:bM l.prog w K mg base bf "_law_mixed" 1 ["_law_cell_here","_law_k"] (bE K):=⟨_,_,wy F0 ,b0,k0,aah X G a0⟩;have n8:bM l.prog w K mg base bf "_law_cell" 2 ["_law_script","_law_k"] (eD K):=⟨_,_,yX F1 dQ UO cH,b1,k1,aah X G a1⟩;have ub:bM l.prog w K mg base bf "_law_kind" 1 ["_law_number","_law_sizes_here"] (fF K):=⟨_,_,yY F2 dQ,b2,k2,aah X G a2⟩;have zp:bM l.prog w K mg base bf "_law_makes" 2 ["_law_cell_here"] (gw K):=⟨_,_,wz F3 UN oE ub cH,b3,k3,aah X G a3⟩;have i7:bM l.prog w K mg base bf "_law_fields" 1 ["_law_makes_here","_law_c"] (cK K):=⟨_,_,vG F4 ,b4,k4,aah X G a4⟩;have zq:bM l.prog w K mg base bf "_law_sizes" 2 ["_law_makes_here"] (gy K):=⟨_,_,wB F5 dQ oE i7,b5,k5,aah X G a5⟩;have Bg:bM l.prog w K mg base bf "_law_part" 3 ["_law_makes_here","_law_cell_here"] (iE K):=⟨_,_,yZ F6 dQ oE ub cH zq,b6,k6,aah X G a6⟩;have Bh:bM l.prog w K mg base bf "_law_word" 1 ["_law_number"] (iF K):=⟨_,_,y8 F7 IP,b7,k7,aah X G a7⟩;have Bi:bM l.prog w K mg base bf "_law_book" 4 ["_law_script"] (iG K):=⟨_,_,y9 F8 dQ oE n8 zp cH Bg Bh,b8,k8,aah X G a8⟩;have rG:bM l.prog w K mg base bf "_law_wrong_kind" 2 ["_law_makes_here","_law_number"] (cP K):=⟨_,_,pZ F9 dQ i7,b9,k9,aah X G a9⟩;have qf:bM l.prog w K mg base bf "_law_wrong_stand" 3 ["_law_makes_here","_law_part_here","_law_stand","_law_way","_law_rest"] (cD K):=⟨_,_,oK Xj dQ rG,b10,k10,aah X G Z9⟩;have v8:bM l.prog w K mg base bf "_law_changed" 4 ["_law_makes_here","_law_part_here","_law_papers_here","_law_cell_here"] (eS K):=⟨_,_,uj Xk dQ vZ cH qf,b11,k11,aah X G a11⟩;have Bj:bM l.prog w K mg base bf "_law_copy" 1 ["_law_book_here"] (iH K):=⟨_,_,zc Xl vZ,b12,k12,aah X G a12⟩;have qg:bM l.prog w K mg base bf "_law_right_stand" 2 ["_law_makes_here","_law_part_here","_law_stand"] (cE K):=⟨_,_,oM Xm dQ i7,b13,k13,aah X G a13⟩;have Cs:bM l.prog w K mg base bf "_law_due" 3 ["_law_makes_here","_law_part_here","_law_papers_here"] (jR K):=⟨_,_,Az Xn dQ qg,b14,k14,aah X G a14⟩;have wJ:bM l.prog w K mg base bf "_law_papers" 3 ["_law_script","_law_part_here"] (fw K):=⟨_,_,vH Xo ua IP dQ UM oE DQ n8 cH,b15,k15,aah X G a15⟩;have zr:bM l.prog w K mg base bf "_law_whole" 1 ["_law_found"] (gA K):=⟨_,_,wD Xp y_bool IP rF qZ vJ,b16,k16,aah X G a16⟩;have uc:bM l.prog w K mg base bf "elders_of" 1 ["makes","c"] (eT K):=⟨_,_,zd Xq ,b17,k17,aah X G a17⟩;have Bk:bM l.prog w K mg base bf "fields_of" 2 ["makes","c"] (gB K):=⟨_,_,ze Xr vZ uc,b18,k18,aah X G a18⟩;have Bl:bM l.prog w K mg base bf "full_mask" 3 ["makes","c"] (gE K):=⟨_,_,zg Xs dQ Bk,b19,k19,aah X G a19⟩;have E8:bM l.prog w K mg base bf "is_kind" 4 ["makes","kind"] (jS K):=⟨_,_,Cf Xu dQ Bl,b20,k20,aah X G a20⟩;have Ct:bM l.prog w K mg base bf "is_stand" 5 ["book","part","stand"] (iM K):=⟨_,_,AJ Xv N6 dQ E8,b21,k21,aah X G a21⟩;have zt:bM l.prog w K mg base (xg l.prog w) "check_form" 6 ["book","part","papers"] (fz K ar):=⟨_,_,wF Xw dQ xS fk EZ Ct,b22,k22,aah X G a22⟩;have Mb:bM l.prog w K mg base bf "entry" 1 ["book","part"] (vA K):=⟨_,_,IF Xx dQ DQ,b23,k23,aah X G a23⟩;have Cu:bM l.prog w K mg base bf "is_under" 2 ["makes","c","other"] (iN K):=⟨_,_,AL Xy uc,b24,k24,aah X G a24⟩;have E9:bM l.prog w K mg base bf "beneath" 3 ["makes","kind","other"] (jW K):=⟨_,_,Cj Xz Cu,b25,k25,aah X G a25⟩;have oX:bM l.prog w K mg base bf "all_beneath" 4 ["makes","some","others"] (da K):=⟨_,_,vM XA N6 dQ UP E9,b26,k26,aah X G a26⟩;have DR:bM l.prog w K mg base bf "asked" 1 ["book","part","row"] (jj K):=⟨_,_,IG XB vZ IQ IU,b27,k27,aah X G a27⟩;have Bm:bM l.prog w K mg base bf "leaves" 1 ["row"] (gM K):=⟨_,_,EW XC QK QL,b28,k28,aah X G a28⟩;have IW:bM l.prog w K mg base bf "breaks" 5 ["book","part","at","stand"] (sv K):=⟨_,_,EX XE dQ oX DR Bm,b29,k29,aah X G a29⟩;have Fc:bM l.prog w K mg base bf "catcher" 1 ["stretches","at"] (jX K):=⟨_,_,Ck XF ,b30,k30,aah X G a30⟩;have Bo:bM l.prog w K mg base bf "kinds_put" 2 ["book","row","boxes","took"] (gF K):=⟨_,_,zh XH zm zo ⟨_,eZ,rfl,rfl⟩ Bm,b31,k31,aah X G a31⟩;have v9:bM l.prog w K mg base bf "stand_behind" 3 ["book","part","row","stand"] (dW K):=⟨_,_,uk XI dQ DR Bo,b32,k32,aah X G a32⟩;have QM:bM l.prog w K mg base bf "outs" 4 ["book","part","at","stand"] (yS K):=⟨_,_,L3 XJ IS IV ⟨_,kG,rfl,rfl⟩ Cp Cq ⟨_,gJ,rfl,rfl⟩ L9 Ma ⟨_,oA,rfl,rfl⟩ Fc v9,b33,k33,aah X G a33⟩;have wK:bM l.prog w K mg base bf "stand_after" 6 ["book","part","at","stand","kept"] (eV K):=⟨_,_,vQ XM IW QM,b34,k34,aah X G a34⟩;have uo:bM l.prog w K mg base bf "stand_beneath" 5 ["makes","one","other"] (fi K):=⟨_,_,sD XN oX,b35,k35,aah X G a35⟩;have Cv:bM l.prog w K mg base bf "stand_at" 6 ["book","part","at","came","kept"] (iP K):=⟨_,_,AR XO uo,b36,k36,aah X G a36⟩;have Mc:bM l.prog w K mg base (xg l.prog w) "check" 7 ["book","part","papers"] (qW K ar):=⟨_,_,II XQ QI dQ oE zt Mb wK Cv,b37,k37,aah X G a37⟩;have Bp:bM l.prog w K mg base bf "_law_told" 8 ["_law_book_here","_law_part_here","_law_papers_here"] (iQ K):=⟨_,_,zk XR zl rF xS fk IT rb wI fB fC zr Mc IJ fK fL fM fN fO fP IK IL UC UD UE IM,b38,k38,aah X G a38⟩;have jr:bM l.prog w K mg base bf "_law_with_a_wrong_row" 2 ["_law_book_here","_law_number","_law_cell_here"] (bK K):=⟨_,_,i6 XS dQ cH,b39,k39,aah X G a39⟩;exact QG (P:=l.prog) (w:=w) (base:=base) F40 ua vZ QJ Bi n8 v8 Bj Cs wJ Bp jr
theorem walk{l:PySem.W.OpenLaw}{q:Program}{loose:List Str}{XP:(Str->Option Value)->Heap->Prop}{YP:World->Heap->Prop}{d:DefRec}{K:Params->aH}(hn:l.most=some 63)(hdf:d.params.defaults=[])
  (hY:∀(w:World) (h:Heap),YP w h->(K w.params).In h)
  (F:∀(w:World) (mg:Str->Option Value) (fa:Addr) (h:Heap),(K w.params).In h->h.Ns mainGlobals mg->mg d.name=some (.ref fa) ->
   ∃fd:FuncData,(∀(s:Shared) (u:Value),BindsTo s fd ⟨[u],[]⟩ [("_law_script",u)])/\∀base:Heap,(K w.params).In base->base.Ns mainGlobals mg->bB l.prog w (K w.params) mg base bf 9 fa fd ["_law_script"] (vF (K w.params))) :
  PySem.W.WalkO q loose XP YP l.row.toRowW d [] (λf vs=>PySem.call f vs) :=
 L2.Kv (n:=63) (k:=9) (x:="_law_script") (CX:=λ_=>bf) (sp:=λw=>vF (K w.params)) hn (by decide) hdf ⟨λ_=>rfl,by decide,by decide,rfl⟩ hY F (λ_ _ a ns hl _ hS=>⟨a,ns,rfl,hS,hl,λ_=>rfl⟩) λ_ _ _ _ _ z=>z
end Mine
noncomputable section
namespace MH
open PySem PySem.W L2 Mine
abbrev OF:=Program->Params->Obj
abbrev TF:=Program->Params->BT
abbrev r(a:Nat):Value:=.ref a
abbrev s(x:Str)(t:Tok):Value:=.str x t
abbrev i(n:Int):Value:=.int n 0
abbrev cF:Str:="/claim/cut.py"
def de(P:Params)(x:Str)(t:Tok)(v:Value):DictEntry:=⟨PyData.keyHash P x,.str x t,v⟩
abbrev fn(a b:Str)(e:Stmt)(dV kV doc pm:Value)(an:Option Addr)(cd ct:Value):FuncData:=PySem.W.fnOf a b (dA e) (dB e) (dS e) dV kV doc pm an cd ct
abbrev fx(g u:Nat)(a b:Str)(e:Stmt)(dV kV doc pm:Value)(an:Option Addr)(cd ct:Value):FuncData:=⟨a,b,dA e,.stmts (dB e),dS e,g,[],dV,kV,doc,pm,an,cd,ct,u⟩
abbrev tu(l:List Value):Obj:=⟨.type "tuple",none,.seq l.toArray 0,#[]⟩
abbrev nf(l:List Value):Obj:=⟨.none,none,.fields l.toArray,#[]⟩
abbrev co(l:List Value):Obj:=⟨.type "code",none,.fields l.toArray,#[]⟩
abbrev fm(l:List (Option Value)):Obj:=⟨.type "frame",none,.plain,l.toArray⟩
abbrev di(l:List DictEntry)(n:Nat):Obj:=⟨.type "dict",none,.dict l.toArray n,#[]⟩
abbrev fo(f:FuncData):Obj:=⟨.type "function",none,.func f,#[]⟩
abbrev no(f:FuncData):Obj:=⟨.none,none,.func f,#[]⟩
abbrev bn(o:Obj)(l r:BT):BT:=.node o l r
abbrev bl(o:Obj):BT:=.node o .nil .nil
abbrev ai(o:OF)(l r:TF):TF:=λp P=>.node (o p P) (l p P) (r p P)
abbrev ak(o:OF):TF:=λp P=>.node (o p P) .nil .nil
abbrev aB:TF:=λ_ _=>.nil
abbrev f0_(a b:Str)(e:Stmt):FuncData:=fn a b e .none .none .none .none none .none .none
abbrev ij(g u:Nat)(a b:Str)(e:Stmt):FuncData:=fx g u a b e .none .none .none .none none .none .none
abbrev JU:OF:=λ_ P=>boot_o_0 P
abbrev JV:OF:=λ_ P=>boot_o_1 P
abbrev wL:OF:=λ_ P=>boot_o_10 P
abbrev JW:OF:=λ_ P=>boot_o_2 P
abbrev b3_:OF:=λ_ P=>boot_o_3 P
abbrev JX:OF:=λ_ P=>boot_o_4 P
abbrev JY:OF:=λ_ P=>boot_o_5 P
abbrev JZ:OF:=λ_ P=>boot_o_6 P
abbrev J0:OF:=λ_ P=>boot_o_7 P
abbrev J1:OF:=λ_ P=>boot_o_8 P
abbrev J2:OF:=λ_ P=>boot_o_9 P
abbrev pw:Program:=PySem.Challenge.pw_stackwarden_k52_papers_that_are_none
def rH(p:Program):Env:={scope:=p.main.scope,locals:=mainNs,globals:=mainNs,cells:=[],code:=(.ref 13),frame:=some 14}
def ck(p:Program):Code:=.body (behindTheImports p) (rH p)
abbrev BF:List Frame:=[topFrame ⟨0,0,0,0⟩]
def e7(p:Program)(i n:Nat):List Stmt:=((behindTheImports p).drop i).take n
def cg(p:Program):Program:={p with main:={p.main with body:=[tf p 1,tf p 2,tf p 3,tf p 5,tf p 6,tf p 7,tf p 8,tf p 9,tf p 10,tf p 12,tf p 13,tf p 14,tf p 15,tf p 16,tf p 17,tf p 18,tf p 19,tf p 20,tf p 21,tf p 23,tf p 25,tf p 26,tf p 28,tf p 29,tf p 30,tf p 31,tf p 32,tf p 33,tf p 35,tf p 36,tf p 37,tf p 38,tf p 39,tf p 41,tf p 42,tf p 43,tf p 44,tf p 45,tf p 46,tf p 47,tf p 48,tf p 49,tf p 50,tf p 51,tf p 52,tf p 53,tf p 54,tf p 55,tf p 56,tf p 57,tf p 58,tf p 59,tf p 60]}}
abbrev ST(t:BT)(n k:Nat)(os:OsState):SharedT:=⟨t,n,{},Array.mk [],{},k,os⟩
abbrev SH(h:Heap)(k:Nat)(os:OsState):Shared:=⟨h,Array.mk [],{},k,os⟩
local macro_rules | `(tactic| walk_at "qk")=>`(tactic| ((try rewrite [Fast.te14364793385576792824]); (try rewrite [Fast.te10110043849684766642]); (try rewrite [Fast.te14374325043358763698]); (try rewrite [Fast.te15667345088766844465]); (try rewrite [Fast.te14082659384304107361]); (try rewrite [Fast.te11892475500146522536]); (try rewrite [Fast.te5160383126252970620]); (try rewrite [Fast.te3399658132070893891]); (try rewrite [Fast.te5991557255702980513]); (try rewrite [Fast.te10880121769531294198]); (try rewrite [Fast.te821141287760084731]); (try rewrite [Fast.te7409074990110511671]); (try rewrite [Fast.te13664370479719496447]); (try rewrite [Fast.te5923862056798008813]); (try rewrite [Fast.te14722251495701143533]); (try rewrite [Fast.te10994771534591457954]); (try rewrite [Fast.te479339242167458305]); (try rewrite [Fast.te16090120013241838585]); (try rewrite [Fast.te3247288618530077131]); (try rewrite [Fast.te2386780881361962483]); (try rewrite [Fast.te11698064438423848299]); (try rewrite [Fast.te7317090234206586261]); (try rewrite [Fast.te7369524293546568484]); (try rewrite [Fast.te8920871248978507458]); (try rewrite [PySem.W.R.mapR_eq]); kernel_rfl))
def o0:OF:=λp P=>tu []
def o1:OF:=λp P=>nf []
noncomputable def o2:OF:=λp P=>co [(s "<module>" 182),(s "<module>" 183),(s cF 184),(i 1),(i 0),(i 0),(i 0),(i 0),(r 11),(.bool false),(i 181),(r 12),.none,.none,.none,.none,(i 185),(i 1),(s cF 186)]
def o3:OF:=λp P=>fm [(some (r 13)),(some (r 3)),(some (r 3)),none,(some (s "__main__" 164)),none,(some (r 0))]
def H0(p:Program)(P:Params):Heap:=⟨Array.mk [boot_o_0 P,boot_o_1 P,boot_o_2 P,boot_o_3 P,boot_o_4 P,boot_o_5 P,boot_o_6 P,boot_o_7 P,boot_o_8 P,boot_o_9 P,boot_o_10 P,o0 p P,o1 p P,o2 p P,o3 p P],{}⟩
def dq0_(P:Params):List DictEntry:=[de P "__doc__" 166 .none,de P "__package__" 167 .none,de P "__loader__" 168 (.builtin "__main__.__loader__#opaque"),de P "__spec__" 169 .none,de P "__annotations__" 170 (r 6),de P "__builtins__" 171 (r 4),de P "__file__" 173 (s cF 172),de P "__cached__" 174 .none,de P "WardenError" 206 (r 24)]
def dq1_(P:Params):List DictEntry:=dq0_ P++[de P "NoPass" 235 (r 44)]
def dq2_(P:Params):List DictEntry:=dq1_ P++[de P "NoPaper" 264 (r 63),de P "elders_of" 275 (r 72),de P "fields_of" 285 (r 79),de P "is_under" 294 (r 86),de P "full_mask" 302 (r 93)]
def dq3_(P:Params):List DictEntry:=dq2_ P++[de P "is_kind" 310 (r 100),de P "beneath" 319 (r 107)]
def dq4_(P:Params):List DictEntry:=dq3_ P++[de P "ALWAYS" 384 (r 108)]
def dq5_(P:Params):List DictEntry:=dq4_ P++[de P "LEFT" 415 (r 152),de P "asked" 426 (r 159),de P "asked_of_records" 437 (r 166),de P "leaves" 444 (r 173),de P "catcher" 453 (r 180),de P "OF_RECORDS" 459 (r 181),de P "GOING" 463 (r 182),de P "ENDING" 467 (r 183),de P "FAULTING" 472 (r 184),de P "replaced" 483 (r 191)]
def dq6_(P:Params):List DictEntry:=dq5_ P++[de P "all_beneath" 491 (r 196),de P "stand_beneath" 500 (r 203),de P "entry" 512 (r 210),de P "breaks" 525 (r 217),de P "kinds_put" 536 (r 224),de P "kinds_put_of_records" 547 (r 231),de P "stand_behind" 561 (r 238),de P "outs" 576 (r 245),de P "is_stand" 584 (r 250),de P "check_form" 596 (r 257),de P "stand_at" 607 (r 264)]
def dq7_(P:Params):List DictEntry:=dq6_ P++[de P "stand_after" 621 (r 271),de P "check" 633 (r 278),de P "_law_mixed" 644 (r 285),de P "_law_cell" 652 (r 292),de P "_law_whole" 659 (r 299),de P "_law_fields" 668 (r 306),de P "_law_kind" 678 (r 313),de P "_law_makes" 684 (r 318),de P "_law_sizes" 690 (r 323),de P "_law_part" 696 (r 328),de P "_law_word" 703 (r 335),de P "_law_copy" 709 (r 340),de P "_law_told" 721 (r 347)]
def dq8_(P:Params):List DictEntry:=dq7_ P++[de P "_law_book" 727 (r 352),de P "_law_papers" 733 (r 357),de P "_law_wrong_kind" 745 (r 364),de P "_law_wrong_stand" 761 (r 371),de P "_law_changed" 778 (r 378),de P "_law_right_stand" 788 (r 385),de P "_law_due" 800 (r 392),de P "_law_with_a_wrong_row" 811 (r 399),de P "law" 831 (r 406)]
def o4:OF:=λp P=>di (de P "__name__" 165 (s "stackwarden.errors" 187)::dq0_ P) 10
def o5:OF:=λp P=>nf [(i 2),(i 0),(r 20)]
def o6:OF:=λp P=>tu [(.type "ValueError")]
def o7:OF:=λp P=>⟨(.type "builtin_function_or_method"),none,(.fields #[(.builtin "type.__prepare__"),(.type "type")]),#[]⟩
noncomputable def o8:OF:=λp P=>di [de P "__module__" 196 (s "stackwarden.errors" 187),de P "__qualname__" 198 (s "WardenError" 197),de P "__firstlineno__" 200 (.int 2 199),de P "__static_attributes__" 201 (r 22)] 4
noncomputable def o9:OF:=λp P=>co [(s "WardenError" 191),(s "WardenError" 192),(s cF 193),(i 2),(i 0),(i 0),(i 0),(i 0),(r 18),(.bool false),(i 181),(r 19),.none,.none,.none,.none,(i 194),(i 2),(s cF 195)]
def J3:OF:=λp P=>fm [(some (r 20)),(some (r 3)),(some (r 17)),none,(some (s "stackwarden.errors" 187)),none,(some (r 0))]
noncomputable def IX:OF:=λp P=>di [de P "__module__" 196 (s "stackwarden.errors" 187),de P "__firstlineno__" 200 (.int 2 199),de P "__static_attributes__" 201 (r 22),de P "__weakref__" 203 (r 25),de P "__doc__" 204 .none] 3
noncomputable def o12:OF:=λp P=>⟨(.type "type"),none,(.cls {name:="WardenError",bases:=[(.type "ValueError")],mro:=[(r 24),(.type "ValueError"),(.type "Exception"),(.type "BaseException"),(.type "object")],ns:=23,qualname:="WardenError"}),#[(some (r 15)),none,(some (s "WardenError" 189)),(some (s "WardenError" 197)),(some (.builtin "ValueError.__new__")),(some (.bool true))]⟩
noncomputable def IY:OF:=λp P=>⟨(.type "getset_descriptor"),none,(.fields #[(s "__weakref__" 202),(r 24),(.builtin "ExceptionGroup.__weakref__"),.none]),#[]⟩
def J4:OF:=λp P=>⟨(.type "super"),none,(.fields #[(r 24),(r 24),(r 24)]),#[]⟩
def J5:OF:=λp P=>⟨(.type "builtin_function_or_method"),none,(.fields #[(.builtin "object.__init_subclass__"),(r 24)]),#[]⟩
def o16:OF:=λp P=>di (de P "__name__" 165 (s "stackwarden.errors" 187)::dq1_ P) 11
def o17:OF:=λp P=>nf [(i 2),(i 0),(r 20),(i 4),(i 0),(r 33)]
noncomputable def o18:OF:=λp P=>⟨(.type "type"),none,(.cls {name:="WardenError",bases:=[(.type "ValueError")],mro:=[(r 24),(.type "ValueError"),(.type "Exception"),(.type "BaseException"),(.type "object")],ns:=23,qualname:="WardenError",subclasses:=[(r 44)]}),#[(some (r 15)),none,(some (s "WardenError" 189)),(some (s "WardenError" 197)),(some (.builtin "ValueError.__new__")),(some (.bool true))]⟩
def zv:OF:=λp P=>tu [(r 24)]
noncomputable def Md:OF:=λp P=>di [de P "__module__" 214 (s "stackwarden.errors" 187),de P "__qualname__" 216 (s "NoPass" 215),de P "__firstlineno__" 218 (.int 4 217),de P "__init__" 228 (r 41),de P "__static_attributes__" 232 (r 42)] 5
def Me:OF:=λp P=>nf [(i 6),(i 4),(r 40)]
noncomputable def Mf:OF:=λp P=>co [(s "NoPass" 209),(s "NoPass" 210),(s cF 211),(i 4),(i 0),(i 0),(i 0),(i 0),(r 31),(.bool false),(i 181),(r 32),.none,.none,.none,.none,(i 212),(i 4),(s cF 213)]
def Mg:OF:=λp P=>fm [(some (r 33)),(some (r 3)),(some (r 30)),none,(some (s "stackwarden.errors" 187)),none,(some (r 0))]
def J6:OF:=λp P=>tu [(s "self" 222),(s "part" 223),(s "at" 224),(s "word" 225)]
def Mh:OF:=λp P=>no (ij 0 0 "__init__" "NoPass.__init__" (inner (tf p 2)))
noncomputable def J7:OF:=λp P=>co [(s "__init__" 219),(s "NoPass.__init__" 220),(s cF 221),(i 6),(i 4),(i 0),(i 0),(i 3),(r 35),(.bool true),(i 181),(r 36),.none,(r 37),(r 38),(r 39),(i 226),(i 6),(s cF 227)]
def J8:OF:=λp P=>fo (fn "__init__" "NoPass.__init__" (inner (tf p 2)) .none .none .none (s "stackwarden.errors" 187) none (r 40) .none)
def J9:OF:=λp P=>tu [(s "at" 229),(s "part" 230),(s "word" 231)]
noncomputable def Ka:OF:=λp P=>di [de P "__module__" 214 (s "stackwarden.errors" 187),de P "__firstlineno__" 218 (.int 4 217),de P "__init__" 228 (r 41),de P "__static_attributes__" 232 (r 42),de P "__doc__" 233 .none] 2
noncomputable def Mi:OF:=λp P=>⟨(.type "type"),none,(.cls {name:="NoPass",bases:=[(r 24)],mro:=[(r 44),(r 24),(.type "ValueError"),(.type "Exception"),(.type "BaseException"),(.type "object")],ns:=43,qualname:="NoPass"}),#[(some (r 28)),none,(some (s "NoPass" 207)),(some (s "NoPass" 215)),(some (.builtin "ValueError.__new__")),(some (.bool true))]⟩
def N7:OF:=λp P=>⟨(.type "super"),none,(.fields #[(r 44),(r 44),(r 44)]),#[]⟩
def Mj:OF:=λp P=>⟨(.type "builtin_function_or_method"),none,(.fields #[(.builtin "object.__init_subclass__"),(r 44)]),#[]⟩
def o33:OF:=λp P=>di (de P "__name__" 165 (s "stackwarden.kinds" 265)::dq2_ P) 16
noncomputable def o34:OF:=λp P=>nf [(i 2),(i 0),(r 20),(i 4),(i 0),(r 33),(i 10),(i 0),(r 52),(i 17),(i 0),(r 71),(i 23),(i 0),(r 78),(i 28),(i 0),(r 85),(i 30),(i 0),(r 92)]
noncomputable def Ml:OF:=λp P=>⟨(.type "type"),none,(.cls {name:="WardenError",bases:=[(.type "ValueError")],mro:=[(r 24),(.type "ValueError"),(.type "Exception"),(.type "BaseException"),(.type "object")],ns:=23,qualname:="WardenError",subclasses:=[(r 44),(r 63)]}),#[(some (r 15)),none,(some (s "WardenError" 189)),(some (s "WardenError" 197)),(some (.builtin "ValueError.__new__")),(some (.bool true))]⟩
noncomputable def N8:OF:=λp P=>di [de P "__module__" 243 (s "stackwarden.errors" 187),de P "__qualname__" 245 (s "NoPaper" 244),de P "__firstlineno__" 247 (.int 10 246),de P "__init__" 257 (r 60),de P "__static_attributes__" 261 (r 61)] 5
def N9:OF:=λp P=>nf [(i 12),(i 4),(r 59)]
noncomputable def Oa:OF:=λp P=>co [(s "NoPaper" 238),(s "NoPaper" 239),(s cF 240),(i 10),(i 0),(i 0),(i 0),(i 0),(r 50),(.bool false),(i 181),(r 51),.none,.none,.none,.none,(i 241),(i 10),(s cF 242)]
def Oc:OF:=λp P=>fm [(some (r 52)),(some (r 3)),(some (r 49)),none,(some (s "stackwarden.errors" 187)),none,(some (r 0))]
def Mm:OF:=λp P=>tu [(s "self" 251),(s "part" 252),(s "at" 253),(s "word" 254)]
def Od:OF:=λp P=>no (ij 0 0 "__init__" "NoPaper.__init__" (inner (tf p 3)))
noncomputable def Mn:OF:=λp P=>co [(s "__init__" 248),(s "NoPaper.__init__" 249),(s cF 250),(i 12),(i 4),(i 0),(i 0),(i 3),(r 54),(.bool true),(i 181),(r 55),.none,(r 56),(r 57),(r 58),(i 255),(i 12),(s cF 256)]
noncomputable def Oe:OF:=λp P=>fo (fn "__init__" "NoPaper.__init__" (inner (tf p 3)) .none .none .none (s "stackwarden.errors" 187) none (r 59) .none)
def Of:OF:=λp P=>tu [(s "at" 258),(s "part" 259),(s "word" 260)]
noncomputable def Mo:OF:=λp P=>di [de P "__module__" 243 (s "stackwarden.errors" 187),de P "__firstlineno__" 247 (.int 10 246),de P "__init__" 257 (r 60),de P "__static_attributes__" 261 (r 61),de P "__doc__" 262 .none] 2
noncomputable def Mp:OF:=λp P=>⟨(.type "type"),none,(.cls {name:="NoPaper",bases:=[(r 24)],mro:=[(r 63),(r 24),(.type "ValueError"),(.type "Exception"),(.type "BaseException"),(.type "object")],ns:=62,qualname:="NoPaper"}),#[(some (r 47)),none,(some (s "NoPaper" 236)),(some (s "NoPaper" 244)),(some (.builtin "ValueError.__new__")),(some (.bool true))]⟩
def Og:OF:=λp P=>⟨(.type "super"),none,(.fields #[(r 63),(r 63),(r 63)]),#[]⟩
def Oh:OF:=λp P=>⟨(.type "builtin_function_or_method"),none,(.fields #[(.builtin "object.__init_subclass__"),(r 63)]),#[]⟩
def Mq:OF:=λp P=>tu [(s "makes" 270),(s "c" 271),(s "elders" 272)]
def Oi:OF:=λp P=>no (ij 0 0 "elders_of" "elders_of" (tf p 5))
noncomputable def Mr:OF:=λp P=>co [(s "elders_of" 267),(s "elders_of" 268),(s cF 269),(i 17),(i 2),(i 0),(i 0),(i 3),(r 66),(.bool true),(i 181),(r 67),.none,(r 68),(r 69),(r 70),(i 273),(i 17),(s cF 274)]
def Ms:OF:=λp P=>fo (fn "elders_of" "elders_of" (tf p 5) .none .none .none (s "stackwarden.kinds" 265) none (r 71) .none)
def Mt:OF:=λp P=>tu [(s "makes" 279),(s "c" 280),(s "fields" 281),(s "elder" 282)]
def QN:OF:=λp P=>no (ij 0 0 "fields_of" "fields_of" (tf p 6))
noncomputable def Mu:OF:=λp P=>co [(s "fields_of" 276),(s "fields_of" 277),(s cF 278),(i 23),(i 2),(i 0),(i 0),(i 3),(r 73),(.bool true),(i 181),(r 74),.none,(r 75),(r 76),(r 77),(i 283),(i 23),(s cF 284)]
def Mv:OF:=λp P=>fo (fn "fields_of" "fields_of" (tf p 6) .none .none .none (s "stackwarden.kinds" 265) none (r 78) .none)
def Mw:OF:=λp P=>tu [(s "makes" 289),(s "c" 290),(s "other" 291)]
def Oj:OF:=λp P=>no (ij 0 0 "is_under" "is_under" (tf p 7))
noncomputable def Mx:OF:=λp P=>co [(s "is_under" 286),(s "is_under" 287),(s cF 288),(i 28),(i 3),(i 0),(i 0),(i 3),(r 80),(.bool true),(i 181),(r 81),.none,(r 82),(r 83),(r 84),(i 292),(i 28),(s cF 293)]
def My:OF:=λp P=>fo (fn "is_under" "is_under" (tf p 7) .none .none .none (s "stackwarden.kinds" 265) none (r 85) .none)
def Ol:OF:=λp P=>tu [(s "makes" 298),(s "c" 299)]
def QO:OF:=λp P=>no (ij 0 0 "full_mask" "full_mask" (tf p 8))
noncomputable def Om:OF:=λp P=>co [(s "full_mask" 295),(s "full_mask" 296),(s cF 297),(i 30),(i 2),(i 0),(i 0),(i 3),(r 87),(.bool true),(i 181),(r 88),.none,(r 89),(r 90),(r 91),(i 300),(i 30),(s cF 301)]
def Oo:OF:=λp P=>fo (fn "full_mask" "full_mask" (tf p 8) .none .none .none (s "stackwarden.kinds" 265) none (r 92) .none)
def o65:OF:=λp P=>di (de P "__name__" 165 (s "stackwarden.asks" 320)::dq3_ P) 18
noncomputable def YS:OF:=λp P=>nf [(i 2),(i 0),(r 20),(i 4),(i 0),(r 33),(i 10),(i 0),(r 52),(i 17),(i 0),(r 71),(i 23),(i 0),(r 78),(i 28),(i 0),(r 85),(i 30),(i 0),(r 92),(i 32),(i 0),(r 99),(i 38),(i 0),(r 106)]
def Oq:OF:=λp P=>tu [(s "makes" 306),(s "kind" 307)]
def QP:OF:=λp P=>no (ij 0 0 "is_kind" "is_kind" (tf p 9))
noncomputable def Ot:OF:=λp P=>co [(s "is_kind" 303),(s "is_kind" 304),(s cF 305),(i 32),(i 2),(i 0),(i 0),(i 3),(r 94),(.bool true),(i 181),(r 95),.none,(r 96),(r 97),(r 98),(i 308),(i 32),(s cF 309)]
def Ou:OF:=λp P=>fo (fn "is_kind" "is_kind" (tf p 9) .none .none .none (s "stackwarden.kinds" 265) none (r 99) .none)
def Ov:OF:=λp P=>tu [(s "makes" 314),(s "kind" 315),(s "other" 316)]
def QQ:OF:=λp P=>no (ij 0 0 "beneath" "beneath" (tf p 10))
noncomputable def Ow:OF:=λp P=>co [(s "beneath" 311),(s "beneath" 312),(s cF 313),(i 38),(i 3),(i 0),(i 0),(i 3),(r 101),(.bool true),(i 181),(r 102),.none,(r 103),(r 104),(r 105),(i 317),(i 38),(s cF 318)]
def Ox:OF:=λp P=>fo (fn "beneath" "beneath" (tf p 10) .none .none .none (s "stackwarden.kinds" 265) none (r 106) .none)
def o75:OF:=λp P=>di (de P "__name__" 165 (s "stackwarden.asks" 320)::dq4_ P) 19
noncomputable def QR:OF:=λp P=>di [de P "push" 322 (r 109),de P "load" 324 (r 110),de P "store" 326 (r 112),de P "dup" 329 (r 114),de P "swap" 332 (r 117),de P "drop" 336 (r 119),de P "add" 339 (r 122),de P "sub" 343 (r 125),de P "mul" 347 (r 128),de P "div" 351 (r 131),de P "rem" 355 (r 134),de P "less" 359 (r 137),de P "same" 363 (r 140),de P "jump" 367 (r 141),de P "zero" 369 (r 143),de P "kin" 372 (r 145),de P "make" 376 (r 146),de P "toss" 378 (r 149),de P "say" 380 (r 151)] 19
def QS:OF:=λp P=>tu [(s "any" 327)]
def QT:OF:=λp P=>tu [(r 111)]
def QU:OF:=λp P=>tu [(s "any" 330)]
def QV:OF:=λp P=>tu [(r 113)]
def QW:OF:=λp P=>tu [(s "any" 333)]
def QX:OF:=λp P=>tu [(s "any" 334)]
def QY:OF:=λp P=>tu [(r 115),(r 116)]
def QZ:OF:=λp P=>tu [(s "any" 337)]
def Q0:OF:=λp P=>tu [(r 118)]
def Q1:OF:=λp P=>tu [(s "number" 340)]
def Q2:OF:=λp P=>tu [(s "number" 341)]
def Q3:OF:=λp P=>tu [(r 120),(r 121)]
def Q4:OF:=λp P=>tu [(s "number" 344)]
def Q5:OF:=λp P=>tu [(s "number" 345)]
def Q6:OF:=λp P=>tu [(r 123),(r 124)]
def Q7:OF:=λp P=>tu [(s "number" 348)]
def Q8:OF:=λp P=>tu [(s "number" 349)]
def Q9:OF:=λp P=>tu [(r 126),(r 127)]
def Ra:OF:=λp P=>tu [(s "number" 352)]
def Rb:OF:=λp P=>tu [(s "number" 353)]
def Rc:OF:=λp P=>tu [(r 129),(r 130)]
def Rf:OF:=λp P=>tu [(s "number" 356)]
def Rg:OF:=λp P=>tu [(s "number" 357)]
def Cw:OF:=λp P=>tu [(r 132),(r 133)]
def Cy:OF:=λp P=>tu [(s "number" 360)]
def Cz:OF:=λp P=>tu [(s "number" 361)]
def CA:OF:=λp P=>tu [(r 135),(r 136)]
def CB:OF:=λp P=>tu [(s "number" 364)]
def CC:OF:=λp P=>tu [(s "number" 365)]
def CD:OF:=λp P=>tu [(r 138),(r 139)]
def CF:OF:=λp P=>tu [(s "number" 370)]
def CG:OF:=λp P=>tu [(r 142)]
def CH:OF:=λp P=>tu [(s "whole" 373),(.int 0 374)]
def CI:OF:=λp P=>tu [(r 144)]
def Fd:OF:=λp P=>di [de P "toss" 378 (r 149),de P "say" 380 (r 151)] 2
def CJ:OF:=λp P=>tu [(s "number" 379)]
def CK:OF:=λp P=>tu [(r 148)]
def CL:OF:=λp P=>tu [(s "number" 381)]
def Fe:OF:=λp P=>tu [(r 150)]
def XT:OF:=λp P=>di (de P "__name__" 165 (s "stackwarden.stands" 484)::dq5_ P) 29
noncomputable def XU:OF:=λp P=>nf [(i 2),(i 0),(r 20),(i 4),(i 0),(r 33),(i 10),(i 0),(r 52),(i 17),(i 0),(r 71),(i 23),(i 0),(r 78),(i 28),(i 0),(r 85),(i 30),(i 0),(r 92),(i 32),(i 0),(r 99),(i 38),(i 0),(r 106),(i 51),(i 0),(r 158),(i 61),(i 0),(r 165),(i 72),(i 0),(r 172),(i 74),(i 0),(r 179),(i 84),(i 0),(r 190)]
noncomputable def IZ:OF:=λp P=>di [de P "store" 385 (.int 0 386),de P "dup" 387 (.int 2 388),de P "swap" 389 (.int 2 390),de P "drop" 391 (.int 0 392),de P "jump" 393 (.int 0 394),de P "zero" 395 (.int 0 396),de P "put" 397 (.int 0 398),de P "toss" 399 (.int 0 400),de P "say" 401 (.int 0 402),de P "give" 403 (.int 0 404)] 10
def I0:OF:=λp P=>tu [(s "book" 419),(s "part" 420),(s "row" 421),(s "sign" 422),(s "parts" 423)]
def Ja:OF:=λp P=>no (ij 0 0 "asked" "asked" (tf p 14))
noncomputable def Ff:OF:=λp P=>co [(s "asked" 416),(s "asked" 417),(s cF 418),(i 51),(i 3),(i 0),(i 0),(i 3),(r 153),(.bool true),(i 181),(r 154),.none,(r 155),(r 156),(r 157),(i 424),(i 51),(s cF 425)]
def Fg:OF:=λp P=>fo (fn "asked" "asked" (tf p 14) .none .none .none (s "stackwarden.asks" 320) none (r 158) .none)
def Fi:OF:=λp P=>tu [(s "makes" 430),(s "row" 431),(s "sign" 432),(s "c" 433),(s "field" 434)]
def Jb:OF:=λp P=>no (ij 0 0 "asked_of_records" "asked_of_records" (tf p 15))
noncomputable def Fj:OF:=λp P=>co [(s "asked_of_records" 427),(s "asked_of_records" 428),(s cF 429),(i 61),(i 2),(i 0),(i 0),(i 3),(r 160),(.bool true),(i 181),(r 161),.none,(r 162),(r 163),(r 164),(i 435),(i 61),(s cF 436)]
def Fl:OF:=λp P=>fo (fn "asked_of_records" "asked_of_records" (tf p 15) .none .none .none (s "stackwarden.asks" 320) none (r 165) .none)
def Fm:OF:=λp P=>tu [(s "row" 441)]
def Jc:OF:=λp P=>no (ij 0 0 "leaves" "leaves" (tf p 16))
noncomputable def Fo:OF:=λp P=>co [(s "leaves" 438),(s "leaves" 439),(s cF 440),(i 72),(i 1),(i 0),(i 0),(i 3),(r 167),(.bool true),(i 181),(r 168),.none,(r 169),(r 170),(r 171),(i 442),(i 72),(s cF 443)]
def Fp:OF:=λp P=>fo (fn "leaves" "leaves" (tf p 16) .none .none .none (s "stackwarden.asks" 320) none (r 172) .none)
def Fq:OF:=λp P=>tu [(s "stretches" 448),(s "at" 449),(s "stretch" 450)]
def Jd:OF:=λp P=>no (ij 0 0 "catcher" "catcher" (tf p 17))
noncomputable def Fs:OF:=λp P=>co [(s "catcher" 445),(s "catcher" 446),(s cF 447),(i 74),(i 2),(i 0),(i 0),(i 3),(r 174),(.bool true),(i 181),(r 175),.none,(r 176),(r 177),(r 178),(i 451),(i 74),(s cF 452)]
def Ft:OF:=λp P=>fo (fn "catcher" "catcher" (tf p 17) .none .none .none (s "stackwarden.asks" 320) none (r 179) .none)
def Fu:OF:=λp P=>tu [(s "make" 454),(s "fill" 455),(s "begin" 456),(s "get" 457),(s "put" 458)]
def Fv:OF:=λp P=>tu [(s "jump" 460),(s "zero" 461),(s "kin" 462)]
def Fw:OF:=λp P=>tu [(s "jump" 464),(s "toss" 465),(s "give" 466)]
def Fx:OF:=λp P=>tu [(s "div" 468),(s "rem" 469),(s "toss" 470),(s "call" 471)]
def Fy:OF:=λp P=>tu [(s "some" 478),(s "spot" 479),(s "thing" 480)]
def Je:OF:=λp P=>no (ij 0 0 "replaced" "replaced" (tf p 23))
noncomputable def Fz:OF:=λp P=>co [(s "replaced" 475),(s "replaced" 476),(s cF 477),(i 84),(i 3),(i 0),(i 0),(i 3),(r 185),(.bool true),(i 181),(r 186),.none,(r 187),(r 188),(r 189),(i 481),(i 84),(s cF 482)]
def FA:OF:=λp P=>fo (fn "replaced" "replaced" (tf p 23) .none .none .none (s "stackwarden.spots" 473) none (r 190) .none)
def XW:OF:=λp P=>di (de P "__name__" 165 (s "stackwarden.papers" 577)::dq6_ P) 40
noncomputable def XX:OF:=λp P=>nf [(i 2),(i 0),(r 20),(i 4),(i 0),(r 33),(i 10),(i 0),(r 52),(i 17),(i 0),(r 71),(i 23),(i 0),(r 78),(i 28),(i 0),(r 85),(i 30),(i 0),(r 92),(i 32),(i 0),(r 99),(i 38),(i 0),(r 106),(i 51),(i 0),(r 158),(i 61),(i 0),(r 165),(i 72),(i 0),(r 172),(i 74),(i 0),(r 179),(i 84),(i 0),(r 190),(i 87),(i 0),(r 195),(i 91),(i 0),(r 202),(i 94),(i 0),(r 209),(i 98),(i 0),(r 216),(i 109),(i 0),(r 223),(i 124),(i 0),(r 230),(i 136),(i 0),(r 237),(i 144),(i 0),(r 244),(i 160),(i 0),(r 249),(i 164),(i 0),(r 256),(i 171),(i 0),(r 263)]
def Mz:OF:=λp P=>no (ij 0 0 "all_beneath" "all_beneath" (tf p 25))
noncomputable def Jf:OF:=λp P=>co [(s "all_beneath" 486),(s "all_beneath" 487),(s cF 488),(i 87),(i 3),(i 0),(i 0),(i 3),(r 192),(.bool true),(i 181),(r 193),.none,.none,.none,(r 194),(i 489),(i 87),(s cF 490)]
def Jg:OF:=λp P=>fo (fn "all_beneath" "all_beneath" (tf p 25) .none .none .none (s "stackwarden.stands" 484) none (r 195) .none)
def Jh:OF:=λp P=>tu [(s "makes" 495),(s "one" 496),(s "other" 497)]
def MA:OF:=λp P=>no (ij 0 0 "stand_beneath" "stand_beneath" (tf p 26))
noncomputable def Ji:OF:=λp P=>co [(s "stand_beneath" 492),(s "stand_beneath" 493),(s cF 494),(i 91),(i 3),(i 0),(i 0),(i 3),(r 197),(.bool true),(i 181),(r 198),.none,(r 199),(r 200),(r 201),(i 498),(i 91),(s cF 499)]
def Jk:OF:=λp P=>fo (fn "stand_beneath" "stand_beneath" (tf p 26) .none .none .none (s "stackwarden.stands" 484) none (r 202) .none)
def Jl:OF:=λp P=>tu [(s "book" 506),(s "part" 507),(s "takes" 508),(s "others" 509)]
def MB:OF:=λp P=>no (ij 0 0 "entry" "entry" (tf p 28))
noncomputable def Jm:OF:=λp P=>co [(s "entry" 503),(s "entry" 504),(s cF 505),(i 94),(i 2),(i 0),(i 0),(i 3),(r 204),(.bool true),(i 181),(r 205),.none,(r 206),(r 207),(r 208),(i 510),(i 94),(s cF 511)]
def Jn:OF:=λp P=>fo (fn "entry" "entry" (tf p 28) .none .none .none (s "stackwarden.flow" 501) none (r 209) .none)
def Jo:OF:=λp P=>tu [(s "book" 516),(s "part" 517),(s "at" 518),(s "stand" 519),(s "row" 520),(s "wanted" 521),(s "under" 522)]
def Rh:OF:=λp P=>no (ij 0 0 "breaks" "breaks" (tf p 29))
noncomputable def MC:OF:=λp P=>co [(s "breaks" 513),(s "breaks" 514),(s cF 515),(i 98),(i 4),(i 0),(i 0),(i 3),(r 211),(.bool true),(i 181),(r 212),.none,(r 213),(r 214),(r 215),(i 523),(i 98),(s cF 524)]
def MD:OF:=λp P=>fo (fn "breaks" "breaks" (tf p 29) .none .none .none (s "stackwarden.flow" 501) none (r 216) .none)
def Jp:OF:=λp P=>tu [(s "book" 529),(s "row" 530),(s "boxes" 531),(s "took" 532),(s "sign" 533)]
def ME:OF:=λp P=>no (ij 0 0 "kinds_put" "kinds_put" (tf p 30))
noncomputable def Jq:OF:=λp P=>co [(s "kinds_put" 526),(s "kinds_put" 527),(s cF 528),(i 109),(i 4),(i 0),(i 0),(i 3),(r 218),(.bool true),(i 181),(r 219),.none,(r 220),(r 221),(r 222),(i 534),(i 109),(s cF 535)]
def Jr:OF:=λp P=>fo (fn "kinds_put" "kinds_put" (tf p 30) .none .none .none (s "stackwarden.flow" 501) none (r 223) .none)
def Js:OF:=λp P=>tu [(s "makes" 540),(s "row" 541),(s "took" 542),(s "sign" 543),(s "c" 544)]
def MF:OF:=λp P=>no (ij 0 0 "kinds_put_of_records" "kinds_put_of_records" (tf p 31))
noncomputable def Jt:OF:=λp P=>co [(s "kinds_put_of_records" 537),(s "kinds_put_of_records" 538),(s cF 539),(i 124),(i 3),(i 0),(i 0),(i 3),(r 225),(.bool true),(i 181),(r 226),.none,(r 227),(r 228),(r 229),(i 545),(i 124),(s cF 546)]
noncomputable def Ju:OF:=λp P=>fo (fn "kinds_put_of_records" "kinds_put_of_records" (tf p 31) .none .none .none (s "stackwarden.flow" 501) none (r 230) .none)
noncomputable def Jv:OF:=λp P=>tu [(s "book" 551),(s "part" 552),(s "row" 553),(s "stand" 554),(s "boxes" 555),(s "under" 556),(s "took" 557),(s "stack" 558)]
def MG:OF:=λp P=>no (ij 0 0 "stand_behind" "stand_behind" (tf p 32))
noncomputable def Jw:OF:=λp P=>co [(s "stand_behind" 548),(s "stand_behind" 549),(s cF 550),(i 136),(i 4),(i 0),(i 0),(i 3),(r 232),(.bool true),(i 181),(r 233),.none,(r 234),(r 235),(r 236),(i 559),(i 136),(s cF 560)]
def Jx:OF:=λp P=>fo (fn "stand_behind" "stand_behind" (tf p 32) .none .none .none (s "stackwarden.flow" 501) none (r 237) .none)
noncomputable def Jy:OF:=λp P=>tu [(s "book" 565),(s "part" 566),(s "at" 567),(s "stand" 568),(s "row" 569),(s "sign" 570),(s "told" 571),(s "behind" 572),(s "caught" 573)]
def MI:OF:=λp P=>no (ij 0 0 "outs" "outs" (tf p 33))
noncomputable def Jz:OF:=λp P=>co [(s "outs" 562),(s "outs" 563),(s cF 564),(i 144),(i 4),(i 0),(i 0),(i 3),(r 239),(.bool true),(i 181),(r 240),.none,(r 241),(r 242),(r 243),(i 574),(i 144),(s cF 575)]
def JA:OF:=λp P=>fo (fn "outs" "outs" (tf p 33) .none .none .none (s "stackwarden.flow" 501) none (r 244) .none)
def MJ:OF:=λp P=>no (ij 0 0 "is_stand" "is_stand" (tf p 35))
noncomputable def JB:OF:=λp P=>co [(s "is_stand" 579),(s "is_stand" 580),(s cF 581),(i 160),(i 3),(i 0),(i 0),(i 3),(r 246),(.bool true),(i 181),(r 247),.none,.none,.none,(r 248),(i 582),(i 160),(s cF 583)]
def JC:OF:=λp P=>fo (fn "is_stand" "is_stand" (tf p 35) .none .none .none (s "stackwarden.papers" 577) none (r 249) .none)
def JD:OF:=λp P=>tu [(s "book" 588),(s "part" 589),(s "papers" 590),(s "least" 591),(s "paper" 592),(s "at" 593)]
def MK:OF:=λp P=>no (ij 0 0 "check_form" "check_form" (tf p 36))
noncomputable def JE:OF:=λp P=>co [(s "check_form" 585),(s "check_form" 586),(s cF 587),(i 164),(i 3),(i 0),(i 0),(i 3),(r 251),(.bool true),(i 181),(r 252),.none,(r 253),(r 254),(r 255),(i 594),(i 164),(s cF 595)]
def JF:OF:=λp P=>fo (fn "check_form" "check_form" (tf p 36) .none .none .none (s "stackwarden.papers" 577) none (r 256) .none)
def JG:OF:=λp P=>tu [(s "book" 600),(s "part" 601),(s "at" 602),(s "came" 603),(s "kept" 604)]
def ML:OF:=λp P=>no (ij 0 0 "stand_at" "stand_at" (tf p 37))
noncomputable def JH:OF:=λp P=>co [(s "stand_at" 597),(s "stand_at" 598),(s cF 599),(i 171),(i 5),(i 0),(i 0),(i 3),(r 258),(.bool true),(i 181),(r 259),.none,(r 260),(r 261),(r 262),(i 605),(i 171),(s cF 606)]
def JI:OF:=λp P=>fo (fn "stand_at" "stand_at" (tf p 37) .none .none .none (s "stackwarden.papers" 577) none (r 263) .none)
def XY:OF:=λp P=>di (de P "__name__" 165 (s "law_stackwarden_k52_papers_that_are_none" 634)::dq7_ P) 53
noncomputable def XZ:OF:=λp P=>nf [(i 2),(i 0),(r 20),(i 4),(i 0),(r 33),(i 10),(i 0),(r 52),(i 17),(i 0),(r 71),(i 23),(i 0),(r 78),(i 28),(i 0),(r 85),(i 30),(i 0),(r 92),(i 32),(i 0),(r 99),(i 38),(i 0),(r 106),(i 51),(i 0),(r 158),(i 61),(i 0),(r 165),(i 72),(i 0),(r 172),(i 74),(i 0),(r 179),(i 84),(i 0),(r 190),(i 87),(i 0),(r 195),(i 91),(i 0),(r 202),(i 94),(i 0),(r 209),(i 98),(i 0),(r 216),(i 109),(i 0),(r 223),(i 124),(i 0),(r 230),(i 136),(i 0),(r 237),(i 144),(i 0),(r 244),(i 160),(i 0),(r 249),(i 164),(i 0),(r 256),(i 171),(i 0),(r 263),(i 177),(i 0),(r 270),(i 190),(i 0),(r 277),(i 199),(i 0),(r 284),(i 203),(i 0),(r 291),(i 207),(i 0),(r 298),(i 209),(i 0),(r 305),(i 215),(i 0),(r 312),(i 225),(i 0),(r 317),(i 237),(i 0),(r 322),(i 239),(i 0),(r 327),(i 247),(i 0),(r 334),(i 249),(i 0),(r 339),(i 252),(i 0),(r 346)]
noncomputable def MM:OF:=λp P=>tu [(s "book" 611),(s "part" 612),(s "at" 613),(s "stand" 614),(s "kept" 615),(s "word" 616),(s "behind" 617),(s "lead" 618)]
def Ri:OF:=λp P=>no (ij 0 0 "stand_after" "stand_after" (tf p 38))
noncomputable def MN:OF:=λp P=>co [(s "stand_after" 608),(s "stand_after" 609),(s cF 610),(i 177),(i 5),(i 0),(i 0),(i 3),(r 265),(.bool true),(i 181),(r 266),.none,(r 267),(r 268),(r 269),(i 619),(i 177),(s cF 620)]
def MO:OF:=λp P=>fo (fn "stand_after" "stand_after" (tf p 38) .none .none .none (s "stackwarden.papers" 577) none (r 270) .none)
def MP:OF:=λp P=>tu [(s "book" 625),(s "part" 626),(s "papers" 627),(s "kept" 628),(s "stand" 629),(s "at" 630)]
def Rj:OF:=λp P=>no (ij 0 0 "check" "check" (tf p 39))
noncomputable def MQ:OF:=λp P=>co [(s "check" 622),(s "check" 623),(s cF 624),(i 190),(i 3),(i 0),(i 0),(i 3),(r 272),(.bool true),(i 181),(r 273),.none,(r 274),(r 275),(r 276),(i 631),(i 190),(s cF 632)]
def MR:OF:=λp P=>fo (fn "check" "check" (tf p 39) .none .none .none (s "stackwarden.papers" 577) none (r 277) .none)
def Rk:OF:=λp P=>tu [(s "_law_cell_here" 639),(s "_law_k" 640),(s "_law_number" 641)]
def UQ:OF:=λp P=>no (ij 0 0 "_law_mixed" "_law_mixed" (tf p 41))
noncomputable def MS:OF:=λp P=>co [(s "_law_mixed" 636),(s "_law_mixed" 637),(s cF 638),(i 199),(i 2),(i 0),(i 0),(i 3),(r 279),(.bool true),(i 181),(r 280),.none,(r 281),(r 282),(r 283),(i 642),(i 199),(s cF 643)]
noncomputable def MT:OF:=λp P=>fo (fn "_law_mixed" "_law_mixed" (tf p 41) .none .none .none (s "law_stackwarden_k52_papers_that_are_none" 634) none (r 284) .none)
def MU:OF:=λp P=>tu [(s "_law_script" 648),(s "_law_k" 649)]
def Rl:OF:=λp P=>no (ij 0 0 "_law_cell" "_law_cell" (tf p 42))
noncomputable def MV:OF:=λp P=>co [(s "_law_cell" 645),(s "_law_cell" 646),(s cF 647),(i 203),(i 2),(i 0),(i 0),(i 3),(r 286),(.bool true),(i 181),(r 287),.none,(r 288),(r 289),(r 290),(i 650),(i 203),(s cF 651)]
noncomputable def MW:OF:=λp P=>fo (fn "_law_cell" "_law_cell" (tf p 42) .none .none .none (s "law_stackwarden_k52_papers_that_are_none" 634) none (r 291) .none)
def MX:OF:=λp P=>tu [(s "_law_found" 656)]
def Rm:OF:=λp P=>no (ij 0 0 "_law_whole" "_law_whole" (tf p 43))
noncomputable def MY:OF:=λp P=>co [(s "_law_whole" 653),(s "_law_whole" 654),(s cF 655),(i 207),(i 1),(i 0),(i 0),(i 3),(r 293),(.bool true),(i 181),(r 294),.none,(r 295),(r 296),(r 297),(i 657),(i 207),(s cF 658)]
noncomputable def MZ:OF:=λp P=>fo (fn "_law_whole" "_law_whole" (tf p 43) .none .none .none (s "law_stackwarden_k52_papers_that_are_none" 634) none (r 298) .none)
def M0:OF:=λp P=>tu [(s "_law_makes_here" 663),(s "_law_c" 664),(s "_law_found" 665)]
def Rn:OF:=λp P=>no (ij 0 0 "_law_fields" "_law_fields" (tf p 44))
noncomputable def M1:OF:=λp P=>co [(s "_law_fields" 660),(s "_law_fields" 661),(s cF 662),(i 209),(i 2),(i 0),(i 0),(i 3),(r 300),(.bool true),(i 181),(r 301),.none,(r 302),(r 303),(r 304),(i 666),(i 209),(s cF 667)]
noncomputable def M3:OF:=λp P=>fo (fn "_law_fields" "_law_fields" (tf p 44) .none .none .none (s "law_stackwarden_k52_papers_that_are_none" 634) none (r 305) .none)
def M4:OF:=λp P=>tu [(s "_law_number" 672),(s "_law_sizes_here" 673),(s "_law_c" 674),(s "_law_way" 675)]
def Ro:OF:=λp P=>no (ij 0 0 "_law_kind" "_law_kind" (tf p 45))
noncomputable def M5:OF:=λp P=>co [(s "_law_kind" 669),(s "_law_kind" 670),(s cF 671),(i 215),(i 2),(i 0),(i 0),(i 3),(r 307),(.bool true),(i 181),(r 308),.none,(r 309),(r 310),(r 311),(i 676),(i 215),(s cF 677)]
noncomputable def M6:OF:=λp P=>fo (fn "_law_kind" "_law_kind" (tf p 45) .none .none .none (s "law_stackwarden_k52_papers_that_are_none" 634) none (r 312) .none)
def Rp:OF:=λp P=>no (ij 0 0 "_law_makes" "_law_makes" (tf p 46))
noncomputable def M7:OF:=λp P=>co [(s "_law_makes" 679),(s "_law_makes" 680),(s cF 681),(i 225),(i 1),(i 0),(i 0),(i 3),(r 314),(.bool true),(i 181),(r 315),.none,.none,.none,(r 316),(i 682),(i 225),(s cF 683)]
noncomputable def M8:OF:=λp P=>fo (fn "_law_makes" "_law_makes" (tf p 46) .none .none .none (s "law_stackwarden_k52_papers_that_are_none" 634) none (r 317) .none)
def Rq:OF:=λp P=>no (ij 0 0 "_law_sizes" "_law_sizes" (tf p 47))
noncomputable def M9:OF:=λp P=>co [(s "_law_sizes" 685),(s "_law_sizes" 686),(s cF 687),(i 237),(i 1),(i 0),(i 0),(i 3),(r 319),(.bool true),(i 181),(r 320),.none,.none,.none,(r 321),(i 688),(i 237),(s cF 689)]
noncomputable def Na:OF:=λp P=>fo (fn "_law_sizes" "_law_sizes" (tf p 47) .none .none .none (s "law_stackwarden_k52_papers_that_are_none" 634) none (r 322) .none)
def Rr:OF:=λp P=>no (ij 0 0 "_law_part" "_law_part" (tf p 48))
noncomputable def Nb:OF:=λp P=>co [(s "_law_part" 691),(s "_law_part" 692),(s cF 693),(i 239),(i 2),(i 0),(i 0),(i 3),(r 324),(.bool true),(i 181),(r 325),.none,.none,.none,(r 326),(i 694),(i 239),(s cF 695)]
noncomputable def Nd:OF:=λp P=>fo (fn "_law_part" "_law_part" (tf p 48) .none .none .none (s "law_stackwarden_k52_papers_that_are_none" 634) none (r 327) .none)
def Nf:OF:=λp P=>tu [(s "_law_number" 700)]
def Rt:OF:=λp P=>no (ij 0 0 "_law_word" "_law_word" (tf p 49))
noncomputable def Ng:OF:=λp P=>co [(s "_law_word" 697),(s "_law_word" 698),(s cF 699),(i 247),(i 1),(i 0),(i 0),(i 3),(r 329),(.bool true),(i 181),(r 330),.none,(r 331),(r 332),(r 333),(i 701),(i 247),(s cF 702)]
noncomputable def Nh:OF:=λp P=>fo (fn "_law_word" "_law_word" (tf p 49) .none .none .none (s "law_stackwarden_k52_papers_that_are_none" 634) none (r 334) .none)
def Ru:OF:=λp P=>no (ij 0 0 "_law_copy" "_law_copy" (tf p 50))
noncomputable def Ni:OF:=λp P=>co [(s "_law_copy" 704),(s "_law_copy" 705),(s cF 706),(i 249),(i 1),(i 0),(i 0),(i 3),(r 336),(.bool true),(i 181),(r 337),.none,.none,.none,(r 338),(i 707),(i 249),(s cF 708)]
noncomputable def Nj:OF:=λp P=>fo (fn "_law_copy" "_law_copy" (tf p 50) .none .none .none (s "law_stackwarden_k52_papers_that_are_none" 634) none (r 339) .none)
noncomputable def Rv:OF:=λp P=>tu [(s "_law_book_here" 713),(s "_law_part_here" 714),(s "_law_papers_here" 715),(s "_law_told_here" 716),(s "_law_found" 717),(s "e" 718)]
def UR:OF:=λp P=>no (ij 0 0 "_law_told" "_law_told" (tf p 51))
noncomputable def Rx:OF:=λp P=>co [(s "_law_told" 710),(s "_law_told" 711),(s cF 712),(i 252),(i 3),(i 0),(i 0),(i 3),(r 341),(.bool true),(i 181),(r 342),.none,(r 343),(r 344),(r 345),(i 719),(i 252),(s cF 720)]
noncomputable def Ry:OF:=λp P=>fo (fn "_law_told" "_law_told" (tf p 51) .none .none .none (s "law_stackwarden_k52_papers_that_are_none" 634) none (r 346) .none)
def Rz:OF:=λp P=>di (de P "__name__" 165 (s "law_stackwarden_k52_papers_that_are_none" 634)::dq8_ P) 62
noncomputable def US:OF:=λp P=>nf [(i 2),(i 0),(r 20),(i 4),(i 0),(r 33),(i 10),(i 0),(r 52),(i 17),(i 0),(r 71),(i 23),(i 0),(r 78),(i 28),(i 0),(r 85),(i 30),(i 0),(r 92),(i 32),(i 0),(r 99),(i 38),(i 0),(r 106),(i 51),(i 0),(r 158),(i 61),(i 0),(r 165),(i 72),(i 0),(r 172),(i 74),(i 0),(r 179),(i 84),(i 0),(r 190),(i 87),(i 0),(r 195),(i 91),(i 0),(r 202),(i 94),(i 0),(r 209),(i 98),(i 0),(r 216),(i 109),(i 0),(r 223),(i 124),(i 0),(r 230),(i 136),(i 0),(r 237),(i 144),(i 0),(r 244),(i 160),(i 0),(r 249),(i 164),(i 0),(r 256),(i 171),(i 0),(r 263),(i 177),(i 0),(r 270),(i 190),(i 0),(r 277),(i 199),(i 0),(r 284),(i 203),(i 0),(r 291),(i 207),(i 0),(r 298),(i 209),(i 0),(r 305),(i 215),(i 0),(r 312),(i 225),(i 0),(r 317),(i 237),(i 0),(r 322),(i 239),(i 0),(r 327),(i 247),(i 0),(r 334),(i 249),(i 0),(r 339),(i 252),(i 0),(r 346),(i 266),(i 0),(r 351),(i 276),(i 0),(r 356),(i 287),(i 0),(r 363),(i 294),(i 0),(r 370),(i 308),(i 0),(r 377),(i 324),(i 0),(r 384),(i 333),(i 0),(r 391),(i 340),(i 0),(r 398),(i 346),(i 0),(r 405)]
def UT:OF:=λp P=>no (ij 0 0 "_law_book" "_law_book" (tf p 52))
noncomputable def RA:OF:=λp P=>co [(s "_law_book" 722),(s "_law_book" 723),(s cF 724),(i 266),(i 1),(i 0),(i 0),(i 3),(r 348),(.bool true),(i 181),(r 349),.none,.none,.none,(r 350),(i 725),(i 266),(s cF 726)]
noncomputable def RB:OF:=λp P=>fo (fn "_law_book" "_law_book" (tf p 52) .none .none .none (s "law_stackwarden_k52_papers_that_are_none" 634) none (r 351) .none)
def UU:OF:=λp P=>no (ij 0 0 "_law_papers" "_law_papers" (tf p 53))
noncomputable def RC:OF:=λp P=>co [(s "_law_papers" 728),(s "_law_papers" 729),(s cF 730),(i 276),(i 2),(i 0),(i 0),(i 3),(r 353),(.bool true),(i 181),(r 354),.none,.none,.none,(r 355),(i 731),(i 276),(s cF 732)]
noncomputable def RD:OF:=λp P=>fo (fn "_law_papers" "_law_papers" (tf p 53) .none .none .none (s "law_stackwarden_k52_papers_that_are_none" 634) none (r 356) .none)
noncomputable def RE:OF:=λp P=>tu [(s "_law_makes_here" 737),(s "_law_number" 738),(s "_law_c" 739),(s "_law_size" 740),(s "_law_many" 741),(s "_law_some" 742)]
def UW:OF:=λp P=>no (ij 0 0 "_law_wrong_kind" "_law_wrong_kind" (tf p 54))
noncomputable def RF:OF:=λp P=>co [(s "_law_wrong_kind" 734),(s "_law_wrong_kind" 735),(s cF 736),(i 287),(i 2),(i 0),(i 0),(i 3),(r 358),(.bool true),(i 181),(r 359),.none,(r 360),(r 361),(r 362),(i 743),(i 287),(s cF 744)]
noncomputable def RG:OF:=λp P=>fo (fn "_law_wrong_kind" "_law_wrong_kind" (tf p 54) .none .none .none (s "law_stackwarden_k52_papers_that_are_none" 634) none (r 363) .none)
noncomputable def RH:OF:=λp P=>tu [(s "_law_makes_here" 749),(s "_law_part_here" 750),(s "_law_stand" 751),(s "_law_way" 752),(s "_law_rest" 753),(s "_law_boxes" 754),(s "_law_stack" 755),(s "_law_kind_here" 756),(s "_law_spot" 757),(s "_law_deep" 758)]
def UX:OF:=λp P=>no (ij 0 0 "_law_wrong_stand" "_law_wrong_stand" (tf p 55))
noncomputable def RJ:OF:=λp P=>co [(s "_law_wrong_stand" 746),(s "_law_wrong_stand" 747),(s cF 748),(i 294),(i 5),(i 0),(i 0),(i 3),(r 365),(.bool true),(i 181),(r 366),.none,(r 367),(r 368),(r 369),(i 759),(i 294),(s cF 760)]
noncomputable def RK:OF:=λp P=>fo (fn "_law_wrong_stand" "_law_wrong_stand" (tf p 55) .none .none .none (s "law_stackwarden_k52_papers_that_are_none" 634) none (r 370) .none)
noncomputable def RL:OF:=λp P=>tu [(s "_law_makes_here" 765),(s "_law_part_here" 766),(s "_law_papers_here" 767),(s "_law_cell_here" 768),(s "_law_found" 769),(s "_law_rest" 770),(s "_law_j" 771),(s "_law_at" 772),(s "_law_stand" 773),(s "_law_way" 774),(s "_law_places" 775)]
def UY:OF:=λp P=>no (ij 0 0 "_law_changed" "_law_changed" (tf p 56))
noncomputable def RM:OF:=λp P=>co [(s "_law_changed" 762),(s "_law_changed" 763),(s cF 764),(i 308),(i 4),(i 0),(i 0),(i 3),(r 372),(.bool true),(i 181),(r 373),.none,(r 374),(r 375),(r 376),(i 776),(i 308),(s cF 777)]
noncomputable def RN:OF:=λp P=>fo (fn "_law_changed" "_law_changed" (tf p 56) .none .none .none (s "law_stackwarden_k52_papers_that_are_none" 634) none (r 377) .none)
def RO:OF:=λp P=>tu [(s "_law_makes_here" 782),(s "_law_part_here" 783),(s "_law_stand" 784),(s "_law_kind_here" 785)]
def UZ:OF:=λp P=>no (ij 0 0 "_law_right_stand" "_law_right_stand" (tf p 57))
noncomputable def RP:OF:=λp P=>co [(s "_law_right_stand" 779),(s "_law_right_stand" 780),(s cF 781),(i 324),(i 3),(i 0),(i 0),(i 3),(r 379),(.bool true),(i 181),(r 380),.none,(r 381),(r 382),(r 383),(i 786),(i 324),(s cF 787)]
noncomputable def RQ:OF:=λp P=>fo (fn "_law_right_stand" "_law_right_stand" (tf p 57) .none .none .none (s "law_stackwarden_k52_papers_that_are_none" 634) none (r 384) .none)
noncomputable def RS:OF:=λp P=>tu [(s "_law_makes_here" 792),(s "_law_part_here" 793),(s "_law_papers_here" 794),(s "_law_last" 795),(s "_law_at" 796),(s "_law_stand" 797)]
def U0:OF:=λp P=>no (ij 0 0 "_law_due" "_law_due" (tf p 58))
noncomputable def RT:OF:=λp P=>co [(s "_law_due" 789),(s "_law_due" 790),(s cF 791),(i 333),(i 3),(i 0),(i 0),(i 3),(r 386),(.bool true),(i 181),(r 387),.none,(r 388),(r 389),(r 390),(i 798),(i 333),(s cF 799)]
noncomputable def RU:OF:=λp P=>fo (fn "_law_due" "_law_due" (tf p 58) .none .none .none (s "law_stackwarden_k52_papers_that_are_none" 634) none (r 391) .none)
def RV:OF:=λp P=>tu [(s "_law_book_here" 804),(s "_law_number" 805),(s "_law_cell_here" 806),(s "_law_rows" 807),(s "_law_at" 808)]
def U1:OF:=λp P=>no (ij 0 0 "_law_with_a_wrong_row" "_law_with_a_wrong_row" (tf p 59))
noncomputable def RW:OF:=λp P=>co [(s "_law_with_a_wrong_row" 801),(s "_law_with_a_wrong_row" 802),(s cF 803),(i 340),(i 3),(i 0),(i 0),(i 3),(r 393),(.bool true),(i 181),(r 394),.none,(r 395),(r 396),(r 397),(i 809),(i 340),(s cF 810)]
noncomputable def RX:OF:=λp P=>fo (fn "_law_with_a_wrong_row" "_law_with_a_wrong_row" (tf p 59) .none .none .none (s "law_stackwarden_k52_papers_that_are_none" 634) none (r 398) .none)
noncomputable def RY:OF:=λp P=>tu [(s "_law_script" 815),(s "_law_book_here" 816),(s "_law_number" 817),(s "_law_makes_here" 818),(s "_law_part_here" 819),(s "_law_papers_here" 820),(s "_law_told_here" 821),(s "_law_k" 822),(s "_law_paper" 823),(s "_law_due_here" 824),(s "_law_at" 825),(s "_law_kept" 826),(s "_law_text" 827),(s "_law_handed" 828)]
def U2:OF:=λp P=>no (ij 0 0 "law" "law" (tf p 60))
noncomputable def RZ:OF:=λp P=>co [(s "law" 812),(s "law" 813),(s cF 814),(i 346),(i 1),(i 0),(i 0),(i 3),(r 400),(.bool true),(i 181),(r 401),.none,(r 402),(r 403),(r 404),(i 829),(i 346),(s cF 830)]
def R3:OF:=λp P=>fo (fn "law" "law" (tf p 60) .none .none .none (s "law_stackwarden_k52_papers_that_are_none" 634) none (r 405) .none)
noncomputable def T0:TF:=(ai JU (ai JV (ai b3_ (ak J0) (ak o0)) (ai JY (ak J2) (ak o2))) (ai JW (ai JX (ak J1) (ak o1)) (ai JZ (ak wL) (ak o3))))
noncomputable def T1:TF:=(ai JU (ai JV (ai o4 (ai J0 (ak o6) (ak IX)) (ai o0 (ak o1) (ak J5))) (ai JY (ai J2 (ak o8) (ak IY)) (ai o2 (ak J3) aB))) (ai JW (ai JX (ai J1 (ak o7) (ak o12)) (ai o5 (ak o9) aB)) (ai JZ (ai wL (ak o0) (ak J4)) (ai o3 (ak o0) aB))))
noncomputable def T2:TF:=(ai JU (ai JV (ai o16 (ai J0 (ai o6 (ak o0) aB) (ai IX (ak Mh) aB)) (ai o0 (ai o1 (ak o0) aB) (ai J5 (ak Ka) aB))) (ai JY (ai J2 (ai o8 (ak Mf) aB) (ai IY (ak J8) aB)) (ai o2 (ai J3 (ak J6) aB) (ai o7 (ak N7) aB)))) (ai JW (ai JX (ai J1 (ai o7 (ak Me) aB) (ai o18 (ak J7) aB)) (ai o17 (ai o9 (ak o1) aB) (ai zv (ak Mi) aB))) (ai JZ (ai wL (ai o0 (ak Mg) aB) (ai J4 (ak J9) aB)) (ai o3 (ai o0 (ak o0) aB) (ai Md (ak Mj) aB)))))
noncomputable def u0:TF:=(ai o7 (ai N7 (ak QN) aB) (ai Of (ak Oo) aB))
noncomputable def u1:TF:=(ai zv (ai Mi (ak o0) aB) (ai Oe (ak Om) aB))
noncomputable def T3:TF:=(ai JU (ai JV (ai o33 (ai J0 (ai o6 (ai o0 (ak Mp) aB) (ai zv (ak Mv) aB)) (ai IX (ai Mh (ak Mr) aB) (ai o1 (ak o0) aB))) (ai o0 (ai o1 (ai o0 (ak o1) aB) (ai N9 (ak o0) aB)) (ai J5 (ai Ka (ak Mt) aB) (ai Mn (ak QO) aB)))) (ai JY (ai J2 (ai o8 (ai Mf (ak Oh) aB) (ai N8 (ak o1) aB)) (ai IY (ai J8 (ak o0) aB) (ai o0 (ak Ol) aB))) (ai o2 (ai J3 (ai J6 (ak o0) aB) (ai Oc (ak Mx) aB)) u0))) (ai JW (ai JX (ai J1 (ai o7 (ai Me (ak Og) aB) (ai o7 (ak o0) aB)) (ai Ml (ai J7 (ak Ms) aB) (ai Mm (ak o1) aB))) (ai o34 (ai o9 (ai o1 (ak Mq) aB) (ai Oa (ak Oj) aB)) u1)) (ai JZ (ai wL (ai o0 (ai Mg (ak o0) aB) (ai o0 (ak Mw) aB)) (ai J4 (ai J9 (ak o1) aB) (ai Od (ak o0) aB))) (ai o3 (ai o0 (ai o0 (ak Oi) aB) (ai o0 (ak My) aB)) (ai Md (ai Mj (ak Mu) aB) (ak Mo))))))
noncomputable def T4:TF:=(ai JU (ai JV (ai o65 (ai J0 (ai o6 (ai o0 (ak Mp) (ak o1)) (ai zv (ak Mv) aB)) (ai IX (ai Mh (ak Mr) (ak Ov)) (ai o1 (ak o0) aB))) (ai o0 (ai o1 (ai o0 (ak o1) (ak Ot)) (ai N9 (ak o0) aB)) (ai J5 (ai Ka (ak Mt) (ak Ox)) (ai Mn (ak QO) aB)))) (ai JY (ai J2 (ai o8 (ai Mf (ak Oh) (ak o0)) (ai N8 (ak o1) aB)) (ai IY (ai J8 (ak o0) (ak QQ)) (ai o0 (ak Ol) aB))) (ai o2 (ai J3 (ai J6 (ak o0) (ak o0)) (ai Oc (ak Mx) aB)) u0))) (ai JW (ai JX (ai J1 (ai o7 (ai Me (ak Og) (ak Oq)) (ai o7 (ak o0) aB)) (ai Ml (ai J7 (ak Ms) (ak o0)) (ai Mm (ak o1) aB))) (ai YS (ai o9 (ai o1 (ak Mq) (ak Ou)) (ai Oa (ak Oj) aB)) u1)) (ai JZ (ai wL (ai o0 (ai Mg (ak o0) (ak QP)) (ai o0 (ak Mw) aB)) (ai J4 (ai J9 (ak o1) (ak Ow)) (ai Od (ak o0) aB))) (ai o3 (ai o0 (ai o0 (ak Oi) (ak o1)) (ai o0 (ak My) aB)) (ai Md (ai Mj (ak Mu) aB) (ai Mo (ak o0) aB))))))
noncomputable def T5:TF:=(ai JU (ai JV (ai o75 (ai J0 (ai o6 (ai o0 (ai Mp (ak Q8) aB) (ak o1)) (ai zv (ai Mv (ak CG) aB) (ak QS))) (ai IX (ai Mh (ai Mr (ak Cy) aB) (ak Ov)) (ai o1 (ai o0 (ak Fe) aB) (ak Q0)))) (ai o0 (ai o1 (ai o0 (ai o1 (ak Rc) aB) (ak Ot)) (ai N9 (ai o0 (ak Fd) aB) (ak QW))) (ai J5 (ai Ka (ai Mt (ak CC) aB) (ak Ox)) (ai Mn (ak QO) (ak Q4))))) (ai JY (ai J2 (ai o8 (ai Mf (ai Oh (ak Ra) aB) (ak o0)) (ai N8 (ai o1 (ak CI) aB) (ak QU))) (ai IY (ai J8 (ai o0 (ak CA) aB) (ak QQ)) (ai o0 (ak Ol) (ak Q2)))) (ai o2 (ai J3 (ai J6 (ai o0 (ak Rg) aB) (ak o0)) (ai Oc (ai Mx (ak CK) aB) (ak QY))) (ai o7 (ai N7 (ai QN (ak o0) aB) (ak o0)) (ai Of (ak Oo) (ak Q6)))))) (ai JW (ai JX (ai J1 (ai o7 (ai Me (ai Og (ak Q9) aB) (ak Oq)) (ai o7 (ai o0 (ak CH) aB) (ak QT))) (ai Ml (ai J7 (ai Ms (ak Cz) aB) (ak o0)) (ai Mm (ak o1) (ak Q1)))) (ai YS (ai o9 (ai o1 (ai Mq (ak Rf) aB) (ak Ou)) (ai Oa (ai Oj (ak CJ) aB) (ak QX))) (ai zv (ai Mi (ai o0 (ak CD) aB) (ak QR)) (ai Oe (ak Om) (ak Q5))))) (ai JZ (ai wL (ai o0 (ai Mg (ai o0 (ak Rb) aB) (ak QP)) (ai o0 (ai Mw (ak o0) aB) (ak QV))) (ai J4 (ai J9 (ai o1 (ak CB) aB) (ak Ow)) (ai Od (ak o0) (ak Q3)))) (ai o3 (ai o0 (ai o0 (ai Oi (ak Cw) aB) (ak o1)) (ai o0 (ai My (ak CL) aB) (ak QZ))) (ai Md (ai Mj (ai Mu (ak CF) aB) (ak o0)) (ai Mo (ak o0) (ak Q7)))))))
noncomputable def T6:TF:=(ai JU (ai JV (ai XT (ai J0 (ai o6 (ai o0 (ai Mp (ak Q8) (ak FA)) (ai o1 (ak Fg) aB)) (ai zv (ai Mv (ak CG) aB) (ai QS (ak o1) aB))) (ai IX (ai Mh (ai Mr (ak Cy) aB) (ai Ov (ak o0) aB)) (ai o1 (ai o0 (ak Fe) aB) (ai Q0 (ak Fw) aB)))) (ai o0 (ai o1 (ai o0 (ai o1 (ak Rc) aB) (ai Ot (ak o0) aB)) (ai N9 (ai o0 (ak Fd) aB) (ai QW (ak Fs) aB))) (ai J5 (ai Ka (ai Mt (ak CC) aB) (ai Ox (ak Jc) aB)) (ai Mn (ai QO (ak I0) aB) (ai Q4 (ak Fy) aB))))) (ai JY (ai J2 (ai o8 (ai Mf (ai Oh (ak Ra) aB) (ai o0 (ak o1) aB)) (ai N8 (ai o1 (ak CI) aB) (ai QU (ak o0) aB))) (ai IY (ai J8 (ai o0 (ak CA) aB) (ai QQ (ak Fm) aB)) (ai o0 (ai Ol (ak o0) aB) (ai Q2 (ak o0) aB)))) (ai o2 (ai J3 (ai J6 (ai o0 (ak Rg) aB) (ai o0 (ak Fj) aB)) (ai Oc (ai Mx (ak CK) aB) (ai QY (ak Fu) aB))) (ai o7 (ai N7 (ai QN (ak o0) aB) (ai o0 (ak Fp) aB)) (ai Of (ai Oo (ak Ja) aB) (ai Q6 (ak Je) aB)))))) (ai JW (ai JX (ai J1 (ai o7 (ai Me (ai Og (ak Q9) aB) (ai Oq (ak o0) aB)) (ai o7 (ai o0 (ak CH) aB) (ai QT (ak Fq) aB))) (ai Ml (ai J7 (ai Ms (ak Cz) aB) (ai o0 (ak o1) aB)) (ai Mm (ai o1 (ak IZ) aB) (ai Q1 (ak Fx) aB)))) (ai XU (ai o9 (ai o1 (ai Mq (ak Rf) aB) (ai Ou (ak Jb) aB)) (ai Oa (ai Oj (ak CJ) aB) (ai QX (ak Ft) aB))) (ai zv (ai Mi (ai o0 (ak CD) aB) (ai QR (ak Fo) aB)) (ai Oe (ai Om (ak o0) aB) (ai Q5 (ak o0) aB))))) (ai JZ (ai wL (ai o0 (ai Mg (ai o0 (ak Rb) aB) (ai QP (ak Fi) aB)) (ai o0 (ai Mw (ak o0) aB) (ai QV (ak Jd) aB))) (ai J4 (ai J9 (ai o1 (ak CB) aB) (ai Ow (ak o0) aB)) (ai Od (ai o0 (ak o1) aB) (ai Q3 (ak o1) aB)))) (ai o3 (ai o0 (ai o0 (ai Oi (ak Cw) aB) (ai o1 (ak Fl) aB)) (ai o0 (ai My (ak CL) aB) (ai QZ (ak Fv) aB))) (ai Md (ai Mj (ai Mu (ak CF) aB) (ai o0 (ak o0) aB)) (ai Mo (ai o0 (ak Ff) aB) (ai Q7 (ak Fz) aB)))))))
noncomputable def T7:TF:=(ai JU (ai JV (ai XW (ai J0 (ai o6 (ai o0 (ai Mp (ai Q8 (ak MK) aB) (ak FA)) (ai o1 (ak Fg) (ak Jq))) (ai zv (ai Mv (ak CG) (ak o0)) (ai QS (ak o1) (ak o0)))) (ai IX (ai Mh (ai Mr (ai Cy (ak JH) aB) (ak Jh)) (ai Ov (ak o0) (ak Ju))) (ai o1 (ai o0 (ak Fe) (ak Rh)) (ai Q0 (ak Fw) (ak o1))))) (ai o0 (ai o1 (ai o0 (ai o1 (ai Rc (ak o1) aB) (ak Jf)) (ai Ot (ak o0) (ak Js))) (ai N9 (ai o0 (ak Fd) (ak o0)) (ai QW (ak Fs) (ak MI)))) (ai J5 (ai Ka (ai Mt (ak CC) (ak Jk)) (ai Ox (ak Jc) (ak o0))) (ai Mn (ai QO (ak I0) (ak o1)) (ai Q4 (ak Fy) (ak o0)))))) (ai JY (ai J2 (ai o8 (ai Mf (ai Oh (ai Ra (ak JF) aB) (ak o1)) (ai o0 (ak o1) (ak o0))) (ai N8 (ai o1 (ak CI) (ak Jm)) (ai QU (ak o0) (ak Jy)))) (ai IY (ai J8 (ai o0 (ak CA) (ak MA)) (ai QQ (ak Fm) (ak o1))) (ai o0 (ai Ol (ak o0) (ak MD)) (ai Q2 (ak o0) (ak JB))))) (ai o2 (ai J3 (ai J6 (ai o0 (ai Rg (ak o0) aB) (ak o0)) (ai o0 (ak Fj) (ak MF))) (ai Oc (ai Mx (ak CK) (ak Jo)) (ai QY (ak Fu) (ak JA)))) (ai o7 (ai N7 (ai QN (ak o0) (ak o1)) (ai o0 (ak Fp) (ak Jw))) (ai Of (ai Oo (ak Ja) (ak o0)) (ai Q6 (ak Je) (ak JD))))))) (ai JW (ai JX (ai J1 (ai o7 (ai Me (ai Og (ai Q9 (ak JE) aB) (ak o0)) (ai Oq (ak o0) (ak Jr))) (ai o7 (ai o0 (ak CH) (ak MB)) (ai QT (ak Fq) (ak o1)))) (ai Ml (ai J7 (ai Ms (ai Cz (ak JI) aB) (ak o0)) (ai o0 (ak o1) (ak o0))) (ai Mm (ai o1 (ak IZ) (ak MC)) (ai Q1 (ak Fx) (ak MJ))))) (ai XX (ai o9 (ai o1 (ai Mq (ai Rf (ak JG) aB) (ak Jg)) (ai Ou (ak Jb) (ak o0))) (ai Oa (ai Oj (ak CJ) (ak o1)) (ai QX (ak Ft) (ak Jz)))) (ai zv (ai Mi (ai o0 (ak CD) (ak o0)) (ai QR (ak Fo) (ak MG))) (ai Oe (ai Om (ak o0) (ak Jp)) (ai Q5 (ak o0) (ak o1)))))) (ai JZ (ai wL (ai o0 (ai Mg (ai o0 (ai Rb (ak o0) aB) (ak Mz)) (ai QP (ak Fi) (ak o1))) (ai o0 (ai Mw (ak o0) (ak Jn)) (ai QV (ak Jd) (ak o0)))) (ai J4 (ai J9 (ai o1 (ak CB) (ak Ji)) (ai Ow (ak o0) (ak Jv))) (ai Od (ai o0 (ak o1) (ak o0)) (ai Q3 (ak o1) (ak JC))))) (ai o3 (ai o0 (ai o0 (ai Oi (ai Cw (ak ML) aB) (ak o1)) (ai o1 (ak Fl) (ak Jt))) (ai o0 (ai My (ak CL) (ak o0)) (ai QZ (ak Fv) (ak o0)))) (ai Md (ai Mj (ai Mu (ak CF) (ak Jl)) (ai o0 (ak o0) (ak Jx))) (ai Mo (ai o0 (ak Ff) (ak ME)) (ai Q7 (ak Fz) (ak o0))))))))
noncomputable def u2:TF:=(ai o0 (ai Fe (ak o0) aB) (ai Rh (ak Rv) aB))
noncomputable def u3:TF:=(ai QO (ai I0 (ak UQ) aB) (ai o1 (ak Ry) aB))
noncomputable def u4:TF:=(ai Ol (ai o0 (ak Rk) aB) (ai MD (ak UR) aB))
noncomputable def u5:TF:=(ai o1 (ai IZ (ak o1) aB) (ai MC (ak o0) aB))
noncomputable def u6:TF:=(ai o0 (ai o1 (ak o0) aB) (ai o0 (ak Rx) aB))
noncomputable def T8:TF:=(ai JU (ai JV (ai XY (ai J0 (ai o6 (ai o0 (ai Mp (ai Q8 (ak MK) aB) (ai FA (ak o0) aB)) (ai o1 (ai Fg (ak o1) aB) (ak Jq))) (ai zv (ai Mv (ai CG (ak MO) aB) (ai o0 (ak Nh) aB)) (ai QS (ai o1 (ak o0) aB) (ak o0)))) (ai IX (ai Mh (ai Mr (ai Cy (ak JH) aB) (ai Jh (ak Nb) aB)) (ai Ov (ai o0 (ak MX) aB) (ak Ju))) (ai o1 u2 (ai Q0 (ai Fw (ak Ro) aB) (ak o1))))) (ai o0 (ai o1 (ai o0 (ai o1 (ai Rc (ak o1) aB) (ai Jf (ak Na) aB)) (ai Ot (ai o0 (ak MV) aB) (ak Js))) (ai N9 (ai o0 (ai Fd (ak o0) aB) (ai o0 (ak Ni) aB)) (ai QW (ai Fs (ak o0) aB) (ak MI)))) (ai J5 (ai Ka (ai Mt (ai CC (ak MM) aB) (ai Jk (ak Nf) aB)) (ai Ox (ai Jc (ak MZ) aB) (ak o0))) (ai Mn u3 (ai Q4 (ai Fy (ak o1) aB) (ak o0)))))) (ai JY (ai J2 (ai o8 (ai Mf (ai Oh (ai Ra (ak JF) aB) (ai o1 (ak Rq) aB)) (ai o0 (ai o1 (ak o0) aB) (ak o0))) (ai N8 (ai o1 (ai CI (ak o1) aB) (ai Jm (ak o1) aB)) (ai QU (ai o0 (ak M1) aB) (ak Jy)))) (ai IY (ai J8 (ai o0 (ai CA (ak o0) aB) (ai MA (ak o0) aB)) (ai QQ (ai Fm (ak Rm) aB) (ak o1))) (ai o0 u4 (ai Q2 (ai o0 (ak M6) aB) (ak JB))))) (ai o2 (ai J3 (ai J6 (ai o0 (ai Rg (ak o0) aB) (ai o0 (ak o1) aB)) (ai o0 (ai Fj (ak o0) aB) (ak MF))) (ai Oc (ai Mx (ai CK (ak MQ) aB) (ai Jo (ak o0) aB)) (ai QY (ai Fu (ak M4) aB) (ak JA)))) (ai o7 (ai N7 (ai QN (ai o0 (ak Ri) aB) (ai o1 (ak Rt) aB)) (ai o0 (ai Fp (ak o1) aB) (ak Jw))) (ai Of (ai Oo (ai Ja (ak MT) aB) (ak o0)) (ai Q6 (ai Je (ak M7) aB) (ak JD))))))) (ai JW (ai JX (ai J1 (ai o7 (ai Me (ai Og (ai Q9 (ak JE) aB) (ai o0 (ak o1) aB)) (ai Oq (ai o0 (ak MU) aB) (ak Jr))) (ai o7 (ai o0 (ai CH (ak o0) aB) (ai MB (ak o0) aB)) (ai QT (ai Fq (ak Rn) aB) (ak o1)))) (ai Ml (ai J7 (ai Ms (ai Cz (ak JI) aB) (ai o0 (ak Nd) aB)) (ai o0 (ai o1 (ak o0) aB) (ak o0))) (ai Mm u5 (ai Q1 (ai Fx (ak M5) aB) (ak MJ))))) (ai XZ (ai o9 (ai o1 (ai Mq (ai Rf (ak JG) aB) (ai Jg (ak o0) aB)) (ai Ou (ai Jb (ak MW) aB) (ak o0))) (ai Oa (ai Oj (ai CJ (ak Rj) aB) (ai o1 (ak Nj) aB)) (ai QX (ai Ft (ak o1) aB) (ak Jz)))) (ai zv (ai Mi (ai o0 (ai CD (ak o0) aB) (ai o0 (ak o0) aB)) (ai QR (ai Fo (ak o0) aB) (ak MG))) (ai Oe (ai Om (ai o0 (ak MS) aB) (ak Jp)) (ai Q5 (ai o0 (ak Rp) aB) (ak o1)))))) (ai JZ (ai wL (ai o0 (ai Mg (ai o0 (ai Rb (ak o0) aB) (ai Mz (ak M9) aB)) (ai QP (ai Fi (ak Rl) aB) (ak o1))) (ai o0 (ai Mw (ai o0 (ak MP) aB) (ai Jn (ak Ru) aB)) (ai QV (ai Jd (ak M3) aB) (ak o0)))) (ai J4 (ai J9 (ai o1 (ai CB (ak o1) aB) (ai Ji (ak o1) aB)) (ai Ow (ai o0 (ak MY) aB) (ak Jv))) (ai Od u6 (ai Q3 (ai o1 (ak o0) aB) (ak JC))))) (ai o3 (ai o0 (ai o0 (ai Oi (ai Cw (ak ML) aB) (ai o1 (ak Rr) aB)) (ai o1 (ai Fl (ak o1) aB) (ak Jt))) (ai o0 (ai My (ai CL (ak MR) aB) (ai o0 (ak o1) aB)) (ai QZ (ai Fv (ak o0) aB) (ak o0)))) (ai Md (ai Mj (ai Mu (ai CF (ak MN) aB) (ai Jl (ak Ng) aB)) (ai o0 (ai o0 (ak M0) aB) (ak Jx))) (ai Mo (ai o0 (ai Ff (ak o0) aB) (ak ME)) (ai Q7 (ai Fz (ak M8) aB) (ak o0))))))))
noncomputable def T9:TF:=(ai JU (ai JV (ai Rz (ai J0 (ai o6 (ai o0 (ai Mp (ai Q8 (ak MK) (ak UZ)) (ai FA (ak o0) aB)) (ai o1 (ai Fg (ak o1) aB) (ai Jq (ak RA) aB))) (ai zv (ai Mv (ai CG (ak MO) (ak RX)) (ai o0 (ak Nh) aB)) (ai QS (ai o1 (ak o0) aB) (ai o0 (ak RH) aB)))) (ai IX (ai Mh (ai Mr (ai Cy (ak JH) (ak RT)) (ai Jh (ak Nb) aB)) (ai Ov (ai o0 (ak MX) aB) (ai Ju (ak o1) aB))) (ai o1 u2 (ai Q0 (ai Fw (ak Ro) aB) (ai o1 (ak o0) aB))))) (ai o0 (ai o1 (ai o0 (ai o1 (ai Rc (ak o1) (ak o1)) (ai Jf (ak Na) aB)) (ai Ot (ai o0 (ak MV) aB) (ai Js (ak UU) aB))) (ai N9 (ai o0 (ai Fd (ak o0) (ak o0)) (ai o0 (ak Ni) aB)) (ai QW (ai Fs (ak o0) aB) (ai MI (ak RK) aB)))) (ai J5 (ai Ka (ai Mt (ai CC (ak MM) (ak RV)) (ai Jk (ak Nf) aB)) (ai Ox (ai Jc (ak MZ) aB) (ai o0 (ak RF) aB))) (ai Mn u3 (ai Q4 (ai Fy (ak o1) aB) (ai o0 (ak o0) aB)))))) (ai JY (ai J2 (ai o8 (ai Mf (ai Oh (ai Ra (ak JF) (ak RQ)) (ai o1 (ak Rq) aB)) (ai o0 (ai o1 (ak o0) aB) (ai o0 (ak o0) aB))) (ai N8 (ai o1 (ai CI (ak o1) (ak o1)) (ai Jm (ak o1) aB)) (ai QU (ai o0 (ak M1) aB) (ai Jy (ak UX) aB)))) (ai IY (ai J8 (ai o0 (ai CA (ak o0) (ak o0)) (ai MA (ak o0) aB)) (ai QQ (ai Fm (ak Rm) aB) (ai o1 (ak o0) aB))) (ai o0 u4 (ai Q2 (ai o0 (ak M6) aB) (ai JB (ak RM) aB))))) (ai o2 (ai J3 (ai J6 (ai o0 (ai Rg (ak o0) (ak o0)) (ai o0 (ak o1) aB)) (ai o0 (ai Fj (ak o0) aB) (ai MF (ak RD) aB))) (ai Oc (ai Mx (ai CK (ak MQ) (ak RZ)) (ai Jo (ak o0) aB)) (ai QY (ai Fu (ak M4) aB) (ai JA (ak o1) aB)))) (ai o7 (ai N7 (ai QN (ai o0 (ak Ri) (ak U1)) (ai o1 (ak Rt) aB)) (ai o0 (ai Fp (ak o1) aB) (ai Jw (ak o0) aB))) (ai Of (ai Oo (ai Ja (ak MT) aB) (ai o0 (ak o1) aB)) (ai Q6 (ai Je (ak M7) aB) (ai JD (ak RO) aB))))))) (ai JW (ai JX (ai J1 (ai o7 (ai Me (ai Og (ai Q9 (ak JE) (ak RP)) (ai o0 (ak o1) aB)) (ai Oq (ai o0 (ak MU) aB) (ai Jr (ak RB) aB))) (ai o7 (ai o0 (ai CH (ak o0) (ak o0)) (ai MB (ak o0) aB)) (ai QT (ai Fq (ak Rn) aB) (ai o1 (ak o0) aB)))) (ai Ml (ai J7 (ai Ms (ai Cz (ak JI) (ak RU)) (ai o0 (ak Nd) aB)) (ai o0 (ai o1 (ak o0) aB) (ai o0 (ak RE) aB))) (ai Mm u5 (ai Q1 (ai Fx (ak M5) aB) (ai MJ (ak UY) aB))))) (ai US (ai o9 (ai o1 (ai Mq (ai Rf (ak JG) (ak RS)) (ai Jg (ak o0) aB)) (ai Ou (ai Jb (ak MW) aB) (ai o0 (ak RC) aB))) (ai Oa (ai Oj (ai CJ (ak Rj) (ak U2)) (ai o1 (ak Nj) aB)) (ai QX (ai Ft (ak o1) aB) (ai Jz (ak o0) aB)))) (ai zv (ai Mi (ai o0 (ai CD (ak o0) (ak o0)) (ai o0 (ak o0) aB)) (ai QR (ai Fo (ak o0) aB) (ai MG (ak RG) aB))) (ai Oe (ai Om (ai o0 (ak MS) aB) (ai Jp (ak o0) aB)) (ai Q5 (ai o0 (ak Rp) aB) (ai o1 (ak o1) aB)))))) (ai JZ (ai wL (ai o0 (ai Mg (ai o0 (ai Rb (ak o0) (ak o0)) (ai Mz (ak M9) aB)) (ai QP (ai Fi (ak Rl) aB) (ai o1 (ak o1) aB))) (ai o0 (ai Mw (ai o0 (ak MP) (ak RY)) (ai Jn (ak Ru) aB)) (ai QV (ai Jd (ak M3) aB) (ai o0 (ak RJ) aB)))) (ai J4 (ai J9 (ai o1 (ai CB (ak o1) (ak o1)) (ai Ji (ak o1) aB)) (ai Ow (ai o0 (ak MY) aB) (ai Jv (ak UW) aB))) (ai Od u6 (ai Q3 (ai o1 (ak o0) aB) (ai JC (ak RN) aB))))) (ai o3 (ai o0 (ai o0 (ai Oi (ai Cw (ak ML) (ak U0)) (ai o1 (ak Rr) aB)) (ai o1 (ai Fl (ak o1) aB) (ai Jt (ak o0) aB))) (ai o0 (ai My (ai CL (ak MR) (ak R3)) (ai o0 (ak o1) aB)) (ai QZ (ai Fv (ak o0) aB) (ai o0 (ak RL) aB)))) (ai Md (ai Mj (ai Mu (ai CF (ak MN) (ak RW)) (ai Jl (ak Ng) aB)) (ai o0 (ai o0 (ak M0) aB) (ai Jx (ak o1) aB))) (ai Mo (ai o0 (ai Ff (ak o0) aB) (ai ME (ak UT) aB)) (ai Q7 (ai Fz (ak M8) aB) (ai o0 (ak o0) aB))))))))
noncomputable def HF(p:Program)(P:Params):Heap:=⟨Array.mk [boot_o_0 P,boot_o_1 P,boot_o_2 P,Rz p P,boot_o_4 P,boot_o_5 P,boot_o_6 P,boot_o_7 P,boot_o_8 P,boot_o_9 P,boot_o_10 P,o0 p P,US p P,o2 p P,o3 p P,o6 p P,o7 p P,o8 p P,o0 p P,o1 p P,o9 p P,J3 p P,o0 p P,IX p P,Ml p P,IY p P,J4 p P,J5 p P,zv p P,o7 p P,Md p P,o0 p P,Me p P,Mf p P,Mg p P,o0 p P,o1 p P,J6 p P,o0 p P,Mh p P,J7 p P,J8 p P,J9 p P,Ka p P,Mi p P,N7 p P,Mj p P,zv p P,o7 p P,N8 p P,o0 p P,N9 p P,Oa p P,Oc p P,o0 p P,o1 p P,Mm p P,o0 p P,Od p P,Mn p P,Oe p P,Of p P,Mo p P,Mp p P,Og p P,Oh p P,o0 p P,o1 p P,Mq p P,o0 p P,Oi p P,Mr p P,Ms p P,o0 p P,o1 p P,Mt p P,o0 p P,QN p P,Mu p P,Mv p P,o0 p P,o1 p P,Mw p P,o0 p P,Oj p P,Mx p P,My p P,o0 p P,o1 p P,Ol p P,o0 p P,QO p P,Om p P,Oo p P,o0 p P,o1 p P,Oq p P,o0 p P,QP p P,Ot p P,Ou p P,o0 p P,o1 p P,Ov p P,o0 p P,QQ p P,Ow p P,Ox p P,QR p P,o0 p P,o0 p P,QS p P,QT p P,QU p P,QV p P,QW p P,QX p P,QY p P,QZ p P,Q0 p P,Q1 p P,Q2 p P,Q3 p P,Q4 p P,Q5 p P,Q6 p P,Q7 p P,Q8 p P,Q9 p P,Ra p P,Rb p P,Rc p P,Rf p P,Rg p P,Cw p P,Cy p P,Cz p P,CA p P,CB p P,CC p P,CD p P,o0 p P,CF p P,CG p P,CH p P,CI p P,o0 p P,Fd p P,CJ p P,CK p P,CL p P,Fe p P,IZ p P,o0 p P,o1 p P,I0 p P,o0 p P,Ja p P,Ff p P,Fg p P,o0 p P,o1 p P,Fi p P,o0 p P,Jb p P,Fj p P,Fl p P,o0 p P,o1 p P,Fm p P,o0 p P,Jc p P,Fo p P,Fp p P,o0 p P,o1 p P,Fq p P,o0 p P,Jd p P,Fs p P,Ft p P,Fu p P,Fv p P,Fw p P,Fx p P,o0 p P,o1 p P,Fy p P,o0 p P,Je p P,Fz p P,FA p P,o0 p P,o1 p P,Mz p P,Jf p P,Jg p P,o0 p P,o1 p P,Jh p P,o0 p P,MA p P,Ji p P,Jk p P,o0 p P,o1 p P,Jl p P,o0 p P,MB p P,Jm p P,Jn p P,o0 p P,o1 p P,Jo p P,o0 p P,Rh p P,MC p P,MD p P,o0 p P,o1 p P,Jp p P,o0 p P,ME p P,Jq p P,Jr p P,o0 p P,o1 p P,Js p P,o0 p P,MF p P,Jt p P,Ju p P,o0 p P,o1 p P,Jv p P,o0 p P,MG p P,Jw p P,Jx p P,o0 p P,o1 p P,Jy p P,o0 p P,MI p P,Jz p P,JA p P,o0 p P,o1 p P,MJ p P,JB p P,JC p P,o0 p P,o1 p P,JD p P,o0 p P,MK p P,JE p P,JF p P,o0 p P,o1 p P,JG p P,o0 p P,ML p P,JH p P,JI p P,o0 p P,o1 p P,MM p P,o0 p P,Ri p P,MN p P,MO p P,o0 p P,o1 p P,MP p P,o0 p P,Rj p P,MQ p P,MR p P,o0 p P,o1 p P,Rk p P,o0 p P,UQ p P,MS p P,MT p P,o0 p P,o1 p P,MU p P,o0 p P,Rl p P,MV p P,MW p P,o0 p P,o1 p P,MX p P,o0 p P,Rm p P,MY p P,MZ p P,o0 p P,o1 p P,M0 p P,o0 p P,Rn p P,M1 p P,M3 p P,o0 p P,o1 p P,M4 p P,o0 p P,Ro p P,M5 p P,M6 p P,o0 p P,o1 p P,Rp p P,M7 p P,M8 p P,o0 p P,o1 p P,Rq p P,M9 p P,Na p P,o0 p P,o1 p P,Rr p P,Nb p P,Nd p P,o0 p P,o1 p P,Nf p P,o0 p P,Rt p P,Ng p P,Nh p P,o0 p P,o1 p P,Ru p P,Ni p P,Nj p P,o0 p P,o1 p P,Rv p P,o0 p P,UR p P,Rx p P,Ry p P,o0 p P,o1 p P,UT p P,RA p P,RB p P,o0 p P,o1 p P,UU p P,RC p P,RD p P,o0 p P,o1 p P,RE p P,o0 p P,UW p P,RF p P,RG p P,o0 p P,o1 p P,RH p P,o0 p P,UX p P,RJ p P,RK p P,o0 p P,o1 p P,RL p P,o0 p P,UY p P,RM p P,RN p P,o0 p P,o1 p P,RO p P,o0 p P,UZ p P,RP p P,RQ p P,o0 p P,o1 p P,RS p P,o0 p P,U0 p P,RT p P,RU p P,o0 p P,o1 p P,RV p P,o0 p P,U1 p P,RW p P,RX p P,o0 p P,o1 p P,RY p P,o0 p P,U2 p P,RZ p P,R3 p P],{}⟩
noncomputable def K(P:Params):PySem.W.Frag:=(nat_lit 2,boot_o_2 P)::(nat_lit 3,Rz pw P)::(nat_lit 15,o6 pw P)::(nat_lit 22,o0 pw P)::(nat_lit 23,IX pw P)::(nat_lit 24,Ml pw P)::(nat_lit 25,IY pw P)::(nat_lit 28,zv pw P)::(nat_lit 35,o0 pw P)::(nat_lit 37,J6 pw P)::(nat_lit 38,o0 pw P)::(nat_lit 40,J7 pw P)::(nat_lit 41,J8 pw P)::(nat_lit 42,J9 pw P)::(nat_lit 43,Ka pw P)::(nat_lit 44,Mi pw P)::(nat_lit 47,zv pw P)::(nat_lit 54,o0 pw P)::(nat_lit 56,Mm pw P)::(nat_lit 57,o0 pw P)::(nat_lit 59,Mn pw P)::(nat_lit 60,Oe pw P)::(nat_lit 61,Of pw P)::(nat_lit 62,Mo pw P)::(nat_lit 63,Mp pw P)::(nat_lit 66,o0 pw P)::(nat_lit 68,Mq pw P)::(nat_lit 69,o0 pw P)::(nat_lit 71,Mr pw P)::(nat_lit 72,Ms pw P)::(nat_lit 73,o0 pw P)::(nat_lit 75,Mt pw P)::(nat_lit 76,o0 pw P)::(nat_lit 78,Mu pw P)::(nat_lit 79,Mv pw P)::(nat_lit 80,o0 pw P)::(nat_lit 82,Mw pw P)::(nat_lit 83,o0 pw P)::(nat_lit 85,Mx pw P)::(nat_lit 86,My pw P)::(nat_lit 87,o0 pw P)::(nat_lit 89,Ol pw P)::(nat_lit 90,o0 pw P)::(nat_lit 92,Om pw P)::(nat_lit 93,Oo pw P)::(nat_lit 94,o0 pw P)::(nat_lit 96,Oq pw P)::(nat_lit 97,o0 pw P)::(nat_lit 99,Ot pw P)::(nat_lit 100,Ou pw P)::(nat_lit 101,o0 pw P)::(nat_lit 103,Ov pw P)::(nat_lit 104,o0 pw P)::(nat_lit 106,Ow pw P)::(nat_lit 107,Ox pw P)::(nat_lit 108,QR pw P)::(nat_lit 109,o0 pw P)::(nat_lit 110,o0 pw P)::(nat_lit 111,QS pw P)::(nat_lit 112,QT pw P)::(nat_lit 113,QU pw P)::(nat_lit 114,QV pw P)::(nat_lit 115,QW pw P)::(nat_lit 116,QX pw P)::(nat_lit 117,QY pw P)::(nat_lit 118,QZ pw P)::(nat_lit 119,Q0 pw P)::(nat_lit 120,Q1 pw P)::(nat_lit 121,Q2 pw P)::(nat_lit 122,Q3 pw P)::(nat_lit 123,Q4 pw P)::(nat_lit 124,Q5 pw P)::(nat_lit 125,Q6 pw P)::(nat_lit 126,Q7 pw P)::(nat_lit 127,Q8 pw P)::(nat_lit 128,Q9 pw P)::(nat_lit 129,Ra pw P)::(nat_lit 130,Rb pw P)::(nat_lit 131,Rc pw P)::(nat_lit 132,Rf pw P)::(nat_lit 133,Rg pw P)::(nat_lit 134,Cw pw P)::(nat_lit 135,Cy pw P)::(nat_lit 136,Cz pw P)::(nat_lit 137,CA pw P)::(nat_lit 138,CB pw P)::(nat_lit 139,CC pw P)::(nat_lit 140,CD pw P)::(nat_lit 141,o0 pw P)::(nat_lit 142,CF pw P)::(nat_lit 143,CG pw P)::(nat_lit 144,CH pw P)::(nat_lit 145,CI pw P)::(nat_lit 146,o0 pw P)::(nat_lit 148,CJ pw P)::(nat_lit 149,CK pw P)::(nat_lit 150,CL pw P)::(nat_lit 151,Fe pw P)::(nat_lit 152,IZ pw P)::(nat_lit 153,o0 pw P)::(nat_lit 155,I0 pw P)::(nat_lit 156,o0 pw P)::(nat_lit 158,Ff pw P)::(nat_lit 159,Fg pw P)::(nat_lit 160,o0 pw P)::(nat_lit 162,Fi pw P)::(nat_lit 163,o0 pw P)::(nat_lit 165,Fj pw P)::(nat_lit 166,Fl pw P)::(nat_lit 167,o0 pw P)::(nat_lit 169,Fm pw P)::(nat_lit 170,o0 pw P)::(nat_lit 172,Fo pw P)::(nat_lit 173,Fp pw P)::(nat_lit 174,o0 pw P)::(nat_lit 176,Fq pw P)::(nat_lit 177,o0 pw P)::(nat_lit 179,Fs pw P)::(nat_lit 180,Ft pw P)::(nat_lit 181,Fu pw P)::(nat_lit 182,Fv pw P)::(nat_lit 183,Fw pw P)::(nat_lit 184,Fx pw P)::(nat_lit 185,o0 pw P)::(nat_lit 187,Fy pw P)::(nat_lit 188,o0 pw P)::(nat_lit 190,Fz pw P)::(nat_lit 191,FA pw P)::(nat_lit 192,o0 pw P)::(nat_lit 195,Jf pw P)::(nat_lit 196,Jg pw P)::(nat_lit 197,o0 pw P)::(nat_lit 199,Jh pw P)::(nat_lit 200,o0 pw P)::(nat_lit 202,Ji pw P)::(nat_lit 203,Jk pw P)::(nat_lit 204,o0 pw P)::(nat_lit 206,Jl pw P)::(nat_lit 207,o0 pw P)::(nat_lit 209,Jm pw P)::(nat_lit 210,Jn pw P)::(nat_lit 211,o0 pw P)::(nat_lit 213,Jo pw P)::(nat_lit 214,o0 pw P)::(nat_lit 216,MC pw P)::(nat_lit 217,MD pw P)::(nat_lit 218,o0 pw P)::(nat_lit 220,Jp pw P)::(nat_lit 221,o0 pw P)::(nat_lit 223,Jq pw P)::(nat_lit 224,Jr pw P)::(nat_lit 225,o0 pw P)::(nat_lit 227,Js pw P)::(nat_lit 228,o0 pw P)::(nat_lit 230,Jt pw P)::(nat_lit 231,Ju pw P)::(nat_lit 232,o0 pw P)::(nat_lit 234,Jv pw P)::(nat_lit 235,o0 pw P)::(nat_lit 237,Jw pw P)::(nat_lit 238,Jx pw P)::(nat_lit 239,o0 pw P)::(nat_lit 241,Jy pw P)::(nat_lit 242,o0 pw P)::(nat_lit 244,Jz pw P)::(nat_lit 245,JA pw P)::(nat_lit 246,o0 pw P)::(nat_lit 249,JB pw P)::(nat_lit 250,JC pw P)::(nat_lit 251,o0 pw P)::(nat_lit 253,JD pw P)::(nat_lit 254,o0 pw P)::(nat_lit 256,JE pw P)::(nat_lit 257,JF pw P)::(nat_lit 258,o0 pw P)::(nat_lit 260,JG pw P)::(nat_lit 261,o0 pw P)::(nat_lit 263,JH pw P)::(nat_lit 264,JI pw P)::(nat_lit 265,o0 pw P)::(nat_lit 267,MM pw P)::(nat_lit 268,o0 pw P)::(nat_lit 270,MN pw P)::(nat_lit 271,MO pw P)::(nat_lit 272,o0 pw P)::(nat_lit 274,MP pw P)::(nat_lit 275,o0 pw P)::(nat_lit 277,MQ pw P)::(nat_lit 278,MR pw P)::(nat_lit 279,o0 pw P)::(nat_lit 281,Rk pw P)::(nat_lit 282,o0 pw P)::(nat_lit 284,MS pw P)::(nat_lit 285,MT pw P)::(nat_lit 286,o0 pw P)::(nat_lit 288,MU pw P)::(nat_lit 289,o0 pw P)::(nat_lit 291,MV pw P)::(nat_lit 292,MW pw P)::(nat_lit 293,o0 pw P)::(nat_lit 295,MX pw P)::(nat_lit 296,o0 pw P)::(nat_lit 298,MY pw P)::(nat_lit 299,MZ pw P)::(nat_lit 300,o0 pw P)::(nat_lit 302,M0 pw P)::(nat_lit 303,o0 pw P)::(nat_lit 305,M1 pw P)::(nat_lit 306,M3 pw P)::(nat_lit 307,o0 pw P)::(nat_lit 309,M4 pw P)::(nat_lit 310,o0 pw P)::(nat_lit 312,M5 pw P)::(nat_lit 313,M6 pw P)::(nat_lit 314,o0 pw P)::(nat_lit 317,M7 pw P)::(nat_lit 318,M8 pw P)::(nat_lit 319,o0 pw P)::(nat_lit 322,M9 pw P)::(nat_lit 323,Na pw P)::(nat_lit 324,o0 pw P)::(nat_lit 327,Nb pw P)::(nat_lit 328,Nd pw P)::(nat_lit 329,o0 pw P)::(nat_lit 331,Nf pw P)::(nat_lit 332,o0 pw P)::(nat_lit 334,Ng pw P)::(nat_lit 335,Nh pw P)::(nat_lit 336,o0 pw P)::(nat_lit 339,Ni pw P)::(nat_lit 340,Nj pw P)::(nat_lit 341,o0 pw P)::(nat_lit 343,Rv pw P)::(nat_lit 344,o0 pw P)::(nat_lit 346,Rx pw P)::(nat_lit 347,Ry pw P)::(nat_lit 348,o0 pw P)::(nat_lit 351,RA pw P)::(nat_lit 352,RB pw P)::(nat_lit 353,o0 pw P)::(nat_lit 356,RC pw P)::(nat_lit 357,RD pw P)::(nat_lit 358,o0 pw P)::(nat_lit 360,RE pw P)::(nat_lit 361,o0 pw P)::(nat_lit 363,RF pw P)::(nat_lit 364,RG pw P)::(nat_lit 365,o0 pw P)::(nat_lit 367,RH pw P)::(nat_lit 368,o0 pw P)::(nat_lit 370,RJ pw P)::(nat_lit 371,RK pw P)::(nat_lit 372,o0 pw P)::(nat_lit 374,RL pw P)::(nat_lit 375,o0 pw P)::(nat_lit 377,RM pw P)::(nat_lit 378,RN pw P)::(nat_lit 379,o0 pw P)::(nat_lit 381,RO pw P)::(nat_lit 382,o0 pw P)::(nat_lit 384,RP pw P)::(nat_lit 385,RQ pw P)::(nat_lit 386,o0 pw P)::(nat_lit 388,RS pw P)::(nat_lit 389,o0 pw P)::(nat_lit 391,RT pw P)::(nat_lit 392,RU pw P)::(nat_lit 393,o0 pw P)::(nat_lit 395,RV pw P)::(nat_lit 396,o0 pw P)::(nat_lit 398,RW pw P)::(nat_lit 399,RX pw P)::(nat_lit 400,o0 pw P)::(nat_lit 402,RY pw P)::(nat_lit 403,o0 pw P)::(nat_lit 405,RZ pw P)::(nat_lit 406,R3 pw P)::[]
abbrev Oy:List Addr:=[2,3,15,22,23,24,25,28,35,37,38,40,41,42,43,44,47,54,56,57,59,60,61,62,63,66,68,69,71,72,73,75,76,78,79,80,82,83,85,86,87,89,90,92,93,94,96,97,99,100,101,103,104,106,107,108,109,110,111,112,113,114,115,116,117,118,119,120,121,122,123,124,125,126,127,128,129,130,131,132,133,134,135,136,137,138,139,140,141,142,143,144,145,146,148,149,150,151,152,153,155,156,158,159,160,162,163,165,166,167,169,170,172,173,174,176,177,179,180,181,182,183,184,185,187,188,190,191,192,195,196,197,199,200,202,203,204,206,207,209,210,211,213,214,216,217,218,220,221,223,224,225,227,228,230,231,232,234,235,237,238,239,241,242,244,245,246,249,250,251,253,254,256,257,258,260,261,263,264,265,267,268,270,271,272,274,275,277,278,279,281,282,284,285,286,288,289,291,292,293,295,296,298,299,300,302,303,305,306,307,309,310,312,313,314,317,318,319,322,323,324,327,328,329,331,332,334,335,336,339,340,341,343,344,346,347,348,351,352,353,356,357,358,360,361,363,364,365,367,368,370,371,372,374,375,377,378,379,381,382,384,385,386,388,389,391,392,393,395,396,398,399,400,402,403,405,406]
theorem sI:∀P,Oy=(K P).map (·.1):=λ_=>by kernel_rfl
abbrev hK:Hook:=kHook K Oy sI
theorem X0(w:World):(λos=>topGo treeTable pw w 11 (some (.ref 6)) 12 ⟨boot_heap w.params,Array.mk [],boot_drawn,boot_toks,os⟩ (topStub pw))=λos=>some (SH (H0 pw w.params) 187 os,(⟨denote treeTable (ck pw),ck pw,⟨0,0,0,0⟩,BF⟩:Thread)):=by
 walk_at "qk"
theorem R6(w:World):(λos=>segRun treeTable pw w 11 (some (.ref 6)) 1 1 (SH (H0 pw w.params) 187 os) (blockOf (behindTheImports pw) (rH pw) (ck pw) ⟨0,0,0,0⟩ BF))=λos=>some (.next,(ST (T0 pw w.params) 15 187 os).abs,ck pw,⟨0,0,0,0⟩):=by
 walk_at "qk"
theorem X1(w:World):(λos=>segRunT treeTable pw w 11 (some (.ref 6)) 1 196 (ST (T0 pw w.params) 15 187 os) (piecesOf (e7 pw 0 2) (rH pw) (ck pw) ⟨0,0,0,0⟩ BF))=λos=>some (.next,ST (T1 pw w.params) 28 207 os,ck pw,⟨2,0,3,8⟩):=by
 walk_at "qk"
theorem X2(w:World):(λos=>segRunT treeTable pw w 11 (some (.ref 6)) 1 250 (ST (T1 pw w.params) 28 207 os) (piecesOf (e7 pw 2 1) (rH pw) (ck pw) ⟨2,0,3,8⟩ BF))=λos=>some (.next,ST (T2 pw w.params) 47 236 os,ck pw,⟨4,0,9,24⟩):=by
 walk_at "qk"
theorem X3(w:World):(λos=>segRunT treeTable pw w 11 (some (.ref 6)) 1 383 (ST (T2 pw w.params) 47 236 os) (piecesOf (e7 pw 3 6) (rH pw) (ck pw) ⟨4,0,9,24⟩ BF))=λos=>some (.next,ST (T3 pw w.params) 94 303 os,ck pw,⟨30,0,31,46⟩):=by
 walk_at "qk"
theorem X4(w:World):(λos=>segRunT treeTable pw w 11 (some (.ref 6)) 1 71 (ST (T3 pw w.params) 94 303 os) (piecesOf (e7 pw 9 3) (rH pw) (ck pw) ⟨30,0,31,46⟩ BF))=λos=>some (.next,ST (T4 pw w.params) 108 322 os,ck pw,⟨48,0,48,8⟩):=by
 walk_at "qk"
theorem X5(w:World):(λos=>segRunT treeTable pw w 11 (some (.ref 6)) 1 404 (ST (T4 pw w.params) 108 322 os) (piecesOf (e7 pw 12 1) (rH pw) (ck pw) ⟨48,0,48,8⟩ BF))=λos=>some (.next,ST (T5 pw w.params) 152 385 os,ck pw,⟨49,0,49,6⟩):=by
 refine byRow2 "special-get-raises" (P:=λw=>(λos=>segRunT treeTable pw w 11 (some (.ref 6)) 1 404 (ST (T4 pw w.params) 108 322 os) (piecesOf (e7 pw 12 1) (rH pw) (ck pw) ⟨48,0,48,8⟩ BF))=λos=>some (.next,ST (T5 pw w.params) 152 385 os,ck pw,⟨49,0,49,6⟩)) (λw=>?_) (λw=>?_) w<;>(show _=_;walk_at "qk")
theorem X6(w:World):(λos=>segRunT treeTable pw w 11 (some (.ref 6)) 1 391 (ST (T5 pw w.params) 152 385 os) (piecesOf (e7 pw 13 12) (rH pw) (ck pw) ⟨49,0,49,6⟩ BF))=λos=>some (.next,ST (T6 pw w.params) 192 486 os,ck pw,⟨86,0,86,8⟩):=by
 refine byRow2 "special-get-raises" (P:=λw=>(λos=>segRunT treeTable pw w 11 (some (.ref 6)) 1 391 (ST (T5 pw w.params) 152 385 os) (piecesOf (e7 pw 13 12) (rH pw) (ck pw) ⟨49,0,49,6⟩ BF))=λos=>some (.next,ST (T6 pw w.params) 192 486 os,ck pw,⟨86,0,86,8⟩)) (λw=>?_) (λw=>?_) w<;>(show _=_;walk_at "qk")
theorem X7(w:World):(λos=>segRunT treeTable pw w 11 (some (.ref 6)) 1 375 (ST (T6 pw w.params) 192 486 os) (piecesOf (e7 pw 25 13) (rH pw) (ck pw) ⟨86,0,86,8⟩ BF))=λos=>some (.next,ST (T7 pw w.params) 265 608 os,ck pw,⟨171,0,176,19⟩):=by
 walk_at "qk"
theorem X8(w:World):(λos=>segRunT treeTable pw w 11 (some (.ref 6)) 1 400 (ST (T7 pw w.params) 265 608 os) (piecesOf (e7 pw 38 14) (rH pw) (ck pw) ⟨171,0,176,19⟩ BF))=λos=>some (.next,ST (T8 pw w.params) 348 722 os,ck pw,⟨252,0,265,29⟩):=by
 walk_at "qk"
theorem X9(w:World):(λos=>segRunT treeTable pw w 11 (some (.ref 6)) 1 305 (ST (T8 pw w.params) 348 722 os) (piecesOf (e7 pw 52 9) (rH pw) (ck pw) ⟨252,0,265,29⟩ BF))=λos=>some (.next,ST (T9 pw w.params) 407 832 os,ck pw,⟨346,0,366,146⟩):=by
 walk_at "qk"
theorem Yb(w:World):(λos=>topRun treeTable pw w 11 (some (.ref 6)) 2 (ST (T9 pw w.params) 407 832 os).abs ⟨doneF .next,ck pw,⟨346,0,366,146⟩,BF⟩)=λos=>some (SH (HF pw w.params) 832 os):=by
 walk_at "qk"
theorem U3:behindTheImports pw=e7 pw 0 2++(e7 pw 2 1++(e7 pw 3 6++(e7 pw 9 3++(e7 pw 12 1++(e7 pw 13 12++(e7 pw 25 13++(e7 pw 38 14++(e7 pw 52 9++([]))))))))):=by
 kernel_rfl
theorem Yc(w:World)(os:OsState):topRun treeTable pw w 11 (some (.ref 6)) (12 + (1 + (196 + (250 + (383 + (71 + (404 + (391 + (375 + (400 + (305 + 2))))))))))) ⟨boot_heap w.params,Array.mk [],boot_drawn,boot_toks,os⟩ (topStub pw)=some (SH (HF pw w.params) 832 os):=by
 have k:topRun treeTable pw w 11 (some (.ref 6)) (196 + (250 + (383 + (71 + (404 + (391 + (375 + (400 + (305 + 2))))))))) (ST (T0 pw w.params) 15 187 os).abs (restOf (e7 pw 0 2++(e7 pw 2 1++(e7 pw 3 6++(e7 pw 9 3++(e7 pw 12 1++(e7 pw 13 12++(e7 pw 25 13++(e7 pw 38 14++(e7 pw 52 9++([])))))))))) (rH pw) (ck pw) ⟨0,0,0,0⟩ BF)=some (SH (HF pw w.params) 832 os):=piece_app (segRun_of (congrFun (X1 w) os)) (piece_app (segRun_of (congrFun (X2 w) os)) (piece_app (segRun_of (congrFun (X3 w) os)) (piece_app (segRun_of (congrFun (X4 w) os)) (piece_app (segRun_of (congrFun (X5 w) os)) (piece_app (segRun_of (congrFun (X6 w) os)) (piece_app (segRun_of (congrFun (X7 w) os)) (piece_app (segRun_of (congrFun (X8 w) os)) (piece_app (segRun_of (congrFun (X9 w) os)) (congrFun (Yb w) os)))))))))
 rw[← U3]at k
 exact go_top (congrFun (X0 w) os) (piece_block (congrFun (R6 w) os) k)
theorem l0(w:World):(λos=>staticsOk (importedModules pw.main.body) (boot_heap w.params) (HF pw w.params)&&namesBound pw (HF pw w.params)&&gensDone (SH (HF pw w.params) 832 os)&&laidKept (boot_heap w.params) (HF pw w.params))=λ_=>true:=by
 walk_at "qk"
theorem l1(w:World):(λos=>PyProof.Rows.seen ((PyProof.Rows.recsOf (cg pw)).map (·.name)) (PyProof.Rows.ownsOf (cg pw)) [] {(SH (HF pw w.params) 832 os)with gens:=#[]})=λ_=>PyProof.Rows.expectedOf (cg pw):=by
 walk_at "qk"
theorem l2(w:World):(λos=>(SH (HF pw w.params) 832 os).heap.bltView)=λ_=>bltViewBooted:=by
 walk_at "qk"
theorem l3(w:World):(λos=>(SH (HF pw w.params) 832 os).heap.keysOk (looseW (cg pw) ["ALWAYS","LEFT"]) ((PyProof.Rows.recsOf (cg pw)).map (·.name)) ((PyProof.Rows.litsOf (cg pw)).map (·.1)) ((PyProof.Rows.clssOf (cg pw) (looseW (cg pw) ["ALWAYS","LEFT"])).map (·.name))&&(SH (HF pw w.params) 832 os).heap.accountedOkI (importedModules pw.main.body)&&(SH (HF pw w.params) 832 os).heap.isNs mainGlobals&&(SH (HF pw w.params) 832 os).heap.isNs builtinsNs&&PyProof.Rows.tablesOk (cg pw) (SH (HF pw w.params) 832 os).heap&&(λs=>xlAt (cg pw) [] s&&recOk (RowW.records (OpenRow.toRowW PySem.Challenge.rw_stackwarden_k52_papers_that_are_none.row)) s) (SH (HF pw w.params) 832 os)&&(if true then(SH (HF pw w.params) 832 os).gens.size == 0 else !leftWithCleanup (SH (HF pw w.params) 832 os).gens))=λ_=>true:=by
 walk_at "qk"
theorem l4(w:World):(λos=>PyProof.Rows.tabsOk (cg pw) (SH (HF pw w.params) 832 os))=λ_=>true:=by
 walk_at "qk"
theorem l5(w:World):(λos=>pinSeenD (cg pw) (PyProof.Rows.drecsOf (cg pw)) (SH (HF pw w.params) 832 os))=λ_=>pinGoodD (PyProof.Rows.drecsOf (cg pw)):=by
 walk_at "qk"
theorem l6(w:World):(λos=>PyProof.Rows.plainSeenE (cg pw) (looseW (cg pw) ["ALWAYS","LEFT"]) (SH (HF pw w.params) 832 os))=λ_=>PyProof.Rows.plainGoodE (cg pw) (looseW (cg pw) ["ALWAYS","LEFT"]):=by
 walk_at "qk"
theorem l7(w:World):(λos=>PyProof.Rows.plainSeenD (cg pw) ["ALWAYS","LEFT"] (SH (HF pw w.params) 832 os))=λ_=>PyProof.Rows.plainGoodD (cg pw) ["ALWAYS","LEFT"]:=by
 walk_at "qk"
theorem l8(w:World):(λos=>wideSeen (cg pw) (SH (HF pw w.params) 832 os))=λ_=>wideGood (cg pw):=by
 walk_at "qk"
theorem l9(w:World):(λos=>clsSeenW (cg pw) ["ALWAYS","LEFT"] (SH (HF pw w.params) 832 os))=λ_=>clsGoodW (cg pw) ["ALWAYS","LEFT"]:=by
 walk_at "qk"
theorem lY(w:World):(λos=>hK.obs (SH (HF pw w.params) 832 os))=λ_=>hK.val w:=by
 show(λos=>Oy.map (SH (HF pw w.params) 832 os).heap.get?)=λ_=>(K w.params).map λp=>some p.2
 unfold K
 walk_at "qk"
theorem hl:LeftO pw (cg pw) ["ALWAYS","LEFT"] (λs=>xlAt (cg pw) [] s&&recOk (RowW.records (OpenRow.toRowW PySem.Challenge.rw_stackwarden_k52_papers_that_are_none.row)) s) hK.obs hK.val 5658:=by
 refine LeftO.of_pieces (m₀:=11) (ann:=(some (.ref 6))) (M:=(12 + (1 + (196 + (250 + (383 + (71 + (404 + (391 + (375 + (400 + (305 + 2)))))))))))) (boot_open (by kernel_rfl) (by decide) (λs=>by kernel_rfl)) (λw=>?_) Yc (by decide) (λw=>?_)
 ·walk_at "qk"
 ·funext os
  exact looks_pair (congrFun (l0 w) os) (looks_pair (looks_pair (congrFun (l1 w) os) (looks_pair (congrFun (l2 w) os) (looks_pair (congrFun (l3 w) os) (looks_pair (congrFun (l4 w) os) (looks_pair (congrFun (l5 w) os) (looks_pair (congrFun (l6 w) os) (looks_pair (congrFun (l7 w) os) (looks_pair (congrFun (l8 w) os) (congrFun (l9 w) os))))))))) (congrFun (lY w) os))
end MH
end
open PySem PySem.W PyProof.Rows
local macro_rules | `(tactic| walk_at "dk") => `(tactic| (refine' ⟨_, _, ?w, L2.x8 ?x ?y ?z⟩; (case w => k_is); (case x => k_is); (case y => k_is); (case z => k_is)))
local macro_rules | `(tactic| walk_at "mk") => `(tactic| (refine' ⟨⟨_, L2.x8 ?x ?y ?z⟩, ?w⟩; (case x => k_is); (case y => k_is); (case z => k_is); (case w => k_is)))
set_option maxRecDepth 100000 in
set_option maxHeartbeats 0 in
theorem PySem.Challenge.cw_stackwarden_k52_papers_that_are_none_holds : PySem.Challenge.rw_stackwarden_k52_papers_that_are_none.Holds := by
  w_on; refine PySem.W.holds_law (by kernel_rfl) fun said => ?_
  refine PySem.W.holds_open (q := (MH.cg PySem.Challenge.pw_stackwarden_k52_papers_that_are_none)) (loose := ["ALWAYS", "LEFT"]) (Xt := (fun s => xlAt (MH.cg PySem.Challenge.pw_stackwarden_k52_papers_that_are_none) [] s && recOk (RowW.records (OpenRow.toRowW PySem.Challenge.rw_stackwarden_k52_papers_that_are_none.row)) s)) (XP := XL (MH.cg PySem.Challenge.pw_stackwarden_k52_papers_that_are_none) []) (Yf := Hook.obs (kHook MH.K MH.Oy MH.sI)) (Ya := Hook.val (kHook MH.K MH.Oy MH.sI)) (YP := Hook.says (kHook MH.K MH.Oy MH.sI)) (N := 5658) MH.hl (Hook.of (kHook MH.K MH.Oy MH.sI)) (Hook.keeps (kHook MH.K MH.Oy MH.sI)) (fun s e => xl_of s (Bool.and_eq_true_iff.mp e).1) XL.keeps (by rfl) (by rfl) (by rfl) (fun s e => recFacts_of (Bool.and_eq_true_iff.mp e).2) (by rfl) (by first | assumption | decide +kernel) (by decide +kernel) ⟨rfl, rfl, rfl, rfl, rfl, by decide +kernel⟩ ?hw ?hc
  case hw => w_witness2
  k_fill
  refine Mine.walk (l := PySem.Challenge.rw_stackwarden_k52_papers_that_are_none) rfl rfl (fun w h Y => PySem.W.kIn_of Y) ?F
  case F =>
    intro w mg fa h KX G hmg
    refine' Mine.all_mk KX G hmg ?d0 ?d1 ?d2 ?d3 ?d4 ?d5 ?d6 ?d7 ?d8 ?d9 ?WJ ?WK ?WL ?WM ?WN ?WO ?WQ ?WR ?WS ?WT ?WU ?WV ?WW ?WX ?WY ?WZ ?W0 ?W2 ?W3 ?W4 ?W5 ?W6 ?W7 ?W8 ?W9 ?Xa ?Xb ?Xc ?Xd ?Xe ?Xf ?Xg ?Xh ?Xi ?fj ?fk ?lP ?rb ?dP ?fB ?fC ?mO ?mP ?mQ ?mR ?mS ?mT ?mU ?mV ?ko ?mW ?mX ?mY ?qZ ?vJ ?IJ ?fK ?fL ?fM ?fN ?fO ?fP ?IK ?IL ?UC ?UD ?UE ?IM ?jm ?kq ?kr ?ku ?ky ?kz ?kA ?kB ?kC ?kD ?kE ?kF ?mZ ?m6 ?m7 ?m9 ?nc ?ng ?nj ?nk ?nq ?nv ?ny ?nz ?nA ?nC ?nE ?nF ?nI ?nJ ?nK ?nM ?nO ?nQ ?nR ?nS ?nU ?nV ?nW ?nX ?nY ?nZ ?n6 ?qc ?qe ?ib ?kG ?ef ?gJ ?j7 ?oA ?vN ?sG ?sH ?cG ?eZ ?eY ?sZ ?vI ?vR ?dh ?oW ?bF ?aO ?dE ?AD ?Ax ?cc ?sE ?Aw ?j2 ?xB
    (case d0 => walk_at "dk")
    (case d1 => walk_at "dk")
    (case d2 => walk_at "dk")
    (case d3 => walk_at "dk")
    (case d4 => walk_at "dk")
    (case d5 => walk_at "dk")
    (case d6 => walk_at "dk")
    (case d7 => walk_at "dk")
    (case d8 => walk_at "dk")
    (case d9 => walk_at "dk")
    (case WJ => walk_at "dk")
    (case WK => walk_at "dk")
    (case WL => walk_at "dk")
    (case WM => walk_at "dk")
    (case WN => walk_at "dk")
    (case WO => walk_at "dk")
    (case WQ => walk_at "dk")
    (case WR => walk_at "dk")
    (case WS => walk_at "dk")
    (case WT => walk_at "dk")
    (case WU => walk_at "dk")
    (case WV => walk_at "dk")
    (case WW => walk_at "dk")
    (case WX => walk_at "dk")
    (case WY => walk_at "dk")
    (case WZ => walk_at "dk")
    (case W0 => walk_at "dk")
    (case W2 => walk_at "dk")
    (case W3 => walk_at "dk")
    (case W4 => walk_at "dk")
    (case W5 => walk_at "dk")
    (case W6 => walk_at "dk")
    (case W7 => walk_at "dk")
    (case W8 => walk_at "dk")
    (case W9 => walk_at "dk")
    (case Xa => walk_at "dk")
    (case Xb => walk_at "dk")
    (case Xc => walk_at "dk")
    (case Xd => walk_at "dk")
    (case Xe => walk_at "dk")
    (case Xf => k_is)
    (case Xg => k_is)
    (case Xh => k_is)
    (case Xi => k_is)
    (case fj => k_is)
    (case fk => kts_isx)
    (case lP => k_is)
    (case rb => kts_isx)
    (case dP => k_is)
    (case fB => k_exc)
    (case fC => kts_isx)
    (case mO => k_is)
    (case mP => k_is)
    (case mQ => k_is)
    (case mR => k_is)
    (case mS => k_is)
    (case mT => k_is)
    (case mU => k_is)
    (case mV => k_is)
    (case ko => kernel_rfl!)
    (case mW => k_is)
    (case mX => k_is)
    (case mY => k_is)
    (case qZ => refine L2.HK ?_ ?_ ?_ ?_ ?_ ?_ <;> first | (show _ = some true; kit_is) | (show _ = some false; kit_is))
    (case vJ => refine L2.HK ?_ ?_ ?_ ?_ ?_ ?_ <;> first | (show _ = some true; kit_is) | (show _ = some false; kit_is))
    (case IJ => k_is)
    (case fK => k_is)
    (case fL => k_is)
    (case fM => k_is)
    (case fN => k_is)
    (case fO => k_is)
    (case fP => k_is)
    (case IK => kit_is)
    (case IL => kit_is)
    (case UC => first | rfl | decide | k_is)
    (case UD => first | rfl | decide | k_is)
    (case UE => first | rfl | decide | k_is)
    (case IM => kit_is)
    (case jm => k_is)
    (case kq => first | rfl | decide | k_is)
    (case kr => k_is)
    (case ku => k_is)
    (case ky => k_is)
    (case kz => k_is)
    (case kA => k_is)
    (case kB => k_is)
    (case kC => k_is)
    (case kD => k_is)
    (case kE => k_is)
    (case kF => k_is)
    (case mZ => k_is)
    (case m6 => k_is)
    (case m7 => k_is)
    (case m9 => k_is)
    (case nc => k_is)
    (case ng => k_is)
    (case nj => k_is)
    (case nk => k_is)
    (case nq => k_is)
    (case nv => k_is)
    (case ny => k_is)
    (case nz => k_is)
    (case nA => k_is)
    (case nC => k_is)
    (case nE => k_is)
    (case nF => k_is)
    (case nI => k_is)
    (case nJ => k_is)
    (case nK => k_is)
    (case nM => k_is)
    (case nO => k_is)
    (case nQ => k_is)
    (case nR => k_is)
    (case nS => k_is)
    (case nU => k_is)
    (case nV => k_is)
    (case nW => k_is)
    (case nX => k_is)
    (case nY => k_is)
    (case nZ => k_is)
    (case n6 => k_is)
    (case qc => k_is)
    (case qe => k_is)
    (case ib => k_is)
    (case kG => k_is)
    (case ef => k_is)
    (case gJ => k_is)
    (case j7 => k_is)
    (case oA => k_is)
    (case vN => k_is)
    (case sG => first | rfl | decide | k_is)
    (case sH => k_is)
    (case cG => k_is)
    (case eZ => k_is)
    (case eY => k_is)
    (case sZ => k_is)
    (case vI => k_is)
    (case vR => k_is)
    (case dh => k_is)
    (case oW => k_is)
    (case bF => k_is)
    (case aO => k_is)
    (case dE => k_is)
    (case AD => k_is)
    (case Ax => k_is)
    (case cc => k_is)
    (case sE => k_is)
    (case Aw => k_is)
    (case j2 => k_is)
    (case xB => k_is)
#print axioms PySem.Challenge.cw_stackwarden_k52_papers_that_are_none_holds
