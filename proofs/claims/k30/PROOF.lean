import PyProof.Rows.All
import Wide.All
import OpenK.AllK
import Wide.FinOn
import Lean
import PyProof.EqAt
import PyProof.EqKinds
import PyProof.TupleCall
import PyProof.ZipIter
import KE.KTryDeep
import KE.KIsAll
import KE.KIntText
import PyProof.ExcArgsOwn
import PySem.Challenge.RW_stackwarden_k30_doors_of_books
def aaa:=@PySem.Heap.get?_push_of_some
def aab:=@List.length_map
def aac:=@Bool.false_ne_true
def aaV:=@PySem.W.mg_of
def aaW:=@Or.inl
def aaX:=@List.getElem?_append_left
def aaY:=@PySem.Heap.lt_size
def aaZ:=@Nat.le_refl
def aa0:=@Nat.lt_of_lt_of_le
def aa1:=@List.getElem?_map
def aa2:=@PySem.F.plainAttrs_list
def aa3:=@List.getElem?_append_right
def aa4:=@if_neg
def aa5:=@Nat.ne_of_lt
def aa6:=@PySem.wpAny_bind
def aa7:=@if_pos
def aa8:=@PySem.Heap.get?_push_size
def aa9:=@decide_eq_false
def aba:=@List.map_append
def abb:=@Nat.lt_of_le_of_lt
def abc:=@Option.some.inj
def abd:=@List.mem_of_getElem?
def abe:=@List.size_toArray
def abf:=@List.mem_append_right
def abg:=@PySem.wpAny_pure
def abh:=@decide_eq_true
def abi:=@List.mem_singleton
def abj:=@Nat.le_trans
def abk:=@PySem.W.mg_none_of
def abl:=@List.length_take
def abm:=@List.replicate_succ
def abn:=@PySem.wpAny_mono
def abo:=@of_decide_eq_true
def abp:=@PySem.F.slot_list_pop
def abq:=@PySem.F.type_list_pop
def abr:=@PySem.F.slot_list_append
def abt:=@PySem.F.type_list_append
def abu:=@List.length_append
def abv:=@List.take_succ_eq_append_getElem
def abw:=@List.mem_append
def abx:=@List.mem_append_left
def aby:=@List.getElem?_set_ne
def abz:=@List.flatten_cons
def abA:=@List.getElem?_set_self
def abB:=@Nat.zero_le
def abC:=@Nat.lt_irrefl
def abD:=@List.mem_cons_self
def abE:=@Nat.le_of_lt
def abF:=@List.length_set
def abG:=@PySem.PassesOwn.never
def abH:=@List.mem_cons
def abI:=@List.all_eq_true
def abJ:=@Nat.succ_ne_zero
def abK:=@PySem.wpAny_Call_Name_kw
def abL:=@PySem.wpAny_passesOwn
def abM:=@PySem.wpAny_truthy_bool
def abN:=@List.mem_cons_of_mem
def abO:=@List.length_cons
def abP:=@Nat.sub_self
def abQ:=@decide_eq_decide
def abR:=@List.length_drop
def abS:=@List.mem_flatMap
def abT:=@PySem.mem_of_lookup
def abU:=@PySem.wpAny_execs_nil
def abV:=@List.append_nil
def abW:=@PySem.W.callWith_K
def abX:=@PySem.F.slot_int_rmul
def abY:=@List.getElem?_drop
def abZ:=@List.take_of_length_le
def ab0:=@PySem.wpAny_loadPart_at
def ab1:=@PyProof.Rows.callWith_type1
def ab2:=@PySem.call_meets
def ab3:=@List.map_cons
def ab4:=@PySem.wpAny_binaryOp_repeat_ref
def ab5:=@Nat.ne_of_gt
def ab6:=@List.getElem?_take_of_lt
def ab7:=@Nat.succ.inj
def ab8:=@PySem.typeIs_int
def ab9:=@Int.toNat_natCast
def aca:=@List.reverse_cons
def acb:=@List.nodup_append
def acd:=@PyProof.Rows.subscriptTail_builtinR
def ace:=@PySem.Heap.get?_update_other
def acf:=@PySem.Calls.callWith_builtin
def acg:=@Bool.not_eq_true
def ach:=@List.getElem_mem
def aci:=@Ne.symm
def acj:=@PySem.W.methodCall_KW
def ack:=@List.take_append_drop
def acm:=@PySem.codeAny_mono
def acn:=@PySem.wpAny_ite_false
def aco:=@PySem.W.plainGet_of
def acp:=@congrArg
def acq:=@List.mem_filterMap
def acr:=@PySem.Calls.Name_function_global
def acs:=@Int.fdiv_eq_ediv_of_nonneg
def acu:=@PySem.wpAny_Assign_Name
def acv:=@PySem.F.args_int_rmul_2
def acw:=@PySem.wpAny_pyIter_list
def acx:=@Bool.eq_false_iff
def acy:=@List.getElem?_set
def acz:=@List.drop_eq_getElem_cons
def acA:=@PySem.wpAny_execs_cons
def acB:=@PySem.F.args_tuple_add_2
def acC:=@PySem.F.slot_int_index
def acD:=@PySem.F.entry_int_rmul
def acE:=@List.lookup_cons
def acF:=@Nat.le_of_eq
def acG:=@PySem.wpAny_comprehension_free
def acH:=@List.map_map
def acJ:=@List.mem_map
def acK:=@PySem.F.entry_tuple_add
def acL:=@PyProof.Rows.intBits_le
def acM:=@Nat.lt_add_of_pos_right
def acN:=@List.length_eq_zero_iff
def acO:=@List.getElem?_cons_succ
def acQ:=@List.nil_append
def acR:=@PySem.F.fills_int_mul
def acS:=@Nat.le_succ
def acT:=@PySem.W.cellsFrom_some
def acU:=@PySem.F.slot_tuple_add
def acW:=@List.flatten_singleton
def acY:=@Or.inr
def acZ:=@PySem.F.slot_dict_get
def ac3:=@List.eq_nil_or_concat
def ac4:=@List.length_replicate
def ac5:=@PySem.wpAny_call
def ac6:=@List.mem_iff_getElem
def ac7:=@PySem.strKind_is
def ac8:=@List.dropLast_concat
def adb:=@beq_eq_false_iff_ne
def adh:=@Nat.eq_zero_or_pos
abbrev ay:=PySem.W.Frag
theorem TL:0<=PySem.sizeLine:=by decide
theorem Qb:1<=PySem.sizeLine:=by decide
theorem HI:2<=PySem.sizeLine:=by decide
theorem Xf:3<=PySem.sizeLine:=by decide
theorem sz4:4<=PySem.sizeLine:=by decide
theorem sz6:6<=PySem.sizeLine:=by decide
theorem cj{α:Type}{a b:α}(h:a∈[b]):a=b:=abi.mp h
theorem dD{α:Type}{l:List α}{i:Nat}{a:α}(h:l[i]?=some a):∃h:i < l.length,l[i]=a:=List.getElem?_eq_some_iff.mp h
theorem dN{α:Type}{l:List α}{i:Nat}(h:i < l.length):l[i]?=some l[i]:=List.getElem?_eq_getElem h
set_option Elab.async false
set_option compiler.extract_closed false
set_option linter.all false
set_option maxRecDepth 100000
namespace L2
open PySem PySem.Spec PyProof.Rows
abbrev Key:=Sum Int Str
def Qc:Key->Value->Bool
 | .inl k,v=>Value.isInt k v
 | .inr x,v=>Value.isStrOf x v
def Xg(w:World):Key->Int
 | .inl k=>hashInt k
 | .inr x=>hashStr w x
theorem bW:∀{k:Key} {v:Value},Qc k v=true->(∃i t,k=Sum.inl i/\v=Value.int i t)∨(∃x t,k=Sum.inr x/\v=Value.str x t)
 | .inl i,v,h=>by
  obtain⟨t,e⟩:=Value.isInt_shape (k:=i) (v:=v) h;exact .inl ⟨i,t,rfl,e⟩
 | .inr x,v,h=>by
  obtain⟨t,e⟩:=Value.isStrOf_shape (x:=x) (v:=v) h;exact .inr ⟨x,t,rfl,e⟩
theorem QO(a b:Int):decide ((Sum.inl a:Key)=Sum.inl b)=(a == b):=by
 by_cases e:a=b
 ·subst e;simp
 ·have h:¬ (Sum.inl a:Key)=Sum.inl b:=λq=>e (Sum.inl.inj q)
  rw[aa9 h];exact(adb.mpr e).symm
theorem QP(a b:Str):decide ((Sum.inr a:Key)=Sum.inr b)=decide (a=b):=by
 by_cases e:a=b
 ·subst e;simp
 ·have h:¬ (Sum.inr a:Key)=Sum.inr b:=λq=>e (Sum.inr.inj q)
  rw[aa9 h,aa9 e]
theorem QQ(a:Int)(b:Str):decide ((Sum.inl a:Key)=Sum.inr b)=false:=aa9 (λq=>nomatch q)
theorem QR(a:Str)(b:Int):decide ((Sum.inr a:Key)=Sum.inl b)=false:=aa9 (λq=>nomatch q)
def Es(prog:Program)(w:World):PySem.KeyKind prog w Key where
 is:=Qc
 hash:=Xg w
 inj:=λv a b ha hb=>by
  rcases bW ha with⟨i,t,rfl,rfl⟩ | ⟨x,t,rfl,rfl⟩
  ·rcases bW hb with⟨j,u,rfl,e⟩ | ⟨y,u,rfl,e⟩
   ·injection e with e1 _;rw[e1]
   ·exact nomatch e
  ·rcases bW hb with⟨j,u,rfl,e⟩ | ⟨y,u,rfl,e⟩
   ·exact nomatch e
   ·injection e with e1 _;rw[e1]
 byValue:=λk v h=>by
  rcases bW h with⟨i,t,rfl,rfl⟩ | ⟨x,t,rfl,rfl⟩<;>rfl
 pyHash:=λhv h=>by
  rcases bW hv with⟨i,t,rfl,rfl⟩ | ⟨x,t,rfl,rfl⟩
  ·exact wpAny_pyHash_int h
  ·exact wpAny_pyHash_str h
 eqBool:=λhu hv h=>by
  rcases bW hu with⟨i,t,rfl,rfl⟩ | ⟨x,t,rfl,rfl⟩
  ·rcases bW hv with⟨j,u,rfl,rfl⟩ | ⟨y,u,rfl,rfl⟩
   ·rw[QO]at h;exact wpAny_eqBool_int h
   ·rw[QQ]at h;exact SeqAt.EqAt.int_str i t y u _ _ _ _ h
  ·rcases bW hv with⟨j,u,rfl,rfl⟩ | ⟨y,u,rfl,rfl⟩
   ·rw[QR]at h;exact SeqAt.EqAt.str_int x t j u _ _ _ _ h
   ·rw[QP]at h;exact wpAny_eqBool_str h
 «strs»:=λk x t v h=>by
  rcases bW h with⟨i,u,rfl,e⟩ | ⟨y,u,rfl,e⟩
  ·exact nomatch e
  ·injection e with e1 _
   subst e1;cases v<;>rfl
inductive V where
 | non | bl (b:Bool) | int (i:Int) | str (x:Str) | byt (b:Array UInt8) | flt (b:UInt64) | ref (a:Addr) | ty (n:String)
 deriving DecidableEq
def RelV:V->Value->Prop
 | .non,u=>u=Value.none
 | .bl b,u=>u=Value.bool b
 | .int i,u=>∃t,u=Value.int i t
 | .str x,u=>∃t,u=Value.str x t
 | .byt b,u=>∃t,u=Value.bytes b t
 | .flt b,u=>∃t,u=Value.float b t
 | .ref a,u=>u=Value.ref a
 | .ty n,u=>u=Value.type n
abbrev Vals:List V->List Value->Prop:=Paired RelV
theorem Vals.length{xs:List V}{us:List Value}(r:Vals xs us):xs.length=us.length:=Paired.length r
theorem Vals.get:∀{xs:List V} {us:List Value} {i:Nat} {x:V},Vals xs us->xs[i]?=some x->∃u,us[i]?=some u/\RelV x u
 | _,_,_,_,.nil,e=>by simp at e
 | _,_,0,_,.cons r _,e=>by simp at e;subst e;exact⟨_,rfl,r⟩
 | _,_,i + 1,x,.cons _ t,e=>by
  obtain⟨u,h1,h2⟩:=Vals.get (i:=i) (x:=x) t (by simpa using e);exact⟨u,by simpa using h1,h2⟩
theorem Vals.set{x:V}{u:Value}(r:RelV x u):∀{xs:List V} {us:List Value} (i:Nat),Vals xs us->Vals (xs.set i x) (us.set i u)
 | _,_,_,.nil=>.nil
 | _,_,0,.cons _ t=>.cons r t
 | _,_,i + 1,.cons q t=>.cons q (Vals.set r i t)
theorem Vals.append:∀{xs ys:List V} {us ws:List Value},Vals xs us->Vals ys ws->Vals (xs++ys) (us++ws)
 | _,_,_,_,.nil,s=>s
 | _,_,_,_,.cons r t,s=>.cons r (Vals.append t s)
theorem Vals.take:∀{xs:List V} {us:List Value} (n:Nat),Vals xs us->Vals (xs.take n) (us.take n)
 | _,_,0,_=>.nil
 | _,_,_ + 1,.nil=>.nil
 | _,_,n + 1,.cons r t=>.cons r (Vals.take n t)
theorem Vals.drop:∀{xs:List V} {us:List Value} (n:Nat),Vals xs us->Vals (xs.drop n) (us.drop n)
 | _,_,0,r=>r
 | _,_,_ + 1,.nil=>.nil
 | _,_,n + 1,.cons _ t=>Vals.drop n t
def uR:Option V->Option Value->Prop
 | some v,some u=>RelV v u
 | none,none=>True
 | _,_=>False
def KV{κ:Type}:List (κ×V)->List (κ×Value)->Prop:=Paired λ(p:κ×V) (q:κ×Value)=>p.1=q.1/\RelV p.2 q.2
def kV:Key->V
 | .inl i=>.int i
 | .inr x=>.str x
inductive HO where
 | lst (xs:List V)
 | tup (xs:List V)
 | dK (kvs:List (Key×V)) | dT (kvs:List (List Key×V))
 | set (S:Int->Bool) (n:Nat)
 | ins (C dx:Addr) (fs:List (Str×V))
 | own (x:Addr)
 | xd (fs:List (Str×V))
 | met (f x:Addr)
 | rng (lo hi:Int)
 | rK (o:Obj) (u:HO)
 | tbl (ps:Array Value)
 | ext (φ:Heap->Prop)
abbrev Hp:=Addr->Option HO
def upd(H:Hp)(a:Addr)(o:HO):Hp:=λb=>if b=a then some o else H b
theorem uS{H:Hp}{a:Addr}{o:HO}:upd H a o a=some o:=by unfold upd;rw[if_pos rfl]
theorem uN{H:Hp}{a b:Addr}{o:HO}(h:b≠a):upd H a o b=H b:=by unfold upd;rw[if_neg h]
theorem HJ{H:Hp}{a b:Addr}{o u:HO}(h:H a=some o)(h':H b=some u)(d:o≠u):a≠b:=by
 intro e;subst e;rw[h]at h';exact d (abc h')
theorem nN{H:Hp}{a b:Addr}{o:HO}(h:H a=some o)(h':H b=none):a≠b:=by
 intro e;subst e;rw[h]at h';cases h'
section
variable (P:Program) (w:World)
def gi(H:Hp)(h:Heap)(a:Addr):HO->Prop
 | .lst xs=>xs.length<=sizeLine/\∃(its:List Value) (n:Nat),Vals xs its/\h.get? a=some {cls:=.type "list",data:=.seq its.toArray n}
 | .tup xs=>xs.length<=sizeLine/\∃its:List Value,Vals xs its/\IsTup h a its.toArray
 | .dK kvs=>kvs.length<=sizeLine/\(a == sysModules)=false/\∃vs,KV kvs vs/\h.DictOf (Es P w) a vs
 | .dT kvs=>kvs.length<=sizeLine/\(a == sysModules)=false/\∃xs:List (List Key×Addr×Value),
   Paired (λ(p:List Key×V) (q:List Key×Addr×Value)=>p.1=q.1/\H q.2.1=some (.tup (p.1.map kV))/\RelV p.2 q.2.2) kvs xs /\
   ∃o es ep,h.get? a=some o/\o.ExactDict/\o.data=.dict es ep/\es.toList=xs.map (entryOfKey (tupleKind (Es P w)))/\(xs.map (·.1)).Nodup
 | .set S n=>h.SetOf (intKind P w) a S n
 | .ins C dx fs=>H dx=some (.own a)/\fs.length<=1000/\dx≠a/\h.get? a=some (PySem.W.instObj C dx) /\
   ∃mA,h.Ns1 dx mA/\(∀f,uR (fs.lookup f) (mA f))/\PySem.Within mA (fs.map (·.1))
 | .own _=>∃o,h.get? a=some o
 | .xd fs=>∃mA,h.Ns1 a mA/\∀f,uR (fs.lookup f) (mA f)
 | .rng lo hi=>∃t u v,h.get? a=some {cls:=.type "range",data:=.fields #[.int lo t,.int hi u,.int 1 v]}
 | .rK o u=>h.get? a=some o/\gi H h a u
 | .tbl ps=>h.get? a=some {cls:=.none,data:=.fields ps}
 | .met f x=>h.get? a=some (PySem.W.methodObj (.ref f) (.ref x))
 | .ext φ=>φ h/\(∃o,h.get? a=some o)/\∀h1 h2:Heap,φ h1->(∀o,h1.get? a=some o->h2.get? a=some o)->φ h2
def sP(H:Hp)(h:Heap):Prop:=∀a o,H a=some o->gi P w H h a o
end
section
variable {P:Program} {w:World} {H H':Hp} {h h':Heap} {a:Addr} {o:HO}
theorem gi.lt(x:gi P w H h a o):a < h.objs.size:=by
 cases o with
 | lst xs=>obtain⟨_,_,_,_,e⟩:=x;exact aaY e
 | tup xs=>obtain⟨_,_,_,p⟩:=x;exact p.lt
 | dK kvs=>obtain⟨_,_,_,_,o,_,_,e,_⟩:=x;exact aaY e
 | dT kvs=>obtain⟨_,_,_,_,o,_,_,e,_⟩:=x;exact aaY e
 | set S n=>obtain⟨o,_,_,_,e,_⟩:=x;exact aaY e
 | ins C dx fs=>obtain⟨_,_,_,e,_⟩:=x;exact aaY e
 | own y=>obtain⟨_,e⟩:=x;exact aaY e
 | xd fs=>obtain⟨_,⟨_,_,_,e,_⟩,_⟩:=x;exact aaY e
 | rng lo hi=>obtain⟨_,_,_,e⟩:=x;exact aaY e
 | rK ob u=>obtain⟨e,_⟩:=x;exact aaY e
 | tbl ps=>exact aaY (show h.get? a=some _ from x)
 | met f y=>exact aaY (show h.get? a=some _ from x)
 | ext φ=>obtain⟨_,⟨_,e⟩,_⟩:=x;exact aaY e
theorem Paired.Ue{α β:Type}{F G:α->β->Prop}:∀{l₁:List α} {l₂:List β},Paired F l₁ l₂->(∀a b,F a b->G a b)->Paired G l₁ l₂
 | _,_,.nil,_=>.nil
 | _,_,.cons r t,f=>.cons (f _ _ r) (Paired.Ue t f)
theorem gi.wX(x:gi P w H h a o)(k:∀b u,(b=a∨H b=some (.own a))->h.get? b=some u->h'.get? b=some u)
  (ho:∀b,H b=some (.own a)->H' b=some (.own a)) (ht:∀b xs,H b=some (.tup xs)->H' b=some (.tup xs)):gi P w H' h' a o:=by
 induction o with
 | lst xs=>obtain⟨z,its,n,r,e⟩:=x;exact⟨z,its,n,r,k _ _ (.inl rfl) e⟩
 | tup xs=>obtain⟨z,its,r,ob,e,c⟩:=x;exact⟨z,its,r,ob,k _ _ (.inl rfl) e,c⟩
 | dK kvs=>obtain⟨z,y,vs,r,ob,es,ep,e,c⟩:=x;exact⟨z,y,vs,r,ob,es,ep,k _ _ (.inl rfl) e,c⟩
 | dT kvs =>
  obtain⟨z,y,xs,r,ob,es,ep,e,c⟩:=x;exact⟨z,y,xs,Paired.Ue r λp q z=>⟨z.1,ht _ _ z.2.1,z.2.2⟩,ob,es,ep,k _ _ (.inl rfl) e,c⟩
 | set S n=>obtain⟨ob,es,ep,t,e,c⟩:=x;exact⟨ob,es,ep,t,k _ _ (.inl rfl) e,c⟩
 | ins C dx fs =>
  obtain⟨d,z,ne,e,mA,⟨od,es,ep,e2,c⟩,r⟩:=x;exact⟨ho _ d,z,ne,k _ _ (.inl rfl) e,mA,⟨od,es,ep,k _ _ (.inr d) e2,c⟩,r⟩
 | own y=>obtain⟨ob,e⟩:=x;exact⟨ob,k _ _ (.inl rfl) e⟩
 | xd fs=>obtain⟨mA,⟨od,es,ep,e,c⟩,r⟩:=x;exact⟨mA,⟨od,es,ep,k _ _ (.inl rfl) e,c⟩,r⟩
 | rng lo hi=>obtain⟨t,u,v,e⟩:=x;exact⟨t,u,v,k _ _ (.inl rfl) e⟩
 | rK ob u ih=>obtain⟨e,q⟩:=x;exact⟨k _ _ (.inl rfl) e,ih q⟩
 | tbl ps =>
  have e:h.get? a=some {cls:=.none,data:=.fields ps}:=x;show h'.get? a=some {cls:=.none,data:=.fields ps};exact k a _ (.inl rfl) e
 | met f y =>
  have e:h.get? a=some (PySem.W.methodObj (.ref f) (.ref y)):=x;show h'.get? a=some (PySem.W.methodObj (.ref f) (.ref y));exact k a _ (.inl rfl) e
 | ext φ=>obtain⟨p,⟨o,e⟩,st⟩:=x;exact⟨st _ _ p λo q=>k _ _ (.inl rfl) q,⟨o,k _ _ (.inl rfl) e⟩,st⟩
theorem sP.lt(x:sP P w H h)(e:H a=some o):a < h.objs.size:=(x a o e).lt
theorem sP.fresh(x:sP P w H h)(e:h.objs.size<=a):H a=none:=by
 cases q:H a with
 | none=>rfl
 | some u=>exact absurd (aa0 (x.lt q) e) (abC _)
theorem sP.kept(x:sP P w H h)(k:∀b u,h.get? b=some u->h'.get? b=some u):sP P w H h':=λa o e =>
 (x a o e).wX (λb u _ q=>k b u q) (λ_ q=>q) λ_ _ q=>q
theorem sP.laid(x:sP P w H h)(k:∀b u,h.get? b=some u->h'.get? b=some u)(hp:h.objs.size<=a)(new:gi P w (upd H a o) h' a o):sP P w (upd H a o) h':=λb u e=>by
 have hn:=x.fresh hp;by_cases hb:b=a
 ·subst hb;rw[uS]at e;cases e;exact new
 ·rw[uN hb]at e;exact(x b u e).wX (λc v _ q=>k c v q) (λc q=>by rw[uN (nN q hn)];exact q) λc xs q=>by rw[uN (nN q hn)];exact q
end
def Rd(H:Hp)(a:Addr)(u:HO):Prop:=H a=some u∨∃o,H a=some (.rK o u)
theorem Rd.ok{P:Program}{w:World}{H:Hp}{h:Heap}{a:Addr}{u:HO}(r:Rd H a u)(x:sP P w H h):gi P w H h a u:=by
 rcases r with r | ⟨o,r⟩
 ·exact x a u r
 ·obtain⟨_,q⟩:=x a _ r;exact q
def WA:Option HO->Prop
 | some (.lst _)=>True
 | some (.dK _)=>True
 | some (.dT _)=>True
 | some (.set _ _)=>True
 | some (.ins _ _ _)=>True
 | some (.ext _)=>True
 | _=>False
section
variable {P:Program} {w:World} {H:Hp} {h h':Heap} {x e:Addr} {o':HO}
theorem sP.write(ok:sP P w H h)(mu:WA (H x))(he:e=x∨H e=some (.own x))(k:∀b u,b≠e->h.get? b=some u->h'.get? b=some u)(heo:∃u,h'.get? e=some u)
  (new:gi P w (upd H x o') h' x o'):sP P w (upd H x o') h':=λb u q=>by
 have nown:∀c y,H c=some (.own y)->c≠x:=λc y r z=>by subst z;rw[r]at mu;exact mu
 have ntup:∀c xs,H c=some (.tup xs)->c≠x:=λc xs r z=>by subst z;rw[r]at mu;exact mu
 by_cases hb:b=x
 ·subst hb;rw[uS]at q;cases q;exact new
 ·rw[uN hb]at q;by_cases hbe:b=e
  ·have q':H b=some (.own x):=by
    rcases he with z | z
    ·exact absurd (hbe.trans z) hb
    ·rw[hbe];exact z
   rw[q]at q';cases q';obtain⟨v,hv⟩:=heo;exact⟨v,by rw[hbe];exact hv⟩
  ·refine(ok b u q).wX (λc v hc r=>k c v ?_ r) (λc r=>by rw[uN (nown c b r)];exact r) λc xs r=>by rw[uN (ntup c xs r)];exact r
   rcases hc with rfl | hc
   ·exact hbe
   ·rintro rfl;rcases he with z | z
    ·exact nown c b hc z
    ·rw[hc]at z;cases z;exact hb rfl
end
structure Un(fs ex:List Addr)(H H':Hp)(h h':Heap):Prop where
 keep:∀b o,h.get? b=some o->H b=none->b∉fs->b∉ex->h'.get? b=some o
 slot:∀b o,h.get? b=some o->H b=none->b∈fs->b∉ex->∃sl,h'.get? b=some {o with slots:=sl}
 free:∀b o,h.get? b=some o->H b=none->b∉ex->H' b=none
 there:∀b o,h.get? b=some o->b∉ex->∃o',h'.get? b=some o'
 tups:∀b xs,H b=some (.tup xs)->H' b=some (.tup xs)
 eT:∀b o u,H b=some (.rK o u)->H' b=some (.rK o u)
 tbls:∀b ps,H b=some (.tbl ps)->∃more,H' b=some (.tbl (ps++more))
section
variable {fs fs' ex ex':List Addr} {H H1 H2:Hp} {h h1 h2 h':Heap} {a x e:Addr} {o:HO}
theorem Un.any(u:Un fs ex H H1 h h1){b:Addr}{ob:Obj}(q:h.get? b=some ob)(n:H b=none)(hx:b∉ex):∃sl,h1.get? b=some {ob with slots:=sl}:=by
 by_cases hb:b∈fs
 ·exact u.slot b ob q n hb hx
 ·exact⟨ob.slots,u.keep b ob q n hb hx⟩
theorem Un.kept(k:∀b u,h.get? b=some u->h'.get? b=some u):Un fs ex H H h h' :=
 ⟨λb ob q _ _ _=>k b ob q,λb ob q _ _ _=>⟨ob.slots,k b ob q⟩,λ_ _ _ n _=>n,λb ob q _=>⟨ob,k b ob q⟩,λ_ _ q=>q,λ_ _ _ q=>q,λ_ ps q=>⟨#[],by rw[q];simp⟩⟩
theorem Un.refl:Un fs ex H H h h:=Un.kept λ_ _ q=>q
theorem Un.laid(k:∀b u,h.get? b=some u->h'.get? b=some u)(hp:h.objs.size<=a)(hn:H a=none):Un fs ex H (upd H a o) h h' where
 keep:=λb u q _ _ _=>k b u q
 slot:=λb u q _ _ _=>⟨u.slots,k b u q⟩
 free:=λb u q n _=>by rw[uN (aa5 (aa0 (aaY q) hp))];exact n
 there:=λb u q _=>⟨u,k b u q⟩
 tups:=λb xs q=>by rw[uN (nN q hn)];exact q
 eT:=λb u xs q=>by rw[uN (nN q hn)];exact q
 tbls:=λb ps q=>⟨#[],by rw[uN (nN q hn),q];simp⟩
theorem Un.write(mu:WA (H x))(he:e=x∨H e=some (.own x))(k:∀b u,b≠e->h.get? b=some u->h'.get? b=some u)(heo:∃u,h'.get? e=some u):Un fs ex H (upd H x o) h h':=by
 have hx:∀b,H b=none->b≠x:=λb n z=>by subst z;rw[n]at mu;exact mu
 have hb:∀b,H b=none->b≠e:=λb n z=>by
  subst z;rcases he with r | r
  ·exact hx b n r
  ·rw[n]at r;cases r
 have hm:∀b u,H b=some u->¬ WA (some u)->b≠x:=λb u q nm z=>by subst z;rw[q]at mu;exact nm mu
 refine⟨λb u q n _ _=>k b u (hb b n) q,λb u q n _ _=>⟨u.slots,k b u (hb b n) q⟩,λb u q n _=>by rw[uN (hx b n)];exact n,λb u q _=>?_,
  λb xs q=>by rw[uN (hm b _ q λz=>z)];exact q,λb u xs q=>by rw[uN (hm b _ q λz=>z)];exact q,λb ps q=>⟨#[],by rw[uN (hm b _ q λz=>z),q];simp⟩⟩
 by_cases hbe:b=e
 ·subst hbe;exact heo
 ·exact⟨u,k b u hbe q⟩
end
def WB(h:Heap)(H:Hp):List Addr:=(List.range h.objs.size).filter λa=>(H a).isSome
def yw(h:Heap)(H:Hp):Heap:=PySem.W.hideAll h (WB h H)
theorem Fz(h:Heap)(H:Hp):(yw h H).objs.size=h.objs.size:=PySem.W.hideAll_size _ _
theorem HK{h:Heap}{H:Hp}{b:Addr}{o:Obj}(e:h.get? b=some o)(n:H b=none):(yw h H).get? b=some o :=
 PySem.W.hideAll_get _ e λhm=>by
  have q:(H b).isSome=true:=(List.mem_filter.mp hm).2;rw[n]at q;simp at q
theorem MY{h:Heap}{H:Hp}{b:Addr}{o:Obj}(e:(yw h H).get? b=some o):h.get? b=some o/\H b=none:=by
 have e':h.get? b=some o:=PySem.W.of_hideAll (WB h H) e;refine⟨e',?_⟩
 cases q:H b with
 | none=>rfl
 | some x =>
  have hm:b∈WB h H:=List.mem_filter.mpr ⟨List.mem_range.mpr (Heap.lt_size e'),by simp[q]⟩;have z:(yw h H).get? b=none:=PySem.W.hideAll_none (WB h H) hm;rw[z]at e;cases e
def MZ(g h:Heap)(L:Addr):List (Addr×Obj):=(List.range h.objs.size).filterMap λa=>if a=L∨(g.get? a).isSome=true then none else(h.get? a).map λo=>(a,o)
def rest(g h:Heap)(L d:Addr):List (Addr×Obj):=(MZ g h L).filter λp=>decide (p.1≠d)
structure Mod(K:ay)(mg:Str->Option Value)(base:Heap):Prop where
 kin:K.In base
 glob:base.Ns mainGlobals mg
 blt:∃mb,base.Ns builtinsNs mb/\∀x:Str,x≠"__name__"->mb x=bootBuiltins x
 nolimit:base.NoLimit
structure Cx where
 prog:Program
 w:World
 K:ay
 mg:Str->Option Value
 base:Heap
 A:Around
 N:List Str
 s₀:Shared
 H₀:Hp
 env:Env
 outer:List Env
 stack:List Env
 ex:List Addr
 fn:Str->Bool
 calm:Bool
 pn:List (Addr×Obj)
 xe:Value->Shared->Prop
def aT(l:List Env):List Addr:=l.filterMap (·.frame)
abbrev Cx.fs(X:Cx):List Addr:=aT X.outer
def WC(sc:Scope)(x:Str):Prop:=sc.names.lookup x=some .local∨sc.names.lookup x=some .cell∨sc.names.lookup x=some .free
def Loc(sc:Scope)(x:Str):Prop:=sc.names.lookup x=some .local∨sc.names.lookup x=some .cell
def Look(env:Env)(h:Heap)(m:Str->Option Value)(x:Str)(u:Value):Prop :=
 (env.kindOf x=some .local/\m x=some u)∨((env.kindOf x=some .cell∨env.kindOf x=some .free)/\∃c,env.cells.lookup x=some c/\h.IsCell c (some u))
structure Cx.Ok(X:Cx):Prop where
 mod:Mod X.K X.mg X.base
 kind:X.env.scope.kind=.function
 glob:X.env.globals=mainGlobals
 blt:X.env.builtins=builtinsNs
 above:X.s₀.heap.objs.size<=X.env.locals
 inj:∀x y c,X.env.cells.lookup x=some c->X.env.cells.lookup y=some c->x=y
 has:∀x,(X.env.kindOf x=some .cell∨X.env.kindOf x=some .free)->∃c,X.env.cells.lookup x=some c
 cab:∀x c,X.fn x=true->X.env.cells.lookup x=some c->X.s₀.heap.objs.size<=c
 hd:X.calm=true->X.A.handled=none
 frames:X.A.frames=some X.stack
 stk:X.stack=X.outer∨(X.stack=X.env::X.outer/\X.env.frame=some X.env.locals)
 exf:∀b∈X.ex,b≠X.env.locals/\∀x c,X.env.cells.lookup x=some c->c≠b
 bs:∀b o,X.base.get? b=some o->X.s₀.heap.get? b=some o/\X.H₀ b=none
 bsz:X.base.objs.size<=X.s₀.heap.objs.size
 noex:∀b o,X.base.get? b=some o->b∉X.ex
 exfs:∀b∈X.ex,b∉X.fs
 rL:X.s₀.heap.FunFrames X.base X.outer
 frf:∀b∈X.fs,X.H₀ b=none
structure Inv(X:Cx)(pins:List (Addr×Obj))(σ:List (Option V))(H:Hp)(s:Shared):Prop where
 ok:X.Ok
 os:s.os=X.s₀.os
 bare:AllBare s.gens
 base:Un X.fs X.ex X.H₀ H X.s₀.heap s.heap
 loc:∃m,s.heap.Ns X.env.locals m/\∀(i:Nat) (x:Str) (v:V),X.N[i]?=some x->σ[i]?=some (some v)->WC X.env.scope x->∃u,RelV v u/\Look X.env s.heap m x u
 cell:∀x c,X.env.cells.lookup x=some c->∃v,s.heap.IsCell c v
 free:H X.env.locals=none
 freeC:∀x c,X.env.cells.lookup x=some c->H c=none
 pin:∀p∈X.pn++pins,s.heap.get? p.1=some p.2/\H p.1=none/\p.1≠X.env.locals/\p.1∉X.fs/\∀v,p.2.data≠.cell v
 hok:sP X.prog X.w H s.heap
 len:σ.length=X.N.length
section
variable {X:Cx} {pins:List (Addr×Obj)} {σ:List (Option V)} {H H':Hp} {s:Shared} {h':Heap}
theorem Cx.Ok.Xh(ok:X.Ok){b:Addr}{o:Obj}(e:X.base.get? b=some o):b∉X.fs:=λhb=>by
 have:=(ok.rL.mem hb).1;rw[e]at this;cases this
theorem Inv.bs(I:Inv X pins σ H s):∀b o,X.base.get? b=some o->s.heap.get? b=some o/\H b=none:=λb o e =>
 ⟨I.base.keep b o (I.ok.bs b o e).1 (I.ok.bs b o e).2 (I.ok.Xh e) (I.ok.noex b o e),I.base.free b o (I.ok.bs b o e).1 (I.ok.bs b o e).2 (I.ok.noex b o e)⟩
theorem Inv.bk(I:Inv X pins σ H s):∀b o,X.base.get? b=some o->s.heap.get? b=some o:=λb o e=>(I.bs b o e).1
theorem Inv.mod(I:Inv X pins σ H s):Mod X.K X.mg X.base:=I.ok.mod
theorem Inv.uk(I:Inv X pins σ H s):X.K.In s.heap:=I.ok.mod.kin.keeps I.bk
theorem Inv.lt(I:Inv X pins σ H s):X.env.locals < s.heap.objs.size:=let ⟨_,hn,_⟩:=I.loc;hn.lt
theorem Inv.sz(I:Inv X pins σ H s):X.s₀.heap.objs.size<=s.heap.objs.size:=abj I.ok.above (abE I.lt)
theorem Inv.Xi(I:Inv X pins σ H s){a:Addr}(h:s.heap.objs.size<=a):a∉X.fs:=λhb=>by
 obtain⟨_,o,ho,_⟩:=I.ok.rL.mem hb;exact absurd (aa0 (aaY ho) (abj I.sz h)) (abC _)
theorem Inv.M0(I:Inv X pins σ H s):∀x c,X.env.cells.lookup x=some c->c≠X.env.locals:=λx c e z=>by
 obtain⟨v,o,ho,hd⟩:=I.cell x c e;obtain⟨m,⟨o',es,ep,ho',hd',_⟩,_⟩:=I.loc;rw[z,ho']at ho;cases ho;rw[hd']at hd;cases hd
theorem Inv.rL(I:Inv X pins σ H s):s.heap.FunFrames X.base X.outer:=by
 have all:∀(l:List Env),(∀b∈aT l,b∈X.fs)->X.s₀.heap.FunFrames X.base l->s.heap.FunFrames X.base l:=by
  intro l
  induction l with
  | nil=>intro _ _;trivial
  | cons env r ih =>
   intro hs hl;obtain⟨hk,⟨L,o,hf,hn,ho,hd⟩,hr⟩:=hl;have hL:L∈X.fs:=hs L (by unfold aT;rw[List.filterMap_cons,hf];exact List.mem_cons_self);obtain⟨sl,e⟩:=I.base.slot L o ho (I.ok.frf L hL) hL λz=>I.ok.exfs L z hL
   exact⟨hk,⟨L,_,hf,hn,e,hd⟩,ih (λb hb=>hs b (by unfold aT;rw[List.filterMap_cons,hf];exact List.mem_cons_of_mem _ hb)) hr⟩
 exact all X.outer (λ_ hb=>hb) I.ok.rL
theorem Inv.stack(I:Inv X pins σ H s):s.heap.FunFrames X.base X.stack:=by
 rcases I.ok.stk with e | ⟨e,hf⟩
 ·rw[e];exact I.rL
 ·rw[e];obtain⟨m,hn,_⟩:=I.loc;refine .cons (by rw[I.ok.kind];decide) hf hn ?_ I.rL;exact Heap.get?_none_of_le (abj I.ok.bsz I.ok.above)
theorem Inv.CA(I:Inv X pins σ H s):∀b∈aT X.stack,b∈X.env.locals::X.fs:=λb hb=>by
 rcases I.ok.stk with e | ⟨e,hf⟩
 ·rw[e]at hb;exact abN _ hb
 ·rw[e]at hb;unfold aT at hb;rw[List.filterMap_cons,hf]at hb;exact hb
theorem Inv.yx(I:Inv X pins σ H s):∀b∈aT X.stack,H b=none:=λb hb=>by
 rcases abH.mp (I.CA b hb)with e | hb
 ·rw[e];exact I.free
 ·obtain⟨_,o,ho,_⟩:=I.ok.rL.mem hb;exact I.base.free b o ho (I.ok.frf b hb) λz=>I.ok.exfs b z hb
theorem Inv.step{g':Array GenState}{t':Nat}{d':Drawn}{ch:List Addr}(I:Inv X pins σ H s)
  (hch:∀b∈ch,(b∈X.ex∨X.s₀.heap.objs.size<=b)/\b≠X.env.locals/\(∀x c,X.env.cells.lookup x=some c->c≠b)/\∀p∈X.pn++pins,p.1≠b)
  (keep:∀b o,b≠X.env.locals->b∉X.fs->b∉ch->s.heap.get? b=some o->H b=none->h'.get? b=some o)
  (slot:∀b o,b≠X.env.locals->b∈X.fs->b∉ch->s.heap.get? b=some o->H b=none->∃sl,h'.get? b=some {o with slots:=sl}) (free:∀b o,b∉ch->s.heap.get? b=some o->H b=none->H' b=none)
  (there:∀b o,b∉ch->s.heap.get? b=some o->∃o',h'.get? b=some o')
  (tups:∀b xs,H b=some (.tup xs)->H' b=some (.tup xs)) (eT:∀b o u,H b=some (.rK o u)->H' b=some (.rK o u)) (tbls:∀b ps,H b=some (.tbl ps)->∃more,H' b=some (.tbl (ps++more)))
  (ns:∀m,s.heap.Ns X.env.locals m->h'.Ns X.env.locals m) (hok:sP X.prog X.w H' h') (hg:AllBare g') :
  Inv X pins σ H' {s with heap:=h',gens:=g',drawn:=d',toks:=t'}:=by
 have neL:∀b o,X.s₀.heap.get? b=some o->b≠X.env.locals:=λb o e=>aa5 (aa0 (aaY e) I.ok.above)
 have neC:∀b o,X.s₀.heap.get? b=some o->b∉X.ex->b∉ch:=λb o e hx hb=>by
  rcases (hch b hb).1 with z | z
  ·exact hx z
  ·exact absurd (aa0 (aaY e) z) (abC _)
 have cellK:∀x c,X.env.cells.lookup x=some c->∀v,s.heap.IsCell c v->h'.IsCell c v:=λx c e v ⟨o,ho,hd⟩=>by
  have nch:c∉ch:=λz=>(hch c z).2.2.1 x c e rfl
  by_cases hc:c∈X.fs
  ·obtain⟨sl,q⟩:=slot c o (I.M0 x c e) hc nch ho (I.freeC x c e);exact⟨_,q,hd⟩
  ·exact⟨o,keep c o (I.M0 x c e) hc nch ho (I.freeC x c e),hd⟩
 refine⟨I.ok,I.os,hg,⟨λb o e n hb hx=>?_,λb o e n hb hx=>?_,λb o e n hx=>?_,λb o e hx=>?_,λb xs e=>tups b xs (I.base.tups b xs e),λb o xs e=>eT b o xs (I.base.eT b o xs e),λb ps e=>?_⟩,?_,λx c e=>?_,?_,λx c e=>?_,λp hp=>?_,hok,I.len⟩
 ·exact keep b o (neL b o e) hb (neC b o e hx) (I.base.keep b o e n hb hx) (I.base.free b o e n hx)
 ·obtain⟨sl,e1⟩:=I.base.slot b o e n hb hx;obtain⟨sl',e2⟩:=slot b _ (neL b o e) hb (neC b o e hx) e1 (I.base.free b o e n hx);exact⟨sl',e2⟩
 ·obtain⟨o',e1⟩:=I.base.there b o e hx;exact free b o' (neC b o e hx) e1 (I.base.free b o e n hx)
 ·obtain⟨o',e1⟩:=I.base.there b o e hx;exact there b o' (neC b o e hx) e1
 ·obtain⟨m1,e1⟩:=I.base.tbls b ps e;obtain⟨m2,e2⟩:=tbls b _ e1;exact⟨m1++m2,by rw[e2,Array.append_assoc]⟩
 ·obtain⟨m,hn,hl⟩:=I.loc;refine⟨m,ns m hn,λi x v e1 e2 e3=>?_⟩;obtain⟨u,r,l⟩:=hl i x v e1 e2 e3;refine⟨u,r,?_⟩;rcases l with l | ⟨k,c,e,z⟩
  ·exact .inl l
  ·exact .inr ⟨k,c,e,cellK x c e _ z⟩
 ·obtain⟨v,z⟩:=I.cell x c e;exact⟨v,cellK x c e v z⟩
 ·obtain⟨m,⟨o,_,_,ho,_⟩,_⟩:=I.loc;exact free _ o (λz=>(hch _ z).2.1 rfl) ho I.free
 ·obtain⟨v,o,ho,hd⟩:=I.cell x c e;exact free c o (λz=>(hch c z).2.2.1 x c e rfl) ho (I.freeC x c e)
 ·obtain⟨e,n,ne,nf,d⟩:=I.pin p hp;have nch:p.1∉ch:=λz=>(hch p.1 z).2.2.2 p hp rfl
  exact⟨keep p.1 p.2 ne nf nch e n,free p.1 p.2 nch e n,ne,nf,d⟩
theorem Inv.un{t':Nat}(I:Inv X pins σ H s)(u:Un X.fs [] H H' s.heap h')(hok:sP X.prog X.w H' h'):Inv X pins σ H' {s with heap:=h',toks:=t'}:=by
 obtain⟨m,⟨o,es,ep,ho,r⟩,_⟩:=id I.loc;obtain⟨sl,hL⟩:=u.any ho I.free (by simp)
 exact I.step (g':=s.gens) (d':=s.drawn) (ch:=[]) (λ_ z=>nomatch z) (λb o _ hb _ e n=>u.keep b o e n hb (by simp)) (λb o _ hb _ e n=>u.slot b o e n hb (by simp)) (λb o _ e n=>u.free b o e n (by simp)) (λb o _ e=>u.there b o e (by simp)) u.tups u.eT u.tbls (λm' hm=>by
  obtain⟨o',es',ep',ho',r'⟩:=hm;rw[ho]at ho';cases ho';exact⟨_,es',ep',hL,r'⟩) hok I.bare
theorem Inv.call{g':Array GenState}{t':Nat}{d':Drawn}{ch:List Addr}(I:Inv X pins σ H s)(u:Un (aT X.stack) ch H H' s.heap h')(hok:sP X.prog X.w H' h')(hg:AllBare g')
  (hch:∀b∈ch,(b∈X.ex∨X.s₀.heap.objs.size<=b)/\b≠X.env.locals/\(∀x c,X.env.cells.lookup x=some c->c≠b)/\∀p∈X.pn++pins,p.1≠b) :
  Inv X pins σ H' {s with heap:=h',gens:=g',drawn:=d',toks:=t'}:=by
 obtain⟨m,⟨o,es,ep,ho,r⟩,_⟩:=id I.loc;obtain⟨sl,hL⟩:=u.any ho I.free λz=>(hch _ z).2.1 rfl
 exact I.step (ch:=ch) hch (λb o hL hb hc e n=>u.keep b o e n (λz=>(abH.mp (I.CA b z)).elim hL hb) hc) (λb o _ _ hc e n=>u.any e n hc) (λb o hc e n=>u.free b o e n hc) (λb o hc e=>u.there b o e hc) u.tups u.eT u.tbls (λm' hm=>by
  obtain⟨o',es',ep',ho',r'⟩:=hm;rw[ho]at ho';cases ho';exact⟨_,es',ep',hL,r'⟩) hok hg
theorem Inv.turned{t':Nat}{it:Addr}(I:Inv X pins σ H s)(k:∀b o,b≠it->s.heap.get? b=some o->h'.get? b=some o)(hn:H it=none)(hL:it≠X.env.locals)
  (h1:it∈X.ex∨X.s₀.heap.objs.size<=it) (h2:∀x c,X.env.cells.lookup x=some c->c≠it) (h3:∀p∈X.pn++pins,p.1≠it):Inv X pins σ H {s with heap:=h',toks:=t'}:=by
 have nit:∀b u,H b=some u->b≠it:=λb u e z=>by rw[z,hn]at e;cases e
 refine I.step (g':=s.gens) (d':=s.drawn) (ch:=[it]) (λb hb=>?_) (λb o _ _ hc e _=>k b o (λz=>hc (by simp[z])) e) (λb o _ _ hc e _=>⟨o.slots,k b o (λz=>hc (by simp[z])) e⟩) (λ_ _ _ _ n=>n)
  (λb o hc e=>⟨o,k b o (λz=>hc (by simp[z])) e⟩) (λ_ _ e=>e) (λ_ _ _ e=>e) (λb ps e=>⟨#[],by rw[e];simp⟩) (λm hm=>?_) (λb u e=>?_) I.bare
 ·have e:b=it:=by simpa using hb
  subst e;exact⟨h1,hL,h2,h3⟩
 ·obtain⟨o,es,ep,ho,r⟩:=hm;exact⟨o,es,ep,k _ o (aci hL) ho,r⟩
 ·refine(I.hok b u e).wX (λc v hc q=>k c v ?_ q) (λ_ q=>q) λ_ _ q=>q
  rcases hc with z | z
  ·rw[z];exact nit b u e
  ·exact nit c _ z
theorem Inv.tok(I:Inv X pins σ H s)(t:Nat):Inv X pins σ H {s with toks:=t}:=I.un (h':=s.heap) (t':=t) Un.refl I.hok
theorem Inv.kept{t':Nat}(I:Inv X pins σ H s)(k:∀b u,s.heap.get? b=some u->h'.get? b=some u):Inv X pins σ H {s with heap:=h',toks:=t'}:=I.un (Un.kept k) (I.hok.kept k)
theorem Inv.laid{a:Addr}{o:HO}{t':Nat}(I:Inv X pins σ H s)(k:∀b u,s.heap.get? b=some u->h'.get? b=some u)(hp:s.heap.objs.size<=a)(new:gi X.prog X.w (upd H a o) h' a o):
  Inv X pins σ (upd H a o) {s with heap:=h',toks:=t'}:=I.un (Un.laid k hp (I.hok.fresh hp)) (I.hok.laid k hp new)
theorem Inv.write{x e:Addr}{o:HO}{t':Nat}(I:Inv X pins σ H s)(mu:WA (H x))(he:e=x∨H e=some (.own x))(k:∀b u,b≠e->s.heap.get? b=some u->h'.get? b=some u)(heo:∃u,h'.get? e=some u)
  (new:gi X.prog X.w (upd H x o) h' x o):Inv X pins σ (upd H x o) {s with heap:=h',toks:=t'}:=I.un (Un.write mu he k heo) (I.hok.write mu he k heo new)
theorem Inv.weak{σ':List (Option V)}(I:Inv X pins σ H s)(hl:σ'.length=σ.length)(w:∀(i:Nat) v,σ'[i]?=some (some v)->σ[i]?=some (some v)):Inv X pins σ' H s :=
 ⟨I.ok,I.os,I.bare,I.base,let ⟨m,hn,hl'⟩:=I.loc;⟨m,hn,λi x v e1 e2 e3=>hl' i x v e1 (w i v e2) e3⟩,I.cell,I.free,I.freeC,I.pin,I.hok,hl.trans I.len⟩
theorem Inv.Et{pins':List (Addr×Obj)}(I:Inv X pins σ H s)(h:∀p∈pins',s.heap.get? p.1=some p.2/\H p.1=none/\p.1≠X.env.locals/\p.1∉X.fs/\∀v,p.2.data≠.cell v):Inv X pins' σ H s :=
 ⟨I.ok,I.os,I.bare,I.base,I.loc,I.cell,I.free,I.freeC,λp hp=>(abw.mp hp).elim (λz=>I.pin p (abx _ z)) (h p),I.hok,I.len⟩
theorem uT{N:List Str}(hN:N.Nodup){i j:Nat}{x:Str}(a:N[i]?=some x)(b:N[j]?=some x):i=j:=by
 obtain⟨h1,e1⟩:=dD a;obtain⟨h2,e2⟩:=dD b;exact(List.getElem_inj hN).mp (e1.trans e2.symm)
theorem rM{M:Model}{A:Around}{E:Value->Shared->Prop}{i:Nat}{x:Str}{v:V}{u:Value}{Q:Unit->Shared->Prop}(I:Inv X pins σ H s)(hN:X.N.Nodup)(hi:X.N[i]?=some x)(hx:Loc X.env.scope x)(r:RelV v u)
  (h:∀s',Inv X pins (σ.set i (some v)) H s'->(∃a,Heap.SameBut a s.heap s'.heap/\(a=X.env.locals∨X.env.cells.lookup x=some a))->Q () s') (hf:X.fn x=true∨X.env.scope.names.lookup x=some .local:=by first | exact .inl rfl | exact .inr rfl | assumption):wpAny M A (storeName X.env x u) Q E s:=by
 obtain⟨m,hn,hl⟩:=id I.loc;have hcls:(X.env.scope.kind == .class||(X.env.scope.kind == .module&&X.env.locals != X.env.globals))=false:=by rw[I.ok.kind];rfl
 have hiσ:i < σ.length:=by rw[I.len];exact(dD hi).1
 have M0:=I.M0
 have tracked:∀{a:Addr} {h':Heap},(∃o,s.heap.get? a=some o/\H a=none)->Heap.SameBut a s.heap h'->sP X.prog X.w H h':=λ{a h'} ha hs b ob e=>by
  obtain⟨_,_,hfree⟩:=ha;refine(I.hok b ob e).wX (λc w' hc q=>(hs.2 c ?_).trans q) (λ_ q=>q) λ_ _ q=>q
  rintro rfl;rcases hc with rfl | hc
  ·rw[hfree]at e;cases e
  ·rw[hfree]at hc;cases hc
 rcases hx with hk | hk
 ·refine wpAny_storeName_local hk hn (λh' hn' hs=>?_) hcls;obtain⟨oL,_,_,hoL,_⟩:=id hn;refine h _ ⟨I.ok,I.os,I.bare,⟨λb o e n hb hx=>?_,λb o e n hb hx=>?_,I.base.free,λb o e hx=>?_,I.base.tups,I.base.eT,I.base.tbls⟩,⟨_,hn',λj y v' e1 e2 e3=>?_⟩,λy c e=>?_,I.free,I.freeC,λp hp=>?_,tracked ⟨oL,hoL,I.free⟩ hs,by simpa using I.len⟩ ⟨_,hs,.inl rfl⟩
  ·exact(hs.2 b (aa5 (aa0 (aaY e) I.ok.above))).trans (I.base.keep b o e n hb hx)
  ·obtain⟨sl,e1⟩:=I.base.slot b o e n hb hx;exact⟨sl,(hs.2 b (aa5 (aa0 (aaY e) I.ok.above))).trans e1⟩
  ·obtain⟨o',e1⟩:=I.base.there b o e hx;exact⟨o',(hs.2 b (aa5 (aa0 (aaY e) I.ok.above))).trans e1⟩
  ·by_cases hj:j=i
   ·subst hj;rw[hi]at e1;cases e1;rw[List.getElem?_set_self hiσ]at e2;cases e2;exact⟨u,r,.inl ⟨hk,by simp⟩⟩
   ·rw[aby (aci hj)]at e2;obtain⟨u',r',q⟩:=hl j y v' e1 e2 e3;refine⟨u',r',?_⟩;rcases q with⟨k,e⟩ | ⟨k,c,e,z⟩
    ·refine .inl ⟨k,?_⟩;have:y≠x:=λe=>hj (uT hN e1 (e ▸ hi))
     simp[this,e]
    ·exact .inr ⟨k,c,e,z.sameBut hs (M0 y c e)⟩
  ·obtain⟨w',z⟩:=I.cell y c e;exact⟨w',z.sameBut hs (M0 y c e)⟩
  ·obtain⟨e,n,ne,nf,d⟩:=I.pin p hp;exact⟨(hs.2 p.1 ne).trans e,n,ne,nf,d⟩
 ·have hfn:X.fn x=true:=by
   rcases hf with z | z
   ·exact z
   ·rw[z]at hk;cases hk
  obtain⟨c,hc⟩:=I.ok.has x (.inl hk);obtain⟨w',z⟩:=I.cell x c hc;refine wpAny_storeName_cell I.ok.kind hk hc z (λh' hc' hs=>?_);obtain⟨oc,hoc,hocd⟩:=id z;refine h {s with heap:=h'} ⟨I.ok,I.os,I.bare,⟨λb o e n hb hx=>?_,λb o e n hb hx=>?_,I.base.free,λb o e hx=>?_,I.base.tups,I.base.eT,I.base.tbls⟩,⟨m,hn.sameBut hs (Ne.symm (M0 x c hc)),λj y v' e1 e2 e3=>?_⟩,λy c' e=>?_,I.free,I.freeC,λp hp=>?_,tracked ⟨oc,hoc,I.freeC x c hc⟩ hs,by simpa using I.len⟩ ⟨c,hs,.inr hc⟩
  ·exact(hs.2 b (aa5 (aa0 (aaY e) (I.ok.cab x c hfn hc)))).trans (I.base.keep b o e n hb hx)
  ·obtain⟨sl,e1⟩:=I.base.slot b o e n hb hx;exact⟨sl,(hs.2 b (aa5 (aa0 (aaY e) (I.ok.cab x c hfn hc)))).trans e1⟩
  ·obtain⟨o',e1⟩:=I.base.there b o e hx;exact⟨o',(hs.2 b (aa5 (aa0 (aaY e) (I.ok.cab x c hfn hc)))).trans e1⟩
  ·by_cases hj:j=i
   ·subst hj;rw[hi]at e1;cases e1;rw[abA hiσ]at e2;cases e2;exact⟨u,r,.inr ⟨.inl hk,c,hc,hc'⟩⟩
   ·rw[aby (aci hj)]at e2;obtain⟨u',r',q⟩:=hl j y v' e1 e2 e3;refine⟨u',r',?_⟩;rcases q with q | ⟨k,c',e,z'⟩
    ·exact .inl q
    ·refine .inr ⟨k,c',e,z'.sameBut hs ?_⟩;rintro rfl;exact hj (uT hN e1 (I.ok.inj _ _ _ e hc ▸ hi))
  ·by_cases hcc:c'=c
   ·subst hcc;exact⟨_,hc'⟩
   ·obtain⟨w2,z2⟩:=I.cell y c' e;exact⟨w2,z2.sameBut hs hcc⟩
  ·obtain⟨e,n,ne,nf,d⟩:=I.pin p hp;refine⟨(hs.2 p.1 ?_).trans e,n,ne,nf,d⟩;intro q;rw[q,hoc]at e;have q':oc=p.2:=abc e;exact d w' (by rw[← q'];exact hocd)
theorem qm{M:Model}{A:Around}{E:Value->Shared->Prop}{i:Nat}{x:Str}{v:V}{u:Value}{Q:Unit->Shared->Prop}(I:Inv X pins σ H s)(hN:X.N.Nodup)(hi:X.N[i]?=some x)(hx:Loc X.env.scope x)(r:RelV v u)
  (h:∀s',Inv X pins (σ.set i (some v)) H s'->Q () s') (hf:X.fn x=true∨X.env.scope.names.lookup x=some .local:=by first | exact .inl rfl | exact .inr rfl | assumption):wpAny M A (storeName X.env x u) Q E s :=
 rM I hN hi hx r (λs' I' _=>h s' I') hf
theorem Inv.HL{s':Shared}{ch:List Addr}(I:Inv X pins σ H s)(ho:s'.os=s.os)(u:Un (aT X.stack) ch H H' s.heap s'.heap)(hok:sP X.prog X.w H' s'.heap)(hg:AllBare s'.gens)
  (hch:∀b∈ch,(b∈X.ex∨X.s₀.heap.objs.size<=b)/\b≠X.env.locals/\(∀x c,X.env.cells.lookup x=some c->c≠b)/\∀p∈X.pn++pins,p.1≠b):Inv X pins σ H' s':=by
 obtain⟨h',g',d',t',o'⟩:=s';have e:o'=s.os:=ho;subst e;exact I.call (g':=g') (t':=t') (d':=d') u hok hg hch
end
abbrev XK:=Value->Option Addr->Hp->Prop
abbrev St:=List (Option V)
abbrev VK:=V->Hp->Prop
abbrev TE:=St->Hp->VK->Prop
abbrev TT:=St->Hp->(Bool->Hp->Prop)->Prop
abbrev TA:=St->Hp->(List V->Hp->Prop)->Prop
structure Ends where
 nx:St->Hp->Prop
 rt:VK
 bk:St->Hp->Prop:=λ_ _=>False
 ct:St->Hp->Prop:=λ_ _=>False
abbrev TS:=Ends->St->Hp->Prop
def EP(X:Cx)(pins:List (Addr×Obj))(σ:St)(Q:VK)(u:Value)(s':Shared):Prop:=∃v H',Inv X pins σ H' s'/\RelV v u/\Q v H'
def TP(X:Cx)(pins:List (Addr×Obj))(σ:St)(Q:Bool->Hp->Prop)(b:Bool)(s':Shared):Prop:=∃H',Inv X pins σ H' s'/\Q b H'
def AP(X:Cx)(pins:List (Addr×Obj))(σ:St)(Q:List V->Hp->Prop)(us:List Value)(s':Shared):Prop:=∃vs H',Inv X pins σ H' s'/\Vals vs us/\Q vs H'
def SP(X:Cx)(pins:List (Addr×Obj))(D:Ends)(f:Flow)(s':Shared):Prop :=
 match f with
 | .next=>∃σ' H',Inv X pins σ' H' s'/\D.nx σ' H'
 | .brk=>∃σ' H',Inv X pins σ' H' s'/\D.bk σ' H'
 | .cont=>∃σ' H',Inv X pins σ' H' s'/\D.ct σ' H'
 | .ret u=>∃v σ' H',Inv X pins σ' H' s'/\RelV v u/\D.rt v H'
def PE(X:Cx)(e:Expr)(t:TE):Prop :=
 ∀(pins:List (Addr×Obj)) (s:Shared) (σ:St) (H:Hp) (Q:VK),Inv X pins σ H s->t σ H Q->wpAny (model X.prog X.w) X.A (eval e X.env) (EP X pins σ Q) X.xe s
def PT(X:Cx)(e:Expr)(t:TT):Prop :=
 ∀(pins:List (Addr×Obj)) (s:Shared) (σ:St) (H:Hp) (Q:Bool->Hp->Prop),Inv X pins σ H s->t σ H Q->wpAny (model X.prog X.w) X.A (isTrue e X.env (eval e X.env)) (TP X pins σ Q) X.xe s
def PW(X:Cx)(e:Expr)(t:TT):Prop :=
 ∀(whole:Sem Value) (pins:List (Addr×Obj)) (s:Shared) (σ:St) (H:Hp) (Q:Bool->Hp->Prop),Inv X pins σ H s->t σ H Q->wpAny (model X.prog X.w) X.A (isTrue e X.env whole) (TP X pins σ Q) X.xe s
theorem PW.pt{X:Cx}{e:Expr}{t:TT}(h:PW X e t):PT X e t:=h _
def PA(X:Cx)(es:List Expr)(t:TA):Prop :=
 ∀(pos:Pos) (pins:List (Addr×Obj)) (s:Shared) (σ:St) (H:Hp) (Q:List V->Hp->Prop),Inv X pins σ H s->t σ H Q->wpAny (model X.prog X.w) X.A (spliced (backTo pos (starEach es X.env))) (AP X pins σ Q) X.xe s
def PS(X:Cx)(st:Stmt)(t:TS):Prop :=
 ∀(pins:List (Addr×Obj)) (s:Shared) (σ:St) (H:Hp) (D:Ends),Inv X pins σ H s->t D σ H->wpAny (model X.prog X.w) X.A (exec st X.env) (SP X pins D) X.xe s
def sQ(X:Cx)(st:List Stmt)(t:TS):Prop :=
 ∀(pins:List (Addr×Obj)) (s:Shared) (σ:St) (H:Hp) (D:Ends),Inv X pins σ H s->t D σ H->wpAny (model X.prog X.w) X.A (execs st X.env) (SP X pins D) X.xe s
theorem cg{α:Type}{t:Sem α}{Q Q':α->Shared->Prop}{M:Model}{A:Around}{E:Value->Shared->Prop}{s:Shared}(h:wpAny M A t Q E s)(hQ:∀a s,Q a s->Q' a s):wpAny M A t Q' E s:=abn h hQ λ_ _ x=>x
section
variable {X:Cx}
def QS(i:Nat):TE:=λσ H Q=>∃v,σ[i]?=some (some v)/\Q v H
def tC(v:V):TE:=λ_ H Q=>Q v H
theorem HM{i:Nat}{x:Str}{pos:Pos}(hN:X.N[i]?=some x)(hv:WC X.env.scope x)(hd:(x == ("__debug__" : Str))=false:=by decide)(hcd:(x == ("__classdict__" : Str))=false:=by decide):PE X (.Name x pos) (QS i):=by
 intro pins s σ H Q I h;obtain⟨v,e,h⟩:=h;obtain⟨m,hn,hl⟩:=I.loc;obtain⟨u,r,l⟩:=hl i x v hN e hv;have fin:EP X pins σ Q u s:=⟨v,H,I,r,h⟩;rcases l with⟨hk,hm⟩ | ⟨hk,c,hc,hcell⟩
 ·exact wpAny_Name (wpAny_loadName_local I.ok.kind hk hn hm fin) hd
 ·rcases hk with hk | hk
  ·exact wpAny_Name (wpAny_loadName_cell I.ok.kind hk hc hcell fin) hd
  ·exact wpAny_Name (wpAny_loadName_free I.ok.kind hk hc hcell fin hcd) hd
theorem pI{i j pos}:PE X (.Constant (.int i) j pos) (tC (.int i)):=λ_ _ _ H _ I h=>wpAny_Constant_int ⟨.int i,H,I.tok _,⟨_,rfl⟩,h⟩
theorem z9{b j pos}:PE X (.Constant (.bool b) j pos) (tC (.bl b)):=λ_ _ _ H _ I h=>Constant_bool ⟨.bl b,H,I,rfl,h⟩
theorem dW{j pos}:PE X (.Constant .none j pos) (tC .non):=λ_ _ _ H _ I h=>Constant_none ⟨.non,H,I,rfl,h⟩
theorem ba{x j pos}:PE X (.Constant (.str x) j pos) (tC (.str x)):=λ_ _ _ H _ I h=>Calls.Constant_str ⟨.str x,H,I.tok _,⟨_,rfl⟩,h⟩
def Gl(X:Cx)(x:Str):Prop:=X.env.kindOf x=some .globalImplicit
theorem iF{E:Value->Shared->Prop}{pins:List (Addr×Obj)}{s:Shared}{σ:St}{H:Hp}{x:Str}{u:Value}{pos:Pos}{Q:Value->Shared->Prop}(I:Inv X pins σ H s)(hg:Gl X x)(hm:X.mg x=some u)(h:Q u s)
  (hd:(x == ("__debug__" : Str))=false:=by decide):wpAny (model X.prog X.w) X.A (eval (.Name x pos) X.env) Q E s :=
 acr I.ok.kind hg (Calls.loadGlobal_global (by rw[I.ok.glob];exact I.mod.glob.keeps I.bk) hm h) hd
theorem uU{E:Value->Shared->Prop}{pins:List (Addr×Obj)}{s:Shared}{σ:St}{H:Hp}{x:Str}{u:Value}{pos:Pos}{Q:Value->Shared->Prop}(I:Inv X pins σ H s)(hg:Gl X x)(hm:X.mg x=none)(hv:bootBuiltins x=some u)(h:Q u s)
  (hn:x≠"__name__":=by decide) (hd:(x == ("__debug__" : Str))=false:=by decide):wpAny (model X.prog X.w) X.A (eval (.Name x pos) X.env) Q E s:=by
 obtain⟨mb,h1,h2⟩:=I.mod.blt;exact acr I.ok.kind hg (Calls.loadGlobal_builtin (by rw[I.ok.glob];exact I.mod.glob.keeps I.bk) hm (by rw[I.ok.blt];exact h1.keeps I.bk) ((h2 x hn).trans hv) h) hd
theorem jA{x:Str}{v:V}{u:Value}{pos:Pos}(hg:Gl X x)(hm:X.mg x=some u)(r:RelV v u)(hd:(x == ("__debug__" : Str))=false:=by decide):PE X (.Name x pos) (tC v) :=
 λ_ _ _ H _ I h=>iF I hg hm ⟨v,H,I,r,h⟩ hd
theorem M5{x:Str}{v:V}{u:Value}{pos:Pos}(hg:Gl X x)(hm:X.mg x=none)(hv:bootBuiltins x=some u)(r:RelV v u)(hn:x≠"__name__":=by decide)(hd:(x == ("__debug__" : Str))=false:=by decide):PE X (.Name x pos) (tC v) :=
 λ_ _ _ H _ I h=>uU I hg hm hv ⟨v,H,I,r,h⟩ hn hd
variable {a b:Expr} {ta tb:TE} {pos:Pos}
def tB(t:TE):TT:=λσ H Q=>t σ H λx H1=>∃c,x=.bl c/\Q c H1
theorem yy{e:Expr}{t:TE}(h:PE X e t)(he:∀whole,isTrue e X.env whole=(do let v ← whole;standAt e.pos;holding [v] (truthy v)):=by intro _;rfl):PT X e (tB t):=by
 intro pins s σ H Q I hw;refine isTrue_plain (cg (h pins s σ H _ I hw) λv s1 ⟨x,H1,I1,r1,q1⟩=>?_) (he _);obtain⟨d,rfl,q⟩:=q1;cases r1;exact abM ⟨H1,I1,q⟩
variable {tA tB':TT} {rest:List Expr}
def Ug(t u:TT):TT:=λσ H Q=>t σ H λc H1=>if c=true then u σ H1 Q else Q false H1
def tOr(t u:TT):TT:=λσ H Q=>t σ H λc H1=>if c=true then Q true H1 else u σ H1 Q
def Xj(t:TT):TT:=λσ H Q=>t σ H λc H1=>Q (!c) H1
theorem pw_and1(ha:PT X a tA):PW X (.BoolOp .And [a] pos) tA:=by
 intro wh pins s σ H Q I h;refine isTrue_and (cg (ha pins s σ H Q I h) λc s1 e=>?_)
 cases c with
 | true=>exact isTrue_and_nil e
 | false=>exact e
theorem pw_or1(ha:PT X a tA):PW X (.BoolOp .Or [a] pos) tA:=by
 intro wh pins s σ H Q I h;refine isTrue_or (cg (ha pins s σ H Q I h) λc s1 e=>?_)
 cases c with
 | false=>exact isTrue_or_nil e
 | true=>exact e
theorem pw_and(ha:PT X a tA)(hb:PW X (.BoolOp .And (b::rest) pos) tB'):PW X (.BoolOp .And (a::b::rest) pos) (Ug tA tB'):=by
 intro wh pins s σ H Q I h;refine isTrue_and (cg (ha pins s σ H _ I h) λc s1 ⟨H1,I1,q1⟩=>?_)
 cases c with
 | true=>exact hb wh pins s1 σ H1 Q I1 q1
 | false=>exact⟨H1,I1,q1⟩
theorem pw_or(ha:PT X a tA)(hb:PW X (.BoolOp .Or (b::rest) pos) tB'):PW X (.BoolOp .Or (a::b::rest) pos) (tOr tA tB'):=by
 intro wh pins s σ H Q I h;refine isTrue_or (cg (ha pins s σ H _ I h) λc s1 ⟨H1,I1,q1⟩=>?_)
 cases c with
 | true=>exact⟨H1,I1,q1⟩
 | false=>exact hb wh pins s1 σ H1 Q I1 q1
theorem yz(ha:PT X a tA):PT X (.UnaryOp .Not a pos) (Xj tA):=by
 intro pins s σ H Q I h;exact isTrue_not (ha pins s σ H (λc H1=>Q (!c) H1) I h)
def Uh(ta tb:TE):TE:=λσ H Q=>ta σ H λx H1=>∃c,x=.bl c/\if c=true then tb σ H1 Q else Q (.bl false) H1
theorem CB{op}{t:TE}(h:PE X a t):PE X (.BoolOp op [a] pos) t:=λpins s σ H Q I hw=>BoolOp_one (h pins s σ H Q I hw)
theorem CC(ha:PE X a ta)(hb:PE X (.BoolOp .And (b::rest) pos) tb):PE X (.BoolOp .And (a::b::rest) pos) (Uh ta tb):=by
 intro pins s σ H Q I h;refine BoolOp_and (cg (ha pins s σ H _ I h) λv s1 ⟨x,H1,I1,r1,q1⟩=>?_);obtain⟨c,rfl,q1⟩:=q1;cases r1;refine abM ?_
 cases c with
 | true=>exact hb pins s1 σ H1 Q I1 q1
 | false=>exact⟨.bl false,H1,I1,rfl,q1⟩
end
def bg(K:ay)(H:Hp)(a:Addr)(xs:List V):Prop :=
 Rd H a (.lst xs) ∨
  ∃(o:Obj) (its:Array Value) (n:Nat),K.lookup a=some o/\o.cls=.type "list"/\o.dict=none/\o.data=.seq its n/\its.size<=sizeLine/\Vals xs its.toList
def a8(K:ay)(H:Hp)(a:Addr)(xs:List V):Prop :=
 Rd H a (.tup xs) ∨
  ∃(o:Obj) (its:Array Value) (n:Nat),K.lookup a=some o/\o.cls=.type "tuple"/\o.data=.seq its n/\its.size<=sizeLine/\Vals xs its.toList
def Xk:Value->Option V
 | .none=>some .non
 | .bool b=>some (.bl b)
 | .int i _=>some (.int i)
 | .str x _=>some (.str x)
 | .bytes b _=>some (.byt b)
 | .float b _=>some (.flt b)
 | .ref a=>some (.ref a)
 | .type n=>some (.ty n)
 | _=>none
theorem RelV.abs{x:V}{u:Value}(r:RelV x u):Xk u=some x:=by
 cases x with
 | non=>cases r;rfl
 | bl _=>cases r;rfl
 | int _=>obtain⟨t,rfl⟩:=r;rfl
 | str _=>obtain⟨t,rfl⟩:=r;rfl
 | byt _=>obtain⟨t,rfl⟩:=r;rfl
 | flt _=>obtain⟨t,rfl⟩:=r;rfl
 | ref _=>cases r;rfl
 | ty _=>cases r;rfl
theorem RelV.inj{x y:V}{u:Value}(r:RelV x u)(q:RelV y u):x=y:=abc (r.abs.symm.trans q.abs)
theorem Vals.inj:∀{xs ys:List V} {us:List Value},Vals xs us->Vals ys us->xs=ys
 | _,_,_,.nil,.nil=>rfl
 | _,_,_,.cons r t,.cons r' t'=>by rw[r.inj r',Vals.inj t t']
section
variable {X:Cx} {pins:List (Addr×Obj)} {σ:St} {H:Hp} {s:Shared} {a:Addr} {xs ys:List V}
theorem bg.of{K:ay}(h:H a=some (.lst xs)):bg K H a xs:=.inl (.inl h)
theorem a8.of{K:ay}(h:H a=some (.tup xs)):a8 K H a xs:=.inl (.inl h)
theorem Inv.list(I:Inv X pins σ H s)(h:bg X.K H a xs):∃its:List Value,Vals xs its/\PlainL s.heap a its.toArray/\xs.length<=sizeLine:=by
 rcases h with h | ⟨o,its,n,hk,hc,hd,hs,hz,r⟩
 ·obtain⟨z,its,n,r,e⟩:=h.ok I.hok;exact⟨its,r,⟨_,n,e,rfl,rfl,rfl⟩,z⟩
 ·refine⟨its.toList,r,⟨o,n,I.uk a o hk,hc,hd,by simpa using hs⟩,?_⟩;have e:=r.length;simp only[Array.length_toList]at e;omega
theorem Inv.tuple(I:Inv X pins σ H s)(h:a8 X.K H a xs):∃its:List Value,Vals xs its/\IsTup s.heap a its.toArray/\xs.length<=sizeLine:=by
 rcases h with h | ⟨o,its,n,hk,hc,hs,hz,r⟩
 ·obtain⟨z,its,r,p⟩:=h.ok I.hok;exact⟨its,r,p,z⟩
 ·refine⟨its.toList,r,⟨o,I.uk a o hk,hc,n,by simpa using hs⟩,?_⟩;have e:=r.length;simp only[Array.length_toList]at e;omega
theorem Inv.HN(I:Inv X pins σ H s)(h:bg X.K H a xs)(h':bg X.K H a ys):xs=ys:=by
 obtain⟨its,r,⟨o,n,e,_,_,d⟩,_⟩:=I.list h;obtain⟨its',r',⟨o',n',e',_,_,d'⟩,_⟩:=I.list h';rw[e]at e';cases e';rw[d]at d'
 injection d' with d1 _
 have:its=its':=by simpa using congrArg Array.toList d1
 subst this;exact r.inj r'
theorem Inv.FA(I:Inv X pins σ H s)(h:a8 X.K H a xs)(h':a8 X.K H a ys):xs=ys:=by
 obtain⟨its,r,⟨o,e,_,n,d⟩,_⟩:=I.tuple h;obtain⟨its',r',⟨o',e',_,n',d'⟩,_⟩:=I.tuple h';rw[e]at e';cases e';rw[d]at d'
 injection d' with d1 _
 have:its=its':=by simpa using congrArg Array.toList d1
 subst this;exact r.inj r'
end
abbrev Cx.eU(X:Cx)(E:Value->Shared->Prop):Cx:={X with xe:=E}
abbrev Cx.WD(X:Cx):Cx:=X.eU λ_ _=>False
theorem Cx.Ok.eU{X:Cx}(ok:X.Ok)(E:Value->Shared->Prop):(X.eU E).Ok :=
 ⟨ok.mod,ok.kind,ok.glob,ok.blt,ok.above,ok.inj,ok.has,ok.cab,ok.hd,ok.frames,ok.stk,ok.exf,ok.bs,ok.bsz,ok.noex,ok.exfs,ok.rL,ok.frf⟩
theorem Cx.Ok.dX{X:Cx}{E:Value->Shared->Prop}(ok:(X.eU E).Ok):X.Ok :=
 ⟨ok.mod,ok.kind,ok.glob,ok.blt,ok.above,ok.inj,ok.has,ok.cab,ok.hd,ok.frames,ok.stk,ok.exf,ok.bs,ok.bsz,ok.noex,ok.exfs,ok.rL,ok.frf⟩
section
variable {X:Cx} {pins:List (Addr×Obj)} {σ:St} {H:Hp} {s:Shared} {E:Value->Shared->Prop}
theorem Inv.eU(I:Inv X pins σ H s)(E:Value->Shared->Prop):Inv (X.eU E) pins σ H s:=⟨I.ok.eU E,I.os,I.bare,I.base,I.loc,I.cell,I.free,I.freeC,I.pin,I.hok,I.len⟩
theorem Inv.dX(I:Inv (X.eU E) pins σ H s):Inv X pins σ H s:=⟨I.ok.dX,I.os,I.bare,I.base,I.loc,I.cell,I.free,I.freeC,I.pin,I.hok,I.len⟩
theorem SP.dX{D:Ends}{f:Flow}{s':Shared}(h:SP (X.eU E) pins D f s'):SP X pins D f s':=by
 cases f with
 | next=>obtain⟨σ',H',I,q⟩:=h;exact⟨σ',H',I.dX,q⟩
 | brk=>obtain⟨σ',H',I,q⟩:=h;exact⟨σ',H',I.dX,q⟩
 | cont=>obtain⟨σ',H',I,q⟩:=h;exact⟨σ',H',I.dX,q⟩
 | ret u=>obtain⟨v,σ',H',I,r,q⟩:=h;exact⟨v,σ',H',I.dX,r,q⟩
theorem sQ.WD{st:List Stmt}{t:TS}(h:sQ X.WD st t):sQ X st t:=λpins s σ H D I hw =>
 abn (h pins s σ H D (I.eU _) hw) (λ_ _ q=>q.dX) λ_ _ z=>False.elim z
end
section
variable {X:Cx} {st:Stmt} {rest:List Stmt} {t u:TS} {e:Expr} {te:TE} {pos:Pos}
def gj:TS:=λD σ H=>D.nx σ H
def M6(t u:TS):TS:=λD σ H=>t {D with nx:=u D} σ H
theorem bc:sQ X [] gj:=λ_ _ σ H _ I h=>abU ⟨σ,H,I,h⟩
theorem qK(h1:PS X st t)(h2:sQ X rest u):sQ X (st::rest) (M6 t u):=by
 intro pins s σ H D I h;refine acA (cg (h1 pins s σ H {D with nx:=u D} I h) λf s1 q=>?_)
 cases f with
 | next =>
  obtain⟨σ',H',I',q⟩:=q;exact h2 pins s1 σ' H' D I' q
 | ret v=>exact q
 | brk=>exact q
 | cont=>exact q
theorem qO(h1:PS X st t):sQ X [st] t:=by
 intro pins s σ H D I h;refine acA (cg (h1 pins s σ H D I h) λf s1 q=>?_)
 cases f with
 | next=>exact abU q
 | ret v=>exact q
 | brk=>exact q
 | cont=>exact q
theorem Inv.quiet{pins:List (Addr×Obj)}{σ:St}{H:Hp}{s:Shared}(I:Inv X pins σ H s):interactive X.env=false:=by simp[interactive,I.ok.kind]
def Ui(te:TE):TS:=λD σ H=>te σ H λ_ H1=>D.nx σ H1
theorem bG(he:PE X e te)(hs:swapsWith e none pos.line X.env=pure false:=by rfl):PS X (.Expr e pos) (Ui te):=by
 intro pins s σ H D I h;exact wpAny_Expr_any (cg (he pins s σ H _ I h) λv s1 ⟨x,H1,I1,r1,q1⟩=>⟨σ,H1,I1,q1⟩) I.quiet hs
def Xl(te:TE):TS:=λD σ H=>te σ H D.rt
theorem aI(he:PE X e te):PS X (.Return (some e) pos) (Xl te):=by
 intro pins s σ H D I h;exact wpAny_Return_some (cg (he pins s σ H _ I h) λv s1 ⟨x,H1,I1,r1,q1⟩=>⟨x,σ,H1,I1,r1,q1⟩)
def Uj:TS:=λD _ H=>D.rt .non H
theorem yA:PS X (.Return none pos) Uj:=λ_ _ σ H _ I h=>wpAny_Return_none ⟨.non,σ,H,I,rfl,h⟩
def Uk(c:TT)(t u:TS):TS:=λD σ H=>c σ H λb H1=>if b=true then t D σ H1 else u D σ H1
theorem br{c:Expr}{a b:List Stmt}{tc:TT}(hc:PT X c tc)(ha:sQ X a t)(hb:sQ X b u):PS X (.If c a b pos) (Uk tc t u):=by
 intro pins s σ H D I h;refine wpAny_If (cg (hc pins s σ H _ I h) λd s1 ⟨H1,I1,q1⟩=>?_)
 cases d with
 | true=>exact ha pins s1 σ H1 D I1 q1
 | false=>exact hb pins s1 σ H1 D I1 q1
def QT:TS:=λ_ _ _=>False
theorem qo:PS X st QT:=λ_ _ _ _ _ _ h=>h.elim
end
abbrev TG:=V->St->Hp->(St->Hp->Prop)->Prop
abbrev Ms:=List V->St->Hp->(St->Hp->Prop)->Prop
def PG(X:Cx)(target:Expr)(t:TG):Prop :=
 ∀(pins:List (Addr×Obj)) (s:Shared) (σ:St) (H:Hp) (v:V) (u:Value) (Q:St->Hp->Prop),Inv X pins σ H s->RelV v u->t v σ H Q ->
  wpAny (model X.prog X.w) X.A (assign target X.env u) (λ_ s'=>∃σ' H',Inv X pins σ' H' s'/\Q σ' H') X.xe s
def Ul(X:Cx)(ts:List Expr)(t:Ms):Prop :=
 ∀(pins:List (Addr×Obj)) (s:Shared) (σ:St) (H:Hp) (vs:List V) (us:List Value) (Q:St->Hp->Prop),Inv X pins σ H s->Vals vs us->t vs σ H Q ->
  wpAny (model X.prog X.w) X.A (assignInOrder ((assignEach ts X.env).map (·.2)) us) (λ_ s'=>∃σ' H',Inv X pins σ' H' s'/\Q σ' H') X.xe s
abbrev QU:=V->V->V->Hp->(Hp->Prop)->Prop
def Um(X:Cx)(t:QU):Prop :=
 ∀(pins:List (Addr×Obj)) (s:Shared) (σ:St) (H:Hp) (o i v:V) (ov iv u:Value) (Q:Hp->Prop),Inv X pins σ H s->RelV o ov->RelV i iv->RelV v u->t o i v H Q ->
  wpAny (model X.prog X.w) X.A (setItem ov iv u) (λ_ s'=>∃H',Inv X pins σ H' s'/\Q H') X.xe s
section
variable {X:Cx} {pos:Pos}
def uV(i:Nat):TG:=λv σ H Q=>Q (σ.set i (some v)) H
theorem bU{i:Nat}{x:Str}(hN:X.N.Nodup)(hi:X.N[i]?=some x)(hx:Loc X.env.scope x)(hf:X.fn x=true∨X.env.scope.names.lookup x=some .local:=by first | exact .inl rfl | exact .inr rfl | assumption):PG X (.Name x pos) (uV i):=by
 intro pins s σ H v u Q I r h;exact wpAny_assign_Name (qm I hN hi hx r (λs' I'=>⟨_,H,I',h⟩) hf)
def Xm:Ms:=λvs σ H Q=>vs=[]/\Q σ H
def Qd(t:TG)(u:Ms):Ms:=λvs σ H Q=>∃v r,vs=v::r/\t v σ H λσ' H'=>u r σ' H' Q
theorem Eu:Ul X [] Xm:=by
 intro pins s σ H vs us Q I r h;obtain⟨e,h⟩:=h;subst e;cases r;exact assignInOrder_nil ⟨σ,H,I,h⟩
theorem uW{e:Expr}{es:List Expr}{t:TG}{u:Ms}(h1:PG X e t)(h2:Ul X es u)
  (hs:(assignEach (e::es) X.env).map (·.2)=assign e X.env::(assignEach es X.env).map (·.2):=by rfl):Ul X (e::es) (Qd t u):=by
 intro pins s σ H vs us Q I r h;obtain⟨v,vr,e1,h⟩:=h;subst e1
 cases r with
 | cons r rr =>
  rw[hs];refine assignInOrder_cons (cg (h1 pins s σ H _ _ _ I r h) λ_ s1 ⟨σ1,H1,I1,q1⟩=>?_);exact h2 pins s1 σ1 H1 _ _ Q I1 rr q1
def Uo(K:ay)(n:Nat)(t:Ms):TG:=λv σ H Q=>∃a xs,v=.ref a/\a8 K H a xs/\xs.length=n/\t xs σ H Q
theorem HP{es:List Expr}{k:Nat}{t:Ms}{n:Nat}(hc:X.calm=true)(h:Ul X es t)
  (hn:(assignEach es X.env).length=n:=by rfl) (hst:(assignEach es X.env).findIdx? (·.1)=none:=by rfl):PG X (.Tuple es k pos) (Uo X.K n t):=by
 intro pins s σ H v u Q I r hw;obtain⟨a,xs,e1,hq,hl,hw⟩:=hw;subst e1;cases r;obtain⟨its,rv,ht,hz⟩:=I.tuple hq;refine assign_Tuple_tuple (I.ok.hd hc) ht (by simp[hn,← hl,rv.length]) hst λh' hx=>?_
 have I1:Inv X pins σ H {s with heap:=h'}:=I.kept (t':=s.toks) λb o e=>hx b o (aa5 (aaY e)) e
 exact h pins _ σ H xs _ Q I1 (by simpa using rv) hw
def Xn(to ti:TE)(t:QU):TG:=λv σ H Q=>to σ H λo H1=>ti σ H1 λi H2=>t o i v H2 λH3=>Q σ H3
theorem QV{o i:Expr}{to ti:TE}{t:QU}(ho:PE X o to)(hi:PE X i ti)(hs:Um X t)
  (ha:∀v,assign (.Subscript o i pos) X.env v=(do
   let ov ← holding [v] (eval o X.env)
   let iv ← holding [v,ov] (eval i X.env)
   standAt pos
   holding [v,ov,iv] (setItem ov iv v)
   release [v,ov,iv] []):=by intro _;rfl):PG X (.Subscript o i pos) (Xn to ti t):=by
 intro pins s σ H v u Q I r h;rw[ha];refine aa6 (wpAny_holding (cg (ho pins s σ H _ I h) λov s1 ⟨x,H1,I1,r1,q1⟩=>?_));refine aa6 (wpAny_holding (cg (hi pins s1 σ H1 _ I1 q1) λiv s2 ⟨y,H2,I2,r2,q2⟩=>?_));refine aa6 (wpAny_standAt (aa6 (wpAny_holding (cg (hs pins s2 σ H2 x y v ov iv u _ I2 r1 r2 r q2) λ_ s3 ⟨H3,I3,q3⟩=>?_))));exact wpAny_release ⟨σ,H3,I3,q3⟩
def M7(te:TE)(g:TG):TS:=λD σ H=>te σ H λx H1=>g x σ H1 D.nx
theorem HQ{tg e:Expr}{te:TE}{g:TG}(he:PE X e te)(hg:PG X tg g)(hs:swapsWithSole [tg] e pos.line X.env=pure false:=by rfl)(hw:swappedStores [tg] e X.env=pure none:=by rfl)
  (h1:(assignEach [tg] X.env).map (·.2)=[assign tg X.env]:=by rfl):PS X (.Assign [tg] e pos) (M7 te g):=by
 intro pins s σ H D I h;refine wpAny_Assign_stores (cg (he pins s σ H _ I h) λv s1 ⟨x,H1,I1,r1,q1⟩=>?_) hs hw;rw[h1];exact cg (hg pins s1 σ H1 x v _ I1 r1 q1) λ_ s2 q=>q
theorem bB{i:Nat}{x:Str}{e:Expr}{te:TE}{pos':Pos}(hN:X.N.Nodup)(hi:X.N[i]?=some x)(hx:Loc X.env.scope x)(he:PE X e te)(hs:swapsWith e (some (.Name x pos')) pos.line X.env=pure false:=by rfl)(hf:X.fn x=true∨X.env.scope.names.lookup x=some .local:=by first | exact .inl rfl | exact .inr rfl | assumption):
  PS X (.Assign [.Name x pos'] e pos) (M7 te (uV i)):=by
 intro pins s σ H D I h;refine acu (cg (he pins s σ H _ I h) λv s1 ⟨y,H1,I1,r1,q1⟩=>?_) hs;exact qm I1 hN hi hx r1 (λs2 I2=>⟨_,H1,I2,q1⟩) hf
end
section
variable {X:Cx} {pos:Pos}
def HR(c:TT)(tb:TS):TS:=λD σ H=>∃W:Nat->St->Hp->Prop,(∃m,W m σ H)/\∀m σ H,W m σ H ->
 c σ H λb H1=>if b=true then ∃N:St->Hp->Prop,(∀σ' H',N σ' H'->∃m',m' < m/\W m' σ' H')/\tb {D with nx:=N,ct:=N,bk:=D.nx} σ H1 else D.nx σ H1
theorem uX{c:Expr}{body:List Stmt}{tc:TT}{tb:TS}(hp:PassesOwn (model X.prog X.w) X.A X.env X.xe)(hc:PT X c tc)(hb:sQ X body tb):PS X (.While c body [] pos) (HR tc tb):=by
 intro pins s σ H D I h;obtain⟨W,⟨m0,w0⟩,turn⟩:=h;refine wpAny_While (codeAny_whileLoop (λn s'=>∃σ' H',Inv X pins σ' H' s'/\W n σ' H') ?_ m0 ⟨σ,H,I,w0⟩);rintro n s1 ⟨σ1,H1,I1,w1⟩;refine abL hp (cg (hc pins s1 σ1 H1 _ I1 (turn n σ1 H1 w1)) λb s2 ⟨H2,I2,q2⟩=>?_)
 cases b with
 | true =>
  obtain⟨N,hN,q2⟩:=q2;rw[aa7 rfl];refine abL hp (cg (hb pins s2 σ1 H2 _ I2 q2) λf s3 q3=>?_)
  cases f with
  | next =>
   obtain⟨σ3,H3,I3,n3⟩:=q3;obtain⟨m',hm,w3⟩:=hN σ3 H3 n3;exact⟨m',hm,σ3,H3,I3,w3⟩
  | cont =>
   obtain⟨σ3,H3,I3,n3⟩:=q3;obtain⟨m',hm,w3⟩:=hN σ3 H3 n3;exact⟨m',hm,σ3,H3,I3,w3⟩
  | brk=>exact q3
  | ret v=>exact q3
 | false =>
  rw[aa4 aac];exact abU ⟨σ1,H2,I2,q2⟩
end
structure It where
 go:Nat->Hp->Prop
 yld:Nat->Hp->V->Hp->Prop
 stop:Nat->Hp->Prop
def qp(X:Cx)(pins:List (Addr×Obj))(H:Hp)(b:Addr):Prop :=
 H b=none/\b≠X.env.locals/\b∉X.fs/\(b∈X.ex∨X.s₀.heap.objs.size<=b)/\(∀x c,X.env.cells.lookup x=some c->c≠b)/\∀p∈X.pn++pins,p.1≠b
theorem Inv.Na{X:Cx}{pins:List (Addr×Obj)}{σ:St}{H H':Hp}{s:Shared}{b:Addr}(I:Inv X pins σ H s)(hb:s.heap.objs.size<=b)(hn:H' b=none):qp X pins H' b:=by
 refine⟨hn,ab5 (aa0 I.lt hb),I.Xi hb,.inr (abj I.sz hb),λx c e z=>?_,λp hp z=>?_⟩
 ·obtain⟨v,q⟩:=I.cell x c e;exact absurd (aa0 q.lt (by rw[z];exact hb)) (abC _)
 ·exact absurd (aa0 (aaY (I.pin p hp).1) (by rw[z];exact hb)) (abC _)
structure Turn(P:Program)(w:World)(K:ay)(tg:Expr)(J:It)(fp:List Addr)(it:Addr)(tn:Nat->Heap->Prop):Prop where
 mem:it∈fp
 obj:∀i h,tn i h->∀b∈fp,∃o,h.get? b=some o/\∀v,o.data≠.cell v
 keep:∀i h h',tn i h->(∀b∈fp,∀o,h.get? b=some o->h'.get? b=some o)->tn i h'
 item:∀(X:Cx),X.prog=P->X.w=w->X.K=K->X.calm=true->∀(i:Nat) (pins:List (Addr×Obj)) (s:Shared) (σ:St) (H:Hp) (E:Value->Shared->Prop),Inv X pins σ H s->(∀b∈fp,qp X pins H b)->tn i s.heap->J.go i H ->
  wpAny (model P w) X.A (pyNext (.ref it)) (λr s1=>∃u,r=some u /\
   wpAny (model P w) X.A (letOwnedTupleGo tg (.ref it) u) (λ_ s2=>∃x H',Inv X pins σ H' s2/\RelV x u/\J.yld i H x H'/\tn (i + 1) s2.heap/\∀b∈fp,H' b=none) E s1) E s
 done:∀(X:Cx),X.prog=P->X.w=w->X.K=K->X.calm=true->∀(i:Nat) (pins:List (Addr×Obj)) (s:Shared) (σ:St) (H:Hp) (E:Value->Shared->Prop),Inv X pins σ H s->(∀b∈fp,qp X pins H b)->tn i s.heap->J.stop i H ->
  wpAny (model P w) X.A (pyNext (.ref it)) (λr s1=>r=none/\Inv X pins σ H s1) E s
 self:∀(A:Around) (i:Nat) (s:Shared) (Q:Value->Shared->Prop) (E:Value->Shared->Prop),tn i s.heap->Q (.ref it) s->wpAny (model P w) A (pyIter (.ref it)) Q E s
abbrev TI:=St->Hp->(It->Hp->Prop)->Prop
def PIE(X:Cx)(pins:List (Addr×Obj))(σ:St)(tg:Expr)(R:It->Hp->Prop)(itv:Value)(s2:Shared):Prop :=
 ∃(it:Addr) (fp:List Addr) (tn:Nat->Heap->Prop) (J:It) (H':Hp),itv=.ref it/\Inv X pins σ H' s2/\Turn X.prog X.w X.K tg J fp it tn/\tn 0 s2.heap/\(∀b∈fp,qp X pins H' b)/\R J H'
def PI(X:Cx)(tg iter:Expr)(wi:TI):Prop :=
 ∀(pins:List (Addr×Obj)) (s:Shared) (σ:St) (H:Hp) (R:It->Hp->Prop),Inv X pins σ H s->wi σ H R ->
  wpAny (model X.prog X.w) X.A (eval iter X.env) (λv s1=>wpAny (model X.prog X.w) X.A (pyIter v) (PIE X pins σ tg R) X.xe s1) X.xe s
theorem HS{M:Model}{A:Around}{E:Value->Shared->Prop}{s:Shared}{tg:Expr}{it:Addr}{u:Value}{o:Obj}{n:String}{vs:Array Value}{Q:Unit->Shared->Prop}(ho:s.heap.get? it=some o)(hc:o.cls=.type n)(hd:o.data=.fields vs)
  (hn:["enumerate","zip","dict_itemiterator","dict_reverseitemiterator","odict_iterator","itertools.zip_longest","itertools.pairwise"].contains n=false) (hQ:Q () s):wpAny M A (letOwnedTupleGo tg (.ref it) u) Q E s:=by
 unfold letOwnedTupleGo;cases tg<;>first
  | exact abg hQ
  | (cases u<;>first
    | exact abg hQ
    | (refine aa6 (wpAny_load ho ?_)
       rw[hc,hd];show wpAny M A (if (["enumerate","zip","dict_itemiterator","dict_reverseitemiterator","odict_iterator","itertools.zip_longest","itertools.pairwise"].contains n&&vs[0]? == some (rawInt _))=true then _ else _) Q E s;rw[aa4 (by intro h;rw[hn,Bool.false_and]at h;cases h)];exact abg hQ))
def Qe(K:ay)(a:Addr):It :=
 ⟨λi H=>∃xs x,bg K H a xs/\xs[i]?=some x,λi H x H'=>H'=H/\∀xs,bg K H a xs->xs[i]?=some x,λi H=>∃xs,bg K H a xs/\xs.length<=i⟩
def Xo(K:ay)(a:Addr):It :=
 ⟨λi H=>∃xs x,a8 K H a xs/\xs[i]?=some x,λi H x H'=>H'=H/\∀xs,a8 K H a xs->xs[i]?=some x,λi H=>∃xs,a8 K H a xs/\xs.length<=i⟩
def Up(lo:Int)(n:Nat):It:=⟨λi _=>i < n,λi H x H'=>H'=H/\x=.int (lo + i),λi _=>n<=i⟩
theorem xE{P:Program}{w:World}{K:ay}{tg:Expr}(a it:Addr):Turn P w K tg (Qe K a) [it] it (λi h=>h.IsListIter it a i) where
 mem:=by simp
 obj:=λi h st b hb=>by
  have e:b=it:=by simpa using hb
  subst e;obtain⟨o,e,c,d⟩:=st;exact⟨o,e,λv z=>by rw[d]at z;cases z⟩
 keep:=λi h h' st k=>st.at λo e=>k it (by simp) o e
 item:=by
  intro X hP hw hK hc i pins s σ H E I hf st hg;subst hP hw hK;obtain⟨xs,x,hq,hx⟩:=hg;obtain⟨its,rv,p,hz⟩:=I.list hq;obtain⟨u,hu,ru⟩:=rv.get hx;obtain⟨f0,f1,f2,f3,f4,f5⟩:=hf it (by simp);refine wpAny_pyNext_list_item st p.isList (x:=u) (by simpa using hu) λh' st' sb=>?_
  have I1:Inv X pins σ H {s with heap:=h'}:=I.turned (t':=s.toks) (λb o hb e=>(sb.2 b hb).trans e) f0 f1 f3 f4 f5;obtain⟨o,e,c,d⟩:=id st';exact⟨u,rfl,HS (s:={s with heap:=h'}) e c d (by decide) ⟨x,H,I1,ru,⟨rfl,λys hy=>by rw[I.HN hy hq];exact hx⟩,st',λb hb=>(hf b hb).1⟩⟩
 done:=by
  intro X hP hw hK hc i pins s σ H E I hf st hg;subst hP hw hK;obtain⟨xs,hq,hx⟩:=hg;obtain⟨its,rv,p,hz⟩:=I.list hq;obtain⟨f0,f1,f2,f3,f4,f5⟩:=hf it (by simp);have hl:=rv.length;exact wpAny_pyNext_list_end (I.ok.hd hc) st p.isList (by simp;omega) λh' eb=>⟨rfl,I.turned (t':=s.toks) (λb o hb e=>eb b o hb e) f0 f1 f3 f4 f5⟩
 self:=λ_ _ _ _ _ st h=>wpAny_pyIter_listiter st h
theorem CG{P:Program}{w:World}{K:ay}{tg:Expr}(a it:Addr):Turn P w K tg (Xo K a) [it] it (λi h=>h.IsTupleIter it a i) where
 mem:=by simp
 obj:=λi h st b hb=>by
  have e:b=it:=by simpa using hb
  subst e;obtain⟨o,e,c,d⟩:=st;exact⟨o,e,λv z=>by rw[d]at z;cases z⟩
 keep:=λi h h' st k=>st.at λo e=>k it (by simp) o e
 item:=by
  intro X hP hw hK hc i pins s σ H E I hf st hg;subst hP hw hK;obtain⟨xs,x,hq,hx⟩:=hg;obtain⟨its,rv,p,hz⟩:=I.tuple hq;obtain⟨u,hu,ru⟩:=rv.get hx;obtain⟨f0,f1,f2,f3,f4,f5⟩:=hf it (by simp);refine wpAny_pyNext_tuple_item st (show s.heap.IsTuple a its.toArray from p) (x:=u) (by simpa using hu) λh' st' sb=>?_
  have I1:Inv X pins σ H {s with heap:=h'}:=I.turned (t':=s.toks) (λb o hb e=>(sb.2 b hb).trans e) f0 f1 f3 f4 f5;obtain⟨o,e,c,d⟩:=id st';exact⟨u,rfl,HS (s:={s with heap:=h'}) e c d (by decide) ⟨x,H,I1,ru,⟨rfl,λys hy=>by rw[I.FA hy hq];exact hx⟩,st',λb hb=>(hf b hb).1⟩⟩
 done:=by
  intro X hP hw hK hc i pins s σ H E I hf st hg;subst hP hw hK;obtain⟨xs,hq,hx⟩:=hg;obtain⟨its,rv,p,hz⟩:=I.tuple hq;obtain⟨f0,f1,f2,f3,f4,f5⟩:=hf it (by simp);have hl:=rv.length;exact wpAny_pyNext_tuple_end (I.ok.hd hc) st (show s.heap.IsTuple a its.toArray from p) (by simp;omega) λh' eb=>⟨rfl,I.turned (t':=s.toks) (λb o hb e=>eb b o hb e) f0 f1 f3 f4 f5⟩
 self:=λ_ _ _ _ _ st h=>wpAny_pyIter_tupleiter st h
theorem CH{P:Program}{w:World}{K:ay}{tg:Expr}(it:Addr)(lo:Int)(n:Nat):Turn P w K tg (Up lo n) [it] it (λi h=>IsRangeIter h it (lo + (i:Nat) * 1) ((n:Int) - (i:Nat)) 1) where
 mem:=by simp
 obj:=λi h st b hb=>by
  have e:b=it:=by simpa using hb
  subst e
  exact⟨_,st,λv z=>by
   have z':Data.fields _=Data.cell v:=z;cases z'⟩
 keep:=λi h h' st k=>k it (by simp) _ st
 item:=by
  intro X hP hw hK hc i pins s σ H E I hf st hg;subst hP hw hK;obtain⟨f0,f1,f2,f3,f4,f5⟩:=hf it (by simp);have W:=Walks.range (prog:=X.prog) (w:=X.w) (I.ok.hd hc) it lo 1 n;refine W.item i s _ _ hg st λv h' tk hv st' kk=>?_
  obtain⟨t,rfl⟩:=hv;have I1:Inv X pins σ H {s with heap:=h',toks:=tk}:=I.turned (λb o hb e=>kk b o (by simpa using hb) e) f0 f1 f3 f4 f5;refine⟨_,rfl,HS (s:={s with heap:=h',toks:=tk}) (n:="range_iterator") st' rfl rfl (by decide) ⟨.int (lo + i),H,I1,⟨t,?_⟩,⟨rfl,rfl⟩,st',λb hb=>(hf b hb).1⟩⟩;rw[Int.mul_one]
 done:=by
  intro X hP hw hK hc i pins s σ H E I hf st hg;subst hP hw hK;obtain⟨f0,f1,f2,f3,f4,f5⟩:=hf it (by simp);exact wpAny_pyNext_range_end (I.ok.hd hc) st (by have:n<=i:=hg;omega) λh' eb=>⟨rfl,I.turned (t':=s.toks) (λb o hb e=>eb b o hb e) f0 f1 f3 f4 f5⟩
 self:=λ_ _ _ _ _ st h=>wpAny_pyIter_rangeiter st h
section
variable {X:Cx} {tg:Expr}
def Uq(K:ay)(tl:TE):TI:=λσ H R=>tl σ H λx H1=>∃a,x=.ref a/\(∃xs,bg K H1 a xs)/\R (Qe K a) H1
theorem iG{l:Expr}{tl:TE}(hl:PE X l tl):PI X tg l (Uq X.K tl):=by
 intro pins s σ H R I h;refine cg (hl pins s σ H _ I h) λv s1 ⟨x,H1,I1,r1,q1⟩=>?_
 obtain⟨a,e,⟨xs,hq⟩,q⟩:=q1;subst e;cases r1;obtain⟨its,rv,p,hz⟩:=I1.list hq;refine wpAny_pyIter_list p.isList ?_;refine⟨s1.heap.objs.size,[s1.heap.objs.size],_,_,H1,rfl,I1.kept (t':=s1.toks) λb o e=>Heap.get?_push_of_some _ e,xE a _,⟨_,Heap.get?_push_size _ rfl,rfl,rfl⟩,λb hb=>?_,q⟩;have e:b=s1.heap.objs.size:=by simpa using hb
 subst e;exact I1.Na (aaZ _) (I1.hok.fresh (aaZ _))
theorem HU{pins:List (Addr×Obj)}{σ:St}{H:Hp}{s:Shared}{R:It->Hp->Prop}{E:Value->Shared->Prop}{lo hi:Int}{t u v:Tok}{tk:Nat}(I:Inv X pins σ H s)(h1:-(2 ^ 62)<=lo)(h2:lo < 2 ^ 62)(h3:-(2 ^ 62)<=hi)(h4:hi < 2 ^ 62)
  (q:R (Up lo (hi - lo).toNat) H):wpAny (model X.prog X.w) X.A (pyIter (.ref s.heap.objs.size)) (PIE X pins σ tg R) E {s with heap:=s.heap.push {cls:=.type "range",data:=.fields #[.int lo t,.int hi u,.int 1 v]},toks:=tk}:=by
 refine wpAny_pyIter_range (IsRange.new ..) (small_one h1 h2 h3 h4) ?_;have I1:Inv X pins σ H {s with heap:=s.heap.push {cls:=.type "range",data:=.fields #[.int lo t,.int hi u,.int 1 v]},toks:=tk}:=I.kept λb o e=>aaa _ e
 refine⟨(s.heap.push {cls:=.type "range",data:=.fields #[.int lo t,.int hi u,.int 1 v]}).objs.size,[(s.heap.push {cls:=.type "range",data:=.fields #[.int lo t,.int hi u,.int 1 v]}).objs.size],_,_,H,rfl,
  I1.kept (t':=tk) λb o e=>aaa _ e,CH _ lo (hi - lo).toNat,?_,λb hb=>?_,q⟩
 ·have e1:lo + ((0:Nat):Int) * 1=lo:=by simp
  have e2:(((hi - lo).toNat:Nat):Int) - ((0:Nat):Int)=Builtin.Range.rangeSize lo hi 1:=by rw[rangeSize_one];split<;>omega
  show IsRangeIter _ _ (lo + ((0:Nat):Int) * 1) ((((hi - lo).toNat:Nat):Int) - ((0:Nat):Int)) 1;rw[e1,e2];exact aa8 _ rfl
 ·have e:b=(s.heap.push {cls:=.type "range",data:=.fields #[.int lo t,.int hi u,.int 1 v]}).objs.size:=by simpa using hb
  subst e;exact I1.Na (aaZ _) (I1.hok.fresh (aaZ _))
def Ur(ta:TA):TI:=λσ H R=>ta σ H λvs H1=>∃j:Int,vs=[.int j]/\-(2 ^ 62)<=j/\j < 2 ^ 62/\R (Up 0 j.toNat) H1
theorem xF{a:Expr}{ta:TA}{p pos:Pos}(hg:Gl X "range")(hm:X.mg "range"=none)(ha:PA X [a] ta)(hs:starEach [a] X.env=[(false,eval a X.env)]:=by rfl):PI X tg (.Call (.Name "range" p) [a] [] pos) (Ur ta):=by
 intro pins s σ H R I h;refine Call_ (uU I hg hm boot_range (ab1 (cg (ha pos pins s σ H _ I h) λus s1 ⟨vs,H1,I1,r1,q1⟩=>?_) hs rfl));obtain⟨j,e,q1,q2,q⟩:=q1;subst e
 cases r1 with
 | cons r rr =>
  cases rr;obtain⟨t,rfl⟩:=r;exact call_range_1 (HU I1 (by omega) (by omega) q1 q2 (by simpa using q))
def Xp(wi:TI)(g:TG)(tb:TS):TS:=λD σ H=>wi σ H λJ H1=>∃W:Nat->Nat->St->Hp->Prop,(∃m,W 0 m σ H1)/\∀i m σ H,W i m σ H ->
 (J.stop i H/\D.nx σ H)∨(J.go i H/\∃N:St->Hp->Prop,(∀σ' H',N σ' H'->∃m',m' < m/\W (i + 1) m' σ' H')/\∀x H',J.yld i H x H'->g x σ H' λσ2 H2=>tb {D with nx:=N,ct:=N,bk:=D.nx} σ2 H2)
def uY(fp:List Addr)(h:Heap):List (Addr×Obj):=fp.filterMap λb=>(h.get? b).map λo=>(b,o)
theorem jB{fp:List Addr}{h:Heap}{b:Addr}{o:Obj}(hb:b∈fp)(e:h.get? b=some o):(b,o)∈uY fp h:=acq.mpr ⟨b,hb,by rw[e];rfl⟩
theorem FC{fp:List Addr}{h:Heap}{p:Addr×Obj}(hp:p∈uY fp h):p.1∈fp/\h.get? p.1=some p.2:=by
 obtain⟨b,hb,e⟩:=acq.mp hp
 cases q:h.get? b with
 | none=>rw[q]at e;cases e
 | some o =>
  rw[q]at e;have e':(b,o)=p:=abc e;subst e';exact⟨hb,q⟩
theorem Inv.pinned{pins:List (Addr×Obj)}{σ:St}{H:Hp}{s:Shared}{fp:List Addr}(I:Inv X pins σ H s)(hf:∀b∈fp,qp X pins H b)(ho:∀b∈fp,∃o,s.heap.get? b=some o/\∀v,o.data≠.cell v):Inv X (pins++uY fp s.heap) σ H s :=
 I.Et λp hp=>(abw.mp hp).elim (λz=>I.pin p (abf _ z)) λz=>by
  obtain⟨hb,e⟩:=FC z;obtain⟨f0,f1,f2,_⟩:=hf p.1 hb;obtain⟨o,e',d⟩:=ho p.1 hb;rw[e]at e';cases e';exact⟨e,f0,f1,f2,d⟩
theorem Inv.qr{pins pl:List (Addr×Obj)}{σ:St}{H:Hp}{s:Shared}(I:Inv X (pins++pl) σ H s):Inv X pins σ H s:=I.Et λp hp=>I.pin p (abf _ (abx _ hp))
theorem uZ{iter:Expr}{body:List Stmt}{wi:TI}{g:TG}{tb:TS}{pos:Pos}(hp:PassesOwn (model X.prog X.w) X.A X.env X.xe)(hc:X.calm=true)(hi:PI X tg iter wi)(hg:PG X tg g)(hb:sQ X body tb)
  (hs:∀x,foldedSetIterable iter X.env x=pure x:=by intro _;rfl):PS X (.For tg iter body [] pos) (Xp wi g tb):=by
 intro pins s σ H D I h;refine wpAny_For (cg (hi pins s σ H _ I h) λv s1 h1=>cg h1 λitv s2 h2=>?_) hs;obtain⟨it,fp,tn,J,H2,e,I2,T,cZ,f2,W,⟨m0,w0⟩,turn⟩:=h2;subst e;have stat:∀{H':Hp},(∀b∈fp,H' b=none)->∀b∈fp,qp X pins H' b:=λhn b hb=>⟨hn b hb,(f2 b hb).2⟩
 refine codeAny_forLoop_any (λn s'=>∃i σ' H',Inv X pins σ' H' s'/\tn i s'.heap/\(∀b∈fp,H' b=none)/\W i n σ' H') ?_ m0 ⟨0,σ,H2,I2,cZ,λb hb=>(f2 b hb).1,w0⟩;rintro n s3 ⟨i,σ3,H3,I3,rN,fr3,w3⟩;rcases turn i n σ3 H3 w3 with⟨stop,qn⟩ | ⟨go,N,hN,step⟩
 ·refine abL hp (cg (T.done X rfl rfl rfl hc i pins s3 σ3 H3 X.xe I3 (stat fr3) rN stop) λr s4 ⟨hr,I4⟩=>?_);subst hr;exact abU ⟨σ3,H3,I4,qn⟩
 ·refine abL hp (cg (T.item X rfl rfl rfl hc i pins s3 σ3 H3 X.xe I3 (stat fr3) rN go) λr s4 ⟨u,hr,h4⟩=>?_);subst hr;refine abL hp (cg h4 λ_ s5 ⟨x,H5,I5,r5,y5,CI,WE⟩=>?_);have I5':=I5.pinned (stat WE) (T.obj _ _ CI);refine abL hp (cg (hg _ s5 σ3 H5 x u _ I5' r5 (step x H5 y5)) λ_ s6 ⟨σ6,H6,I6,q6⟩=>?_);refine abL hp (cg (hb _ s6 σ6 H6 _ I6 q6) λf s7 q7=>?_)
  have again:∀{σ7:St} {H7:Hp},Inv X (pins++uY fp s5.heap) σ7 H7 s7->N σ7 H7->∃m,m < n/\∃i σ' H',Inv X pins σ' H' s7/\tn i s7.heap/\(∀b∈fp,H' b=none)/\W i m σ' H':=λ{σ7 H7} I7 n7=>by
   obtain⟨m',hm,w7⟩:=hN σ7 H7 n7;refine⟨m',hm,i + 1,σ7,H7,I7.qr,T.keep _ _ _ CI λb hb o e=>(I7.pin (b,o) (abf _ (abf _ (jB hb e)))).1,λb hb=>?_,w7⟩;obtain⟨o,e,d⟩:=T.obj _ _ CI b hb;exact(I7.pin (b,o) (abf _ (abf _ (jB hb e)))).2.1
  cases f with
  | next=>obtain⟨σ7,H7,I7,n7⟩:=q7;exact again I7 n7
  | cont=>obtain⟨σ7,H7,I7,n7⟩:=q7;exact again I7 n7
  | brk=>obtain⟨σ7,H7,I7,q7⟩:=q7;exact⟨σ7,H7,I7.qr,q7⟩
  | ret v=>obtain⟨x7,σ7,H7,I7,r7,q7⟩:=q7;exact⟨x7,σ7,H7,I7.qr,r7,q7⟩
end
theorem va{K:ay}{a:Addr}{xs:List V}{g:TG}{tb:TS}{D:Ends}{σ:St}{H:Hp}(Pv:Nat->St->Hp->Prop)(h0:Pv 0 σ H)(hl:∀i σ H,i<=xs.length->Pv i σ H->bg K H a xs)
  (hs:∀i x σ H,xs[i]?=some x->Pv i σ H->g x σ H λσ2 H2=>tb {D with nx:=Pv (i + 1),ct:=Pv (i + 1),bk:=D.nx} σ2 H2) (hd:∀σ H,Pv xs.length σ H->D.nx σ H) :
  ∃W:Nat->Nat->St->Hp->Prop,(∃m,W 0 m σ H)/\∀i m σ H,W i m σ H ->
   ((Qe K a).stop i H/\D.nx σ H)∨((Qe K a).go i H/\∃N:St->Hp->Prop,(∀σ' H',N σ' H'->∃m',m' < m/\W (i + 1) m' σ' H')/\∀x H',(Qe K a).yld i H x H'->g x σ H' λσ2 H2=>tb {D with nx:=N,ct:=N,bk:=D.nx} σ2 H2):=by
 refine⟨λi m σ H=>m=xs.length - i/\i<=xs.length/\Pv i σ H,⟨xs.length,by simp,Nat.zero_le _,h0⟩,?_⟩;rintro i m σ H ⟨rfl,hi,p⟩;have q:=hl i σ H hi p;by_cases hlt:i < xs.length
 ·refine .inr ⟨⟨xs,xs[i],q,by simp[hlt]⟩,Pv (i + 1),λσ' H' p'=>⟨xs.length - (i + 1),by omega,rfl,hlt,p'⟩,λx H' y=>?_⟩;obtain⟨e,y⟩:=y;subst e;exact hs i x σ _ (y xs q) p
 ·have e:i=xs.length:=by omega
  subst e;exact .inl ⟨⟨xs,q,aaZ _⟩,hd σ H p⟩
theorem Aa{c:TT}{tb:TS}{D:Ends}{σ:St}{H:Hp}(Pv:St->Hp->Prop)(μ:St->Hp->Nat)(h0:Pv σ H)
  (hs:∀σ H,Pv σ H->c σ H λb H1=>if b=true then tb {D with nx:=λσ' H'=>Pv σ' H'/\μ σ' H' < μ σ H,ct:=λσ' H'=>Pv σ' H'/\μ σ' H' < μ σ H,bk:=D.nx} σ H1 else D.nx σ H1)
  (mono:∀σ H Q Q',(∀b H1,Q b H1->Q' b H1)->c σ H Q->c σ H Q'):HR c tb D σ H:=by
 refine⟨λm σ H=>m=μ σ H/\Pv σ H,⟨_,rfl,h0⟩,?_⟩;rintro m σ H ⟨rfl,p⟩;refine mono σ H _ _ (λb H1 q=>?_) (hs σ H p)
 cases b with
 | true=>exact⟨_,λσ' H' ⟨p',l⟩=>⟨_,l,rfl,p'⟩,q⟩
 | false=>exact q
abbrev R2:=V->V->Hp->VK->Prop
def iE(X:Cx)(f:Value->Value->Sem Value)(r:R2):Prop :=
 ∀(pins:List (Addr×Obj)) (s:Shared) (σ:St) (H:Hp) (x y:V) (v u:Value) (Q:VK),Inv X pins σ H s->RelV x v->RelV y u->r x y H Q ->
  wpAny (model X.prog X.w) X.A (f v u) (EP X pins σ Q) X.xe s
def Xq(X:Cx)(f:Value->Sem Value)(r:V->Hp->VK->Prop):Prop :=
 ∀(pins:List (Addr×Obj)) (s:Shared) (σ:St) (H:Hp) (x:V) (v:Value) (Q:VK),Inv X pins σ H s->RelV x v->r x H Q ->
  wpAny (model X.prog X.w) X.A (f v) (EP X pins σ Q) X.xe s
def fB(X:Cx)(f:Value)(r:List V->Hp->VK->Prop):Prop :=
 ∀(pins:List (Addr×Obj)) (s:Shared) (σ:St) (H:Hp) (xs:List V) (us:List Value) (Q:VK),Inv X pins σ H s->Vals xs us->r xs H Q ->
  wpAny (model X.prog X.w) X.A (call f us) (EP X pins σ Q) X.xe s
def Us(r:R2)(ta tb:TE):TE:=λσ H Q=>ta σ H λx H1=>tb σ H1 λy H2=>r x y H2 Q
def tUn(r:V->Hp->VK->Prop)(ta:TE):TE:=λσ H Q=>ta σ H λx H1=>r x H1 Q
def rI(C:Int->Int->Prop)(g:Int->Int->V):R2:=λx y H Q=>∃i j,x=.int i/\y=.int j/\C i j/\Q (g i j) H
def HV(g:Int->Int->V):R2:=λx y H Q=>∃i j,x=.int i/\y=.int j/\Q (g i j) H
def rU(g:Int->V):V->Hp->VK->Prop:=λx H Q=>∃i,x=.int i/\Q (g i) H
section
variable {X:Cx} {a b c:Expr} {ta tb tc:TE} {pos:Pos}
theorem QW(ha:PE X a ta)(hb:PE X b tb){pins:List (Addr×Obj)}{s:Shared}{σ:St}{H:Hp}{R:V->V->Hp->Prop}(I:Inv X pins σ H s)
  (h:ta σ H λx H1=>tb σ H1 λy H2=>R x y H2) {Q:Value->Shared->Prop} {f:Value->Value->Sem Value}
  (hf:∀v u s2 x y H2,Inv X pins σ H2 s2->RelV x v->RelV y u->R x y H2->wpAny (model X.prog X.w) X.A (f v u) Q X.xe s2) :
  wpAny (model X.prog X.w) X.A (eval a X.env) (λv s₁=>wpAny (model X.prog X.w) X.A (eval b X.env) (λu s₂=>wpAny (model X.prog X.w) X.A (f v u) Q X.xe s₂) X.xe s₁) X.xe s:=by
 refine cg (ha pins s σ H _ I h) λv s1 ⟨x,H1,I1,r1,q1⟩=>?_
 refine cg (hb pins s1 σ H1 _ I1 q1) λu s2 ⟨y,H2,I2,r2,q2⟩=>?_
 exact hf v u s2 x y H2 I2 r1 r2 q2
theorem a9{op:Operator}{r:R2}(ho:iE X (binaryOp op) r)(ha:PE X a ta)(hb:PE X b tb):PE X (.BinOp a op b pos) (Us r ta tb):=by
 intro pins s σ H Q I h;exact wpAny_BinOp (QW ha hb I h λv u s2 x y H2 I2 rx ry q=>ho pins s2 σ H2 x y v u Q I2 rx ry q)
theorem vb{op:UnaryOp}{r:V->Hp->VK->Prop}(ho:Xq X (unaryOp op) r)(ha:PE X a ta):PE X (.UnaryOp op a pos) (tUn r ta):=by
 intro pins s σ H Q I h;exact UnaryOp_ (cg (ha pins s σ H _ I h) λv s1 ⟨x,H1,I1,r1,q1⟩=>ho pins s1 σ H1 x v Q I1 r1 q1)
theorem TM{f:Value->Value->Sem Value}{C:Int->Int->Prop}{g:Int->Int->Int}
  (rule:∀(i j:Int) (t u:Tok) (s:Shared) (Q:Value->Shared->Prop) (E:Value->Shared->Prop),C i j->Q (.int (g i j) s.toks) {s with toks:=s.toks + 1}->wpAny (model X.prog X.w) X.A (f (.int i t) (.int j u)) Q E s) :
  iE X f (rI C λi j=>.int (g i j)):=by
 intro pins s σ H x y v u Q I rx ry h;obtain⟨i,j,rfl,rfl,hc,q⟩:=h;obtain⟨t,rfl⟩:=rx;obtain⟨t',rfl⟩:=ry;exact rule i j t t' s _ _ hc ⟨.int (g i j),H,I.tok _,⟨_,rfl⟩,q⟩
theorem QX{f:Value->Value->Sem Value}{g:Int->Int->Int}
  (rule:∀(i j:Int) (t u:Tok) (s:Shared) (Q:Value->Shared->Prop) (E:Value->Shared->Prop),Q (.int (g i j) s.toks) {s with toks:=s.toks + 1}->wpAny (model X.prog X.w) X.A (f (.int i t) (.int j u)) Q E s) :
  iE X f (HV λi j=>.int (g i j)):=by
 intro pins s σ H x y v u Q I rx ry h;obtain⟨i,j,rfl,rfl,q⟩:=h;obtain⟨t,rfl⟩:=rx;obtain⟨t',rfl⟩:=ry;exact rule i j t t' s _ _ ⟨.int (g i j),H,I.tok _,⟨_,rfl⟩,q⟩
theorem Nb{f:Value->Value->Sem Value}{g:Int->Int->Bool}
  (rule:∀(i j:Int) (t u:Tok) (s:Shared) (Q:Value->Shared->Prop) (E:Value->Shared->Prop),Q (.bool (g i j)) s->wpAny (model X.prog X.w) X.A (f (.int i t) (.int j u)) Q E s) :
  iE X f (HV λi j=>.bl (g i j)):=by
 intro pins s σ H x y v u Q I rx ry h;obtain⟨i,j,rfl,rfl,q⟩:=h;obtain⟨t,rfl⟩:=rx;obtain⟨t',rfl⟩:=ry;exact rule i j t t' s _ _ ⟨.bl (g i j),H,I,rfl,q⟩
def Xr(i j:Int):Prop:=0 < j/\j < 1073741824
def Xs(i j:Int):Prop:=0<=j/\j<=1000000/\i.natAbs < 2 ^ 64
def QY(i j:Int):Prop:=(-(2 ^ 64) < i/\i < 2 ^ 64)∨(-(2 ^ 64) < j/\j < 2 ^ 64)
theorem QY.ok{i j:Int}(h:QY i j):IntMulOk i j:=by
 rcases h with⟨h1,h2⟩ | ⟨h1,h2⟩
 ·exact .of_left (intBits_le_64 h1 h2)
 ·exact .of_right (intBits_le_64 h1 h2)
theorem kS:iE X (binaryOp .Add) (HV λi j=>.int (i + j)):=QX λ_ _ _ _ _ _ _ q=>add_int q
theorem gH:iE X (binaryOp .Sub) (HV λi j=>.int (i - j)):=QX λ_ _ _ _ _ _ _ q=>sub_int q
theorem CJ:iE X (binaryOp .Mult) (rI QY λi j=>.int (i * j)):=TM λ_ _ _ _ _ _ _ hc q=>mul_int q hc.ok
theorem nW:iE X (binaryOp .FloorDiv) (rI Xr λi j=>.int (i / j)):=TM λi j _ _ _ _ _ hc q=>by
 have h1:(0:Int) < j:=hc.1;have h2:j < 1073741824:=hc.2;exact floordiv_int (by omega) (by rw[acs i (by omega)];exact q) (.inl (PyProof.noPylong_small (by omega)))
theorem fM:iE X (binaryOp .Mod) (rI (λ_ j=>0 < j) λi j=>.int (i % j)):=TM λi j _ _ _ _ _ hc q=>by
 have h1:(0:Int) < j:=hc;exact mod_int' (by omega) (by rw[Int.fmod_eq_emod_of_nonneg i (by omega)];exact q)
theorem HW:iE X (binaryOp .LShift) (rI Xs λi j=>.int (i * 2 ^ j.toNat)):=TM λ_ _ _ _ _ _ _ hc q=>lshift_int_small hc.1 hc.2.1 hc.2.2 q
theorem QZ:iE X (binaryOp .BitAnd) (HV λi j=>.int (Builtin.bitAnd i j)):=QX λ_ _ _ _ _ _ _ q=>and_int q
theorem unI{f:Value->Sem Value}{g:Int->Int}
  (rule:∀(i:Int) (t:Tok) (s:Shared) (Q:Value->Shared->Prop) (E:Value->Shared->Prop),Q (.int (g i) s.toks) {s with toks:=s.toks + 1}->wpAny (model X.prog X.w) X.A (f (.int i t)) Q E s) :
  Xq X f (rU λi=>.int (g i)):=by
 intro pins s σ H x v Q I rx h;obtain⟨i,rfl,q⟩:=h;obtain⟨t,rfl⟩:=rx;exact rule i t s _ _ ⟨.int (g i),H,I.tok _,⟨_,rfl⟩,q⟩
theorem oV:Xq X (unaryOp .USub) (rU λi=>.int (-i)):=unI λ_ _ _ _ _ q=>neg_int q
end
def Ut:V->V->Bool
 | .non,.non=>true | .non,.int _=>true | .int _,.non=>true | .non,.bl _=>true | .bl _,.non=>true | .non,.str _=>true | .str _,.non=>true
 | .int _,.int _=>true | .bl _,.bl _=>true | .str _,.str _=>true | .byt _,.byt _=>true
 | .int _,.str _=>true | .str _,.int _=>true | .bl _,.str _=>true | .str _,.bl _=>true
 | _,_=>false
def rEq:R2:=λx y H Q=>Ut x y=true/\Q (.bl (decide (x=y))) H
def rNe:R2:=λx y H Q=>Ut x y=true/\Q (.bl (!decide (x=y))) H
theorem Ew{i j:Int}:decide (V.int i=V.int j)=(i == j):=by
 rw[Bool.eq_iff_iff];simp
theorem HY{i j:Bool}:decide (V.bl i=V.bl j)=(i == j):=by
 rw[Bool.eq_iff_iff];simp
theorem Ey{i j:Str}:decide (V.str i=V.str j)=(i == j):=by
 rw[Bool.eq_iff_iff];simp
theorem Ez{i j:Array UInt8}:decide (V.byt i=V.byt j)=(i.toList == j.toList):=by
 rw[Bool.eq_iff_iff];cases i;cases j;simp
section
variable {X:Cx} {a b c:Expr} {ta tb tc:TE} {pos:Pos}
theorem bj{pins:List (Addr×Obj)}{σ:St}{H:Hp}{s:Shared}{Q:VK}{k k':Bool}(I:Inv X pins σ H s)(q:Q (.bl k) H)(e:k=k'):EP X pins σ Q (.bool k') s:=by
 subst e;exact⟨.bl k,H,I,rfl,q⟩
theorem cm:iE X (compareOp .Eq) rEq:=by
 intro pins s σ H x y v u Q I rx ry h;obtain⟨hs,q⟩:=h
 cases x with
 | non =>
  cases rx
  cases y with
  | non=>cases ry;exact PySem.EqNone.eq_none_none (bj I q (by simp))
  | bl j=>cases ry;exact PySem.EqNone.eq_none_bool (bj I q (by simp))
  | int j=>obtain⟨t',rfl⟩:=ry;exact PySem.EqNone.eq_none_int (bj I q (by simp))
  | str j=>obtain⟨t',rfl⟩:=ry;exact PySem.EqNone.eq_none_str (bj I q (by simp))
  | _=>exact absurd (show false=true from hs) aac
 | bl i =>
  cases rx
  cases y with
  | non=>cases ry;exact PySem.EqNone.eq_bool_none (bj I q (by simp))
  | bl j=>cases ry;exact eq_bool (bj I q HY)
  | str j=>obtain⟨t',rfl⟩:=ry;exact PySem.EqMixed.eq_bool_str (bj I q (by simp))
  | _=>exact absurd (show false=true from hs) aac
 | int i =>
  obtain⟨t,rfl⟩:=rx
  cases y with
  | non=>cases ry;exact PySem.EqNone.eq_int_none (bj I q (by simp))
  | int j=>obtain⟨t',rfl⟩:=ry;exact eq_int (bj I q Ew)
  | str j=>obtain⟨t',rfl⟩:=ry;exact PySem.EqMixed.eq_int_str (bj I q (by simp))
  | _=>exact absurd (show false=true from hs) aac
 | str i =>
  obtain⟨t,rfl⟩:=rx
  cases y with
  | non=>cases ry;exact PySem.EqNone.eq_str_none (bj I q (by simp))
  | bl j=>cases ry;exact PySem.EqMixed.eq_str_bool (bj I q (by simp))
  | int j=>obtain⟨t',rfl⟩:=ry;exact PySem.EqMixed.eq_str_int (bj I q (by simp))
  | str j=>obtain⟨t',rfl⟩:=ry;exact eq_str (bj I q Ey)
  | _=>exact absurd (show false=true from hs) aac
 | byt i =>
  obtain⟨t,rfl⟩:=rx
  cases y with
  | byt j=>obtain⟨t',rfl⟩:=ry;exact PySem.W.eq_bytes (bj I q Ez)
  | _=>exact absurd (show false=true from hs) aac
 | _=>cases y<;>exact absurd (show false=true from hs) aac
theorem Qf:iE X (compareOp .NotEq) rNe:=by
 intro pins s σ H x y v u Q I rx ry h;obtain⟨hs,q⟩:=h
 cases x with
 | non =>
  cases rx
  cases y with
  | non=>cases ry;exact PySem.EqNone.ne_none_none (bj I q (by simp))
  | bl j=>cases ry;exact PySem.EqNone.ne_none_bool (bj I q (by simp))
  | int j=>obtain⟨t',rfl⟩:=ry;exact PySem.EqNone.ne_none_int (bj I q (by simp))
  | str j=>obtain⟨t',rfl⟩:=ry;exact PySem.EqNone.ne_none_str (bj I q (by simp))
  | _=>exact absurd (show false=true from hs) aac
 | bl i =>
  cases rx
  cases y with
  | non=>cases ry;exact PySem.EqNone.ne_bool_none (bj I q (by simp))
  | bl j=>cases ry;exact ne_bool (bj I q (acp not HY))
  | str j=>obtain⟨t',rfl⟩:=ry;exact PySem.EqMixed.ne_bool_str (bj I q (by simp))
  | _=>exact absurd (show false=true from hs) aac
 | int i =>
  obtain⟨t,rfl⟩:=rx
  cases y with
  | non=>cases ry;exact PySem.EqNone.ne_int_none (bj I q (by simp))
  | int j=>obtain⟨t',rfl⟩:=ry;exact ne_int (bj I q (acp not Ew))
  | str j=>obtain⟨t',rfl⟩:=ry;exact PySem.EqMixed.ne_int_str (bj I q (by simp))
  | _=>exact absurd (show false=true from hs) aac
 | str i =>
  obtain⟨t,rfl⟩:=rx
  cases y with
  | non=>cases ry;exact PySem.EqNone.ne_str_none (bj I q (by simp))
  | bl j=>cases ry;exact PySem.EqMixed.ne_str_bool (bj I q (by simp))
  | int j=>obtain⟨t',rfl⟩:=ry;exact PySem.EqMixed.ne_str_int (bj I q (by simp))
  | str j=>obtain⟨t',rfl⟩:=ry;exact ne_str (bj I q (acp not Ey))
  | _=>exact absurd (show false=true from hs) aac
 | byt i =>
  obtain⟨t,rfl⟩:=rx
  cases y with
  | byt j=>obtain⟨t',rfl⟩:=ry;exact PySem.W.ne_bytes (bj I q (acp not Ez))
  | _=>exact absurd (show false=true from hs) aac
 | _=>cases y<;>exact absurd (show false=true from hs) aac
theorem xG:iE X (compareOp .Lt) (HV λi j=>.bl (decide (i < j))):=Nb λ_ _ _ _ _ _ _ q=>lt_int q
theorem EA:iE X (compareOp .LtE) (HV λi j=>.bl (decide (i<=j))):=Nb λ_ _ _ _ _ _ _ q=>le_int q
theorem HZ:iE X (compareOp .Gt) (HV λi j=>.bl (decide (j < i))):=Nb λ_ _ _ _ _ _ _ q=>gt_int q
theorem Uu:iE X (compareOp .GtE) (HV λi j=>.bl (decide (j<=i))):=Nb λ_ _ _ _ _ _ _ q=>ge_int q
theorem vc:iE X (compareOp .Is) (λx y H Q=>y=.non/\Q (.bl (decide (x=.non))) H):=by
 intro pins s σ H x y v u Q I rx ry h;obtain⟨rfl,q⟩:=h;cases ry;refine is_none_gen (bj I q ?_);cases x<;>first
  | (cases rx;rfl)
  | (obtain⟨t,rfl⟩:=rx;rfl)
theorem yB:iE X (compareOp .IsNot) (λx y H Q=>y=.non/\Q (.bl (!decide (x=.non))) H):=by
 intro pins s σ H x y v u Q I rx ry h;obtain⟨rfl,q⟩:=h;cases ry;refine isnot_none_gen (bj I q ?_);cases x<;>first
  | (cases rx;rfl)
  | (obtain⟨t,rfl⟩:=rx;rfl)
theorem aP(b:Expr){op:CmpOp}(h:op≠.In:=by decide)(h2:op≠.NotIn:=by decide):behindInMarks op b=false:=by
 have e1:(op == CmpOp.In)=false:=by cases op<;>first | rfl | exact absurd rfl h
 have e2:(op == CmpOp.NotIn)=false:=by cases op<;>first | rfl | exact absurd rfl h2
 cases b<;>simp[behindInMarks,e1,e2]
theorem nX{op:CmpOp}{r:R2}(ho:iE X (compareOp op) r)(ha:PE X a ta)(hb:PE X b tb)(hm:behindInMarks op b=false):PE X (.Compare a [op] [b] pos) (Us r ta tb):=by
 intro pins s σ H Q I h;exact wpAny_Compare1 (QW ha hb I h λv u s2 x y H2 I2 rx ry q=>ho pins s2 σ H2 x y v u Q I2 rx ry q) hm
def Ia(t:TE):TT:=λσ H Q=>t σ H λx H'=>∃k,x=.bl k/\Q k H'
theorem tR{op:CmpOp}{r:R2}(ho:iE X (compareOp op) r)(ha:PE X a ta)(hb:PE X b tb)(hm:behindInMarks op b=false):PT X (.Compare a [op] [b] pos) (Ia (Us r ta tb)):=by
 intro pins s σ H Q I h
 refine wpAny_isTrue_Compare1 (cg (ha pins s σ H _ I h) λv s1 ⟨x,H1,I1,r1,q1⟩=>cg (hb pins s1 σ H1 _ I1 q1) λu s2 ⟨y,H2,I2,r2,q2⟩ =>
  cg (ho pins s2 σ H2 x y v u _ I2 r1 r2 q2) λc s3 ⟨z,H3,I3,r3,k,e,q3⟩=>?_) hm
 subst e;cases r3;exact abM ⟨H3,I3,q3⟩
def Ib(r r':R2)(ta tb tc:TE):TE:=λσ H Q=>ta σ H λx H1=>tb σ H1 λy H2=>r x y H2 λz H3=>∃k,z=.bl k /\
 (if k=true then tc σ H3 λw' H4=>r' y w' H4 Q else Q (.bl false) H3)
theorem vd{op op':CmpOp}{r r':R2}(ho:iE X (compareOp op) r)(ho':iE X (compareOp op') r')(ha:PE X a ta)(hb:PE X b tb)(hc:PE X c tc)
  (hm:lastMarks [op,op'] [b,c]=false:=by with_unfolding_all rfl):PT X (.Compare a [op,op'] [b,c] pos) (Ia (Ib r r' ta tb tc)):=by
 intro pins s σ H Q I h
 refine isTrue_chain (cg (ha pins s σ H _ I h) λv s1 ⟨x,H1,I1,r1,q1⟩=>test_link (cg (hb pins s1 σ H1 _ I1 q1) λu s2 ⟨y,H2,I2,r2,q2⟩ =>
  cg (ho pins s2 σ H2 x y v u _ I2 r1 r2 q2) λd s3 ⟨z,H3,I3,r3,k,e,q3⟩=>?_)) hm
 subst e;cases r3;refine abM ?_
 cases k with
 | false =>
  obtain⟨k',e',q'⟩:=q3;cases e';exact ite_ff ⟨H3,I3,q'⟩
 | true =>
  refine ite_tt (test_last (cg (hc pins s3 σ H3 _ I3 q3) λw' s4 ⟨z',H4,I4,r4,q4⟩=>cg (ho' pins s4 σ H4 y z' u w' _ I4 r2 r4 q4) λd' s5 ⟨z2,H5,I5,r5,k2,e2,q5⟩=>?_));subst e2;cases r5;exact abM ⟨H5,I5,q5⟩
theorem rO:(sizeLine:Nat) < 2 ^ 63:=by rw[sizeLine_eq];decide
theorem CK:iE X (binaryOp .Add) (λx y H Q=>∃i j,x=.str i/\y=.str j/\i.length + j.length<=sizeLine/\Q (.str (i++j)) H):=by
 intro pins s σ H x y v u Q I rx ry h;obtain⟨i,j,rfl,rfl,hz,q⟩:=h;obtain⟨t,rfl⟩:=rx;obtain⟨t',rfl⟩:=ry;exact add_str (λt' tk=>⟨.str (i++j),H,I.tok _,⟨_,rfl⟩,q⟩) hz
theorem vals1{x:V}{us:List Value}(r:Vals [x] us):∃u,us=[u]/\RelV x u:=by
 cases r with
 | cons r1 r2=>cases r2;exact⟨_,rfl,r1⟩
theorem vals2{x y:V}{us:List Value}(r:Vals [x,y] us):∃u w',us=[u,w']/\RelV x u/\RelV y w':=by
 cases r with
 | cons r1 r2 =>
  cases r2 with
  | cons r3 r4=>cases r4;exact⟨_,_,rfl,r1,r3⟩
theorem xH(hc:X.calm=true):fB X (.builtin "max") (λxs H Q=>∃i j,xs=[.int i,.int j]/\Q (.int (if j > i then j else i)) H):=by
 intro pins s σ H xs us Q I r h;obtain⟨i,j,rfl,q⟩:=h;obtain⟨u,w',rfl,⟨t,rfl⟩,⟨t',rfl⟩⟩:=vals2 r;refine max_two_ints (I.ok.hd hc) λh' tk k=>⟨_,H,I.kept k,?_,q⟩
 by_cases hj:j > i
 ·rw[aa7 hj,aa7 hj];exact⟨_,rfl⟩
 ·rw[aa4 hj,aa4 hj];exact⟨_,rfl⟩
theorem FD(hc:X.calm=true):fB X (.builtin "min") (λxs H Q=>∃i j,xs=[.int i,.int j]/\Q (.int (if j < i then j else i)) H):=by
 intro pins s σ H xs us Q I r h;obtain⟨i,j,rfl,q⟩:=h;obtain⟨u,w',rfl,⟨t,rfl⟩,⟨t',rfl⟩⟩:=vals2 r;refine min_two_ints (I.ok.hd hc) λh' tk k=>⟨_,H,I.kept k,?_,q⟩
 by_cases hj:j < i
 ·rw[aa7 hj,aa7 hj];exact⟨_,rfl⟩
 ·rw[aa4 hj,aa4 hj];exact⟨_,rfl⟩
theorem FE:fB X (.type "int") (λxs H Q=>(∃i,xs=[.int i]/\Q (.int i) H)∨∃k,xs=[.bl k]/\Q (.int (if k then 1 else 0)) H):=by
 intro pins s σ H xs us Q I r h;rcases h with⟨i,rfl,q⟩ | ⟨k,rfl,q⟩
 ·obtain⟨u,rfl,t,rfl⟩:=vals1 r;exact call_int_int ⟨.int i,H,I,⟨_,rfl⟩,q⟩
 ·obtain⟨u,rfl,r1⟩:=vals1 r;cases r1;exact call_int_bool ⟨.int (if k then 1 else 0),H,I.tok _,⟨_,rfl⟩,q⟩
end
structure CL(h:Heap)(x dx C:Addr)(mA:Str->Option Value):Prop where
 obj:h.get? x=some (PySem.W.instObj C dx)
 ns:h.Ns1 dx mA
 ne:dx≠x
theorem FF{h:Heap}{dx:Addr}{mA:Str->Option Value}(n:h.Ns1 dx mA):∃od,h.get? dx=some od/\∀name,PySem.W.lookIn name od=some (mA name):=by
 obtain⟨o,es,ep,ho,hd,hk,_,hm⟩:=n;refine⟨o,ho,λname=>?_⟩;have e:=hm name;unfold nsFind findBy at e;rw[← Array.find?_toList]at e;unfold PySem.W.lookIn;rw[hd];dsimp only;split
 ·rename_i y q;rw[q]at e;exact acp some e
 ·rename_i q;rw[q]at e
  have a:es.toList.any (·.refKey)=false:=by
   rw[List.any_eq_false];intro y hy;obtain⟨z,t,hkey⟩:=hk y (Array.mem_toList_iff.mp hy);simp[DictEntry.refKey,hkey]
  have a':¬ es.toList.any (·.refKey)=true:=by rw[a];exact aac
  rw[aa4 a'];exact acp some e
theorem CL.look{h:Heap}{x dx C:Addr}{mA:Str->Option Value}(I:CL h x dx C mA):∃od,PySem.W.InstAt h x (PySem.W.instObj C dx) C (some od)/\∀name,PySem.W.lookIn name od=some (mA name) :=
 let ⟨od,ho,hl⟩:=FF I.ns
 ⟨od,⟨I.obj,rfl,rfl,ho⟩,hl⟩
section
variable {prog:Program} {w:World} {A:Around} {E:Value->Shared->Prop} {s:Shared} {K:ay} {x dx C f:Addr} {mA:Str->Option Value} {name:Str} {v:Value}
theorem get_map{expr:Bool}{Q:Value->Shared->Prop}(X:K.In s.heap)(I:CL s.heap x dx C mA)(hg:PySem.W.plainGet K C name=true)(hh:PySem.W.hasDictIn K C=true)
  (ha:PySem.W.findIn K (.ref C) name=some none) (hv:mA name=some v) (hv':PySem.W.handedIn v=true) (h:Q v {s with toks:=s.toks + 1}) :
  wpAny (model prog w) A (getAttr (.ref x) name expr) Q E s:=by
 obtain⟨od,J,hl⟩:=I.look;exact PySem.W.get_value X J (aco hg).1 (PySem.W.findObj_own hh ha rfl (by rw[hl,hv])) hv' h
theorem Ic{pl:Sem Bool}{Q:Value×List Value->Shared->Prop}(X:K.In s.heap)(I:CL s.heap x dx C mA)(hg:PySem.W.plainGet K C name=true)
  (hf:PySem.W.findIn K (.ref C) name=some (some (.ref f))) (ht:PySem.W.isFn K (.ref f)=true) (hv:mA name=none) (h:Q (.ref f,[.ref x]) s) :
  wpAny (model prog w) A (getMethod (.ref x) name pl) Q E s:=by
 obtain⟨od,J,hl⟩:=I.look;exact PySem.W.method_fn X J (aco hg).1 (aco hg).2 hf (beq_iff_eq.mp ht) (by show(PySem.W.lookIn name od).map (·.isSome)=some false;rw[hl,hv];rfl) h
theorem Nd{ns:List Str}{Q:Unit->Shared->Prop}(X:K.In s.heap)(I:CL s.heap x dx C mA)
  (hs:PySem.W.findIn K (.ref C) "__setattr__"=some (some (.builtin "object.__setattr__"))) (hp:PySem.W.plainOver K C=true) (ht:PySem.W.takerIn K C name=some none) (hh:PySem.W.hasDictIn K C=true)
  (hw:PySem.Within mA ns) (hsz:ns.length<=sizeLine)
  (h:∀h',CL h' x dx C (λy=>if y=name then some v else mA y)->Heap.SameBut dx s.heap h'->Q () {s with heap:=h',toks:=s.toks + 2}) :
  wpAny (model prog w) A (setAttr (.ref x) name v) Q E s:=by
 obtain⟨od,J,hl⟩:=I.look;refine PySem.W.set_plain X J hs (PySem.W.osa_open (s:={s with toks:=s.toks + 1}) (r:=none) X J hp ht λb=>?_);obtain⟨cd,hc,hd'⟩:=PySem.W.any_some hh;have hx:s.heap.get? x=some ⟨.ref C,some dx,.plain,#[]⟩:=I.obj;refine aa6 (abg (aa6 (aa6 (wpAny_loadPart hx (aa6 (PySem.W.Looks.here (s:={s with toks:=s.toks + 1}) (PySem.W.looks_clsIn X hc) ?_))))));rw[hd'];refine abg (a:=some dx) (aa6 (abg (aa6 ?_)));refine wpAny_nsSet1 (s:={s with toks:=s.toks + 1}) I.ns λh' WG Uv=>?_
 obtain⟨oD,esD,epD,hoD,hdD,hcD⟩:=WG.count (PySem.Within.cons name v hw);refine aa6 (wpAny_lookBehind hoD (by rw[hdD];exact pastItsLine_dict (abj hcD (by rw[abO];omega))) ?_);exact abg (h _ ⟨(Uv.2 _ (aci I.ne)).trans I.obj,WG,I.ne⟩ Uv)
theorem Ab{R:Result->Shared->Prop}{vs:List Value}{kw:List (Str×Value)}(X:K.In s.heap)(hm:PySem.W.makesIn K C=true)
  (hi:PySem.W.findIn K (.ref C) "__init__"=some (some (.ref f))) (hf:PySem.W.typeIn K (.ref f)=some (.type "function"))
  (h:codeAny (model prog w) (A.under (.builtin "type.__call__" ⟨.ref C::vs,kw⟩)) (.call (.ref f) ⟨.ref (s.heap.objs.size + 1)::vs,kw⟩) (PySem.W.InitBack (s.heap.objs.size + 1) R)
   {s with heap:=(s.heap.push PySem.W.emptyDict).push (PySem.W.instObj C s.heap.objs.size)}) :
  codeAny (model prog w) A (.call (.ref C) ⟨vs,kw⟩) R s:=by
 obtain⟨hh,g,d,t,os⟩:=s;exact PySem.W.make_core (PySem.W.makes_of X hm) (PySem.W.looks_findIn X hi) (λself=>PySem.W.bind_fn X self hf) (.inl rfl) h
end
def aX(f:Str)(v:V):List (Str×V)->List (Str×V)
 | []=>[(f,v)]
 | (g,x)::r=>if g=f then(g,v)::r else(g,x)::aX f v r
theorem sR(f g:Str)(v:V):∀fs:List (Str×V),(aX f v fs).lookup g=if g=f then some v else fs.lookup g
 | []=>by
  show List.lookup g [(f,v)]=_;by_cases h:g=f
  ·have hb:(g == f)=true:=beq_iff_eq.mpr h;simp only[List.lookup,hb,if_pos h]
  ·have hb:(g == f)=false:=beq_eq_false_iff_ne.mpr h;simp only[List.lookup,hb,if_neg h]
 | (k,x)::r=>by
  have ih:=sR f g v r;rw[show aX f v ((k,x)::r)=(if k=f then(k,v)::r else(k,x)::aX f v r)from rfl];by_cases hk:k=f
  ·rw[aa7 hk];by_cases h:g=k
   ·have hb:(g == k)=true:=beq_iff_eq.mpr h;simp only[List.lookup,hb,if_pos (h.trans hk)]
   ·have hb:(g == k)=false:=beq_eq_false_iff_ne.mpr h;simp only[List.lookup,hb,if_neg (λe:g=f=>h (e.trans hk.symm))]
  ·rw[aa4 hk];by_cases h:g=k
   ·have hb:(g == k)=true:=beq_iff_eq.mpr h;simp only[List.lookup,hb,if_neg (λe:g=f=>hk (h.symm.trans e))]
   ·have hb:(g == k)=false:=beq_eq_false_iff_ne.mpr h;simp only[List.lookup,hb];exact ih
theorem rP(f:Str)(v:V):∀fs:List (Str×V),f∈(aX f v fs).map (·.1)/\∀g,g∈fs.map (·.1)->g∈(aX f v fs).map (·.1)
 | []=>⟨by simp[aX],λg h=>by simp at h⟩
 | (k,x)::r=>by
  obtain⟨i1,i2⟩:=rP f v r;rw[show aX f v ((k,x)::r)=(if k=f then(k,v)::r else(k,x)::aX f v r)from rfl];by_cases hk:k=f
  ·rw[if_pos hk];subst hk;exact⟨by simp,λg h=>by simpa using h⟩
  ·rw[aa4 hk];refine⟨?_,λg h=>?_⟩
   ·rw[ab3];exact abN _ i1
   ·rw[ab3]at h ⊢;rcases abH.mp h with e | e
    ·exact abH.mpr (.inl e)
    ·exact abN _ (i2 g e)
theorem dO(f:Str)(v:V):∀fs:List (Str×V),(aX f v fs).length<=fs.length + 1
 | []=>by simp[aX]
 | (k,x)::r=>by
  have ih:=dO f v r;rw[show aX f v ((k,x)::r)=(if k=f then(k,v)::r else(k,x)::aX f v r)from rfl];by_cases hk:k=f
  ·rw[aa7 hk,abO,abO];omega
  ·rw[aa4 hk,abO,abO];omega
theorem uR.some_of{v:V}{o:Option Value}(r:uR (some v) o):∃u,o=some u/\RelV v u:=by
 cases o with
 | none=>exact(show False from r).elim
 | some u=>exact⟨u,rfl,r⟩
theorem uR.none_of{o:Option Value}(r:uR none o):o=none:=by
 cases o with
 | none=>rfl
 | some u=>exact(show False from r).elim
theorem FG{v:V}{u:Value}(r:RelV v u):PySem.W.handedIn u=true:=by
 cases v with
 | non=>cases (show u=Value.none from r);rfl
 | bl b=>cases (show u=Value.bool b from r);rfl
 | int i=>obtain⟨t,e⟩:=(show ∃t,u=Value.int i t from r);cases e;rfl
 | str x=>obtain⟨t,e⟩:=(show ∃t,u=Value.str x t from r);cases e;rfl
 | byt b=>obtain⟨t,e⟩:=(show ∃t,u=Value.bytes b t from r);cases e;rfl
 | flt b=>obtain⟨t,e⟩:=(show ∃t,u=Value.float b t from r);cases e;rfl
 | ref a=>cases (show u=Value.ref a from r);rfl
 | ty n=>cases (show u=Value.type n from r);rfl
section
variable {P:Program} {w:World} {H H':Hp} {h h':Heap} {a C dx:Addr} {fs fs':List (Str×V)}
theorem yC(hok:sP P w H h)(e:H a=some (.ins C dx fs)):∃mA,CL h a dx C mA/\(∀f,uR (fs.lookup f) (mA f))/\PySem.Within mA (fs.map (·.1))/\fs.length<=1000/\H dx=some (.own a):=by
 obtain⟨d,z,ne,ob,mA,n,r,q⟩:=(show gi P w H h a (.ins C dx fs)from hok a _ e);exact⟨mA,⟨ob,n,ne⟩,r,q,z,d⟩
end
structure FH(K:ay)(C:Addr):Prop where
 pg:PySem.W.plainGet K C Str.empty=true
 hd:PySem.W.hasDictIn K C=true
 po:PySem.W.plainOver K C=true
 sa:PySem.W.findIn K (.ref C) "__setattr__"=some (some (.builtin "object.__setattr__"))
theorem FH.get{K:ay}{C:Addr}(c:FH K C)(f:Str):PySem.W.plainGet K C f=true:=c.pg
def cH(K:ay)(C:Addr)(f:Str):Prop:=PySem.W.findIn K (.ref C) f=some none
theorem cH.Uw{K:ay}{C:Addr}{f:Str}(n:cH K C f):PySem.W.takerIn K C f=some none:=by
 unfold PySem.W.takerIn;rw[show PySem.W.findIn K (.ref C) f=some none from n];rfl
structure Con(K:ay)(C:Addr)(f:Str)(v:V)(u:Value):Prop where
 at_:PySem.W.findIn K (.ref C) f=some (some u)
 rel:RelV v u
 get:PySem.W.specialIn K u "__get__"=some none
 cp:PySem.W.copiedNames.contains f=false
structure Meth(K:ay)(C:Addr)(m:Str)(f:Addr):Prop where
 at_:PySem.W.findIn K (.ref C) m=some (some (.ref f))
 fn:PySem.W.isFn K (.ref f)=true
 kp:PySem.W.keepIn K (.ref f)=true
section
variable {X:Cx} {pins:List (Addr×Obj)} {σ:St} {H:Hp} {s:Shared} {a C dx:Addr} {fs:List (Str×V)} {f:Str} {v:V} {A:Around} {E:Value->Shared->Prop}
theorem CM{b:Bool}{Q:Value->Shared->Prop}(I:Inv X pins σ H s)(e:H a=some (.ins C dx fs))(c:FH X.K C)(n:cH X.K C f)(l:fs.lookup f=some v)
  (h:∀u s',Inv X pins σ H s'->RelV v u->Q u s'):wpAny (model X.prog X.w) A (getAttr (.ref a) f b) Q E s:=by
 obtain⟨mA,O,r,_,_,_⟩:=yC I.hok e;obtain⟨u,hu,ru⟩:=uR.some_of (v:=v) (o:=mA f) (by rw[← l];exact r f);exact get_map I.uk O (c.get f) c.hd n hu (FG ru) (h u _ (I.tok _) ru)
theorem oW{m:Str}{g:Addr}{pl:Sem Bool}{Q:Value×List Value->Shared->Prop}(I:Inv X pins σ H s)(e:H a=some (.ins C dx fs))(c:FH X.K C)(k:Meth X.K C m g)(l:fs.lookup m=none)
  (h:Q (.ref g,[.ref a]) s):wpAny (model X.prog X.w) A (getMethod (.ref a) m pl) Q E s:=by
 obtain⟨mA,O,r,_,_,_⟩:=yC I.hok e;have hn:mA m=none:=uR.none_of (by rw[← l];exact r m);exact Ic I.uk O (c.get m) k.at_ k.fn hn h
theorem CN{y:V}{u:Value}{Q:Unit->Shared->Prop}(I:Inv X pins σ H s)(e:H a=some (.ins C dx fs))(c:FH X.K C)(n:cH X.K C f)(hl:fs.length < 1000)(ry:RelV y u)
  (h:∀s',Inv X pins σ (upd H a (.ins C dx (aX f y fs))) s'->Q () s'):wpAny (model X.prog X.w) A (setAttr (.ref a) f u) Q E s:=by
 obtain⟨mA,O,r,wi,_,ho⟩:=yC I.hok e;have hz:(fs.map (·.1)).length<=sizeLine:=by rw[aab,sizeLine_eq];omega
 refine Nd I.uk O c.sa c.po n.Uw c.hd wi hz λh' O' sb=>h _ ?_
 have hd:∃o,h'.get? dx=some o:=let ⟨o,_,_,e',_⟩:=O'.ns;⟨o,e'⟩
 refine I.write (x:=a) (e:=dx) (by rw[e];exact True.intro) (.inr ho) (λb q hb z=>(sb.2 b hb).trans z) hd ?_;refine⟨by rw[uN O.ne];exact ho,?_,O.ne,O'.obj,_,O'.ns,λg=>?_,λg hg=>?_⟩
 ·have:=dO f y fs;omega
 ·show uR ((aX f y fs).lookup g) (if g=f then some u else mA g);rw[sR];by_cases q:g=f
  ·rw[aa7 q,aa7 q];exact ry
  ·rw[aa4 q,aa4 q];exact r g
 ·by_cases q:g=f
  ·rw[q];exact(rP f y fs).1
  ·refine(rP f y fs).2 g (wi g λz=>hg ?_);show(if g=f then some u else mA g)=none;rw[aa4 q];exact z
theorem Inv.made(I:Inv X pins σ H s):Inv X pins σ (upd (upd H s.heap.objs.size (.own (s.heap.objs.size + 1))) (s.heap.objs.size + 1) (.ins C s.heap.objs.size []))
  {s with heap:=(s.heap.push PySem.W.emptyDict).push (PySem.W.instObj C s.heap.objs.size)}:=by
 have e1:(s.heap.push PySem.W.emptyDict).get? s.heap.objs.size=some PySem.W.emptyDict:=aa8 s.heap rfl
 have e2:((s.heap.push PySem.W.emptyDict).push (PySem.W.instObj C s.heap.objs.size)).get? (s.heap.objs.size + 1)=some (PySem.W.instObj C s.heap.objs.size):=by
  have:=aa8 (s.heap.push PySem.W.emptyDict) (o:=PySem.W.instObj C s.heap.objs.size) rfl
  rwa [Heap.size_push]at this
 have e3:(s.heap.push PySem.W.emptyDict).Ns s.heap.objs.size (λ_=>none):=⟨PySem.W.emptyDict,#[],_,e1,rfl,(λe he=>absurd he (by simp)),λ_=>rfl⟩;have I1:=I.laid (a:=s.heap.objs.size) (o:=.own (s.heap.objs.size + 1)) (h':=s.heap.push PySem.W.emptyDict) (t':=s.toks) (λb u q=>Heap.get?_push_of_some _ q) (Nat.le_refl _) ⟨_,e1⟩;refine I1.laid (a:=s.heap.objs.size + 1) (o:=.ins C s.heap.objs.size []) (t':=s.toks) (λb u q=>Heap.get?_push_of_some _ q) (Nat.le_of_eq (Heap.size_push _ _)) ?_;have ne:s.heap.objs.size≠s.heap.objs.size + 1:=Nat.ne_of_lt (Nat.lt_succ_self _);refine⟨by rw[uN ne,uS],Nat.zero_le _,ne,e2,λ_=>none,(Heap.Ns1.of_empty e3).at λo q=>Heap.get?_push_of_some _ q,λ_=>True.intro,λy hy=>absurd rfl hy⟩
theorem Nf{prog:Program}{w:World}{env:Env}{e:Expr}{f:Str}{pos:Pos}{s:Shared}{Q:Value->Shared->Prop}(hb:attributeBase e f env (eval e env)=eval e env)
  (h:wpAny (model prog w) A (eval e env) (λo s₁=>wpAny (model prog w) A (getAttr o f true) Q E s₁) E s):wpAny (model prog w) A (eval (.Attribute e f pos) env) Q E s :=
 Attribute_any_ h (by rw[arm_eval_Attribute,hb])
end
def Xu(K:ay)(ta:TE)(f:Str):TE:=λσ H Q=>ta σ H λx H1=>∃a C dx fs v,x=.ref a/\H1 a=some (.ins C dx fs)/\FH K C/\cH K C f/\fs.lookup f=some v/\Q v H1
def Xv(K:ay)(ta tv:TE)(f:Str):TS:=λD σ H=>tv σ H λy H1=>ta σ H1 λx H2=>∃a C dx fs,x=.ref a/\H2 a=some (.ins C dx fs)/\FH K C/\cH K C f/\fs.length < 1000 /\
 D.nx σ (upd H2 a (.ins C dx (aX f y fs)))
section
variable {X:Cx} {o e value:Expr} {f:Str} {pos pos' tpos:Pos} {ta tv:TE}
theorem aM(he:PE X e ta)(hb:attributeBase e f X.env (eval e X.env)=eval e X.env):PE X (.Attribute e f pos) (Xu X.K ta f):=by
 intro pins s σ H Q I h;refine Nf hb (cg (he pins s σ H _ I h) λu s1 ⟨x,H1,I1,rx,a,C,dx,fs,v,ex,ea,c,n,l,q⟩=>?_);subst ex;obtain rfl:u=Value.ref a:=rx;exact CM I1 ea c n l λu' s2 I2 ru=>⟨v,H1,I2,ru,q⟩
theorem cn(ha:PE X o ta)(hv:PE X value tv)(hs:swapsWith value (some (.Attribute o f pos')) pos.line X.env=pure false):PS X (.Assign [.Attribute o f pos'] value pos) (Xv X.K ta tv f):=by
 intro pins s σ H D I h;refine plainObj_wpAny_Assign_Attribute (cg (hv pins s σ H _ I h) λu s1 ⟨y,H1,I1,ry,q⟩=>cg (ha pins s1 σ H1 _ I1 q) λov s2 ⟨x,H2,I2,rx,a,C,dx,fs,ex,ea,c,n,l,q2⟩=>?_) hs;subst ex;obtain rfl:ov=Value.ref a:=rx;exact CN I2 ea c n l ry λs3 I3=>⟨σ,_,I3,q2⟩
end
section
variable {X:Cx} {pins:List (Addr×Obj)} {σ:St} {H:Hp} {s:Shared} {A:Around} {E:Value->Shared->Prop} {Q:Value->Shared->Prop} {c:Value} {b:Bool}
inductive ve(K:ay)(H:Hp):V->Value->Prop where
 | non:ve K H .non (.type "NoneType")
 | bl (x:Bool):ve K H (.bl x) (.type "bool")
 | int (i:Int):ve K H (.int i) (.type "int")
 | str (x:Str):ve K H (.str x) (.type "str")
 | flt (x:UInt64):ve K H (.flt x) (.type "float")
 | lst {a:Addr} {xs:List V} (e:H a=some (.lst xs)):ve K H (.ref a) (.type "list")
 | rK {a:Addr} {o:Obj} {xs:List V} (e:H a=some (.rK o (.lst xs))):ve K H (.ref a) (.type "list")
 | tup {a:Addr} {xs:List V} (e:H a=some (.tup xs)):ve K H (.ref a) (.type "tuple")
 | dK {a:Addr} {kvs:List (Key×V)} (e:H a=some (.dK kvs)):ve K H (.ref a) (.type "dict")
 | dT {a:Addr} {kvs:List (List Key×V)} (e:H a=some (.dT kvs)):ve K H (.ref a) (.type "dict")
 | ins {a C dx:Addr} {fs:List (Str×V)} (e:H a=some (.ins C dx fs)) (cl:FH K C) (ha:PySem.W.findIn K (.ref C) "__class__"=some (some (.builtin "object.__class__")))
   (hn:PySem.W.specialIn K (.builtin "object.__class__") "__get__"=some (some (.builtin "getset_descriptor.__get__"))) (htk:PySem.W.takesIn K (.builtin "object.__class__")=some true)
   (hm:PySem.W.mroIn K C (.type "object")=some true):ve K H (.ref a) (.ref C)
end
structure cG(k:Nat)(A:Around):Prop where
 hd:A.handled=none
 dp:A.depth + 3 * k + 5 < recursionLimit
 un:A.units + 16 * k + 200 < cLine
 gd:A.guards=some []
theorem cG.mono{j k:Nat}{A:Around}(r:cG k A)(h:j<=k):cG j A:=⟨r.hd,by have:=r.dp;omega,by have:=r.un;omega,r.gd⟩
theorem cG.deeper{k:Nat}{A:Around}(r:cG (k + 1) A)(env:Env):cG k (A.deeper env) :=
 ⟨r.hd,by have:=r.dp;show A.depth + 1 + 3 * k + 5 < _;omega,by have:=r.un;show A.units + 3 + 16 * k + 200 < _;omega,r.gd⟩
theorem CO{A:Around}{C:Addr}{us:List Value}{kw:List (Str×Value)}:(A.under (.builtin "type.__call__" ⟨.ref C::us,kw⟩)).depth=A.depth + 1:=by
 first | rfl | simp[Around.under,Code.weight,Code.isCreation,Code.isGuard,Code.isCaller,Code.frames,Code.isFrame,guardIds]
theorem CP{A:Around}{C:Addr}{us:List Value}{kw:List (Str×Value)}:(A.under (.builtin "type.__call__" ⟨.ref C::us,kw⟩)).units=A.units + 1:=by
 first | rfl | simp[Around.under,Code.cUnits,Code.frames,Code.isFrame]
theorem cG.make{k:Nat}{A:Around}(r:cG (k + 1) A)(C:Addr)(us:List Value)(kw:List (Str×Value)):cG k (A.under (.builtin "type.__call__" ⟨.ref C::us,kw⟩)) :=
 ⟨r.hd,by have:=r.dp;rw[CO];omega,by have:=r.un;rw[CP];omega,r.gd⟩
theorem cG.depth{k:Nat}{A:Around}(r:cG k A):A.depth < recursionLimit:=by have:=r.dp;omega
theorem cG.units{k:Nat}{A:Around}(r:cG k A):A.units + 64 < cLine:=by have:=r.un;omega
def Ng:TA:=λ_ H Q=>Q [] H
def Qg(ta:TE)(tr:TA):TA:=λσ H Q=>ta σ H λx H1=>tr σ H1 λxs H2=>Q (x::xs) H2
section
variable {X:Cx} {e:Expr} {es:List Expr} {te:TE} {t:TA} {pos:Pos}
theorem pN:PA X [] Ng:=λ_ _ _ _ H Q I h=>Calls.spliced_nil ⟨[],H,I,.nil,h⟩
theorem pK(ha:PE X e te)(hr:PA X es t)(hs:starEach (e::es) X.env=(false,eval e X.env)::starEach es X.env:=by rfl):PA X (e::es) (Qg te t):=by
 intro pos pins s σ H Q I h;rw[hs];show wpAny _ _ (spliced ((false,eval e X.env)::backTo pos (starEach es X.env))) _ _ s;refine Calls.spliced_cons (cg (ha pins s σ H _ I h) λu s1 ⟨x,H1,I1,r1,q1⟩=>?_);exact cg (hr pos pins s1 σ H1 _ I1 q1) λus s2 ⟨xs,H2,I2,r2,q2⟩=>⟨x::xs,H2,I2,.cons r1 r2,q2⟩
def Ux(t:TA):TE:=λσ H Q=>t σ H λxs H1=>xs.length<=sizeLine/\∀p,H1 p=none->Q (.ref p) (upd H1 p (.tup xs))
def Uy(t:TA):TE:=λσ H Q=>t σ H λxs H1=>xs.length<=sizeLine/\∀p,H1 p=none->Q (.ref p) (upd H1 p (.lst xs))
theorem c8{x1}(h:PA X es t):PE X (.Tuple es x1 pos) (Ux t):=by
 intro pins s σ H Q I hq;refine wpAny_Tuple_spliced (cg (h pos pins s σ H _ I hq) λus s1 ⟨xs,H1,I1,r,z,q⟩=>⟨by rw[← r.length];exact z,?_⟩);have hf:H1 s1.heap.objs.size=none:=I1.hok.fresh (aaZ _);refine⟨.ref s1.heap.objs.size,upd H1 s1.heap.objs.size (.tup xs),I1.laid (t':=s1.toks) (λb u e=>aaa _ e) (aaZ _) ?_,rfl,q _ hf⟩;exact⟨z,us,r,⟨_,aa8 _ rfl,rfl,_,rfl⟩⟩
theorem cK(h:PA X es t):PE X (.List es pos) (Uy t):=by
 intro pins s σ H Q I hq;refine wpAny_List_spliced (cg (h pos pins s σ H _ I hq) λus s1 ⟨xs,H1,I1,r,z,q⟩=>⟨by rw[← r.length];exact z,?_⟩);have hf:H1 s1.heap.objs.size=none:=I1.hok.fresh (aaZ _);refine⟨.ref s1.heap.objs.size,upd H1 s1.heap.objs.size (.lst xs),I1.laid (t':=s1.toks) (λb u e=>aaa _ e) (aaZ _) ?_,rfl,q _ hf⟩;exact⟨z,us,0,r,aa8 _ rfl⟩
end
abbrev Sp:=List V->Hp->VK->XK->Prop
abbrev zY:=List Env->Hp->Shared->XK->Value->Shared->Prop
structure CQ(P:Program)(w:World)(K:ay)(mg:Str->Option Value)(base:Heap)(A:Around)(outer:List Env)(s:Shared)(H:Hp):Prop where
 frames:A.frames=some outer
 mod:Mod K mg base
 bs:∀b o,base.get? b=some o->s.heap.get? b=some o/\H b=none
 bsz:base.objs.size<=s.heap.objs.size
 rL:s.heap.FunFrames base outer
 frf:∀b∈aT outer,H b=none
 hok:sP P w H s.heap
 bare:AllBare s.gens
def CE(outer:List Env)(P:Program)(w:World)(H:Hp)(s:Shared)(Q:VK)(u:Value)(s':Shared):Prop :=
 ∃v H',s'.os=s.os/\AllBare s'.gens/\Un (aT outer) [] H H' s.heap s'.heap/\sP P w H' s'.heap/\RelV v u/\Q v H'
def CR(CX:zY)(outer:List Env)(P:Program)(w:World)(H:Hp)(s:Shared)(Q:VK)(E:XK)(r:Result)(s':Shared):Prop :=
 match r with
 | .ok (.ret u)=>CE outer P w H s Q u s'
 | .ok _=>False
 | .error e=>CX outer H s E e s'
structure bh(P:Program)(w:World)(K:ay)(mg:Str->Option Value)(base:Heap)(CX:zY)(k:Nat)(f:Addr)(fd:FuncData)(ps:List Str)(sp:Sp):Prop where
 len:∀vs H Q E,sp vs H Q E->vs.length=ps.length
 run:∀(A:Around) (outer:List Env) (s:Shared) (H:Hp) (args:Args) (us:List Value) (vs:List V) (Q:VK) (E:XK),cG k A->CQ P w K mg base A outer s H->BindsTo s fd args (ps.zip us)->Vals vs us->sp vs H Q E ->
  codeAny (model P w) A (.call (.ref f) args) (CR CX outer P w H s Q E) s
theorem CQ.make{P:Program}{w:World}{K:ay}{mg:Str->Option Value}{base:Heap}{A:Around}{outer:List Env}{s:Shared}{H:Hp}(e:CQ P w K mg base A outer s H)(C:Addr)(us:List Value)(kw:List (Str×Value)):
  CQ P w K mg base (A.under (.builtin "type.__call__" ⟨.ref C::us,kw⟩)) outer s H:=⟨by first | exact e.frames | (simpa [Around.under,Code.envs,Code.isFrame,pushEnvs]using e.frames),e.mod,e.bs,e.bsz,e.rL,e.frf,e.hok,e.bare⟩
section
variable {X:Cx} {pins:List (Addr×Obj)} {σ:St} {H:Hp} {s s':Shared}
theorem Inv.Nh(I:Inv X pins σ H s):CQ X.prog X.w X.K X.mg X.base X.A X.stack s H :=
 ⟨I.ok.frames,I.ok.mod,I.bs,abj I.ok.bsz I.sz,I.stack,I.yx,I.hok,I.bare⟩
theorem Inv.after{Q:VK}{u:Value}(I:Inv X pins σ H s)(h:CE X.stack X.prog X.w H s Q u s'):EP X pins σ Q u s':=by
 obtain⟨v,H',os,bare,un,hok,r,q⟩:=h;obtain⟨hh,g,d,t,os'⟩:=s';obtain rfl:os'=s.os:=os;exact⟨v,H',I.call (h':=hh) (g':=g) (d':=d) (t':=t) (ch:=[]) un hok bare (λb z=>absurd z (by simp)),r,q⟩
end
def EC(sp:Sp)(dvs:List V)(E:XK)(t:TA):TE:=λσ H Q=>t σ H λvs H1=>sp (vs++dvs) H1 Q E
def Ac(C:Addr)(m:Str)(sp:Sp)(dvs:List V)(E:XK)(ta:TE)(t:TA):TE:=λσ H Q=>ta σ H λx H1=>∃a dx fs,x=.ref a/\H1 a=some (.ins C dx fs)/\fs.lookup m=none /\
 t σ H1 λvs H2=>sp (x::(vs++dvs)) H2 Q E
def Qh(C:Addr)(sp:Sp)(dvs:List V)(E:XK)(t:TA):TE:=λσ H Q=>t σ H λvs H1=>∀x dx,H1 x=none->H1 dx=none->dx≠x ->
 sp (.ref x::(vs++dvs)) (upd (upd H1 dx (.own x)) x (.ins C dx [])) (λv H2=>v=.non/\Q (.ref x) H2) E
def Binds(K:ay)(fd:FuncData)(ps:List Str)(ds:List Value):Prop :=
 ∀(s:Shared) (us:List Value),K.In s.heap->(us++ds).length=ps.length->BindsTo s fd ⟨us,[]⟩ (ps.zip (us++ds))
theorem Binds.all{K:ay}{fd:FuncData}{ps:List Str}(h:∀us:List Value,us.length=ps.length->bindArgs fd ⟨us,[]⟩=pure (ps.zip us)):Binds K fd ps []:=λs us _ hl=>by
 rw[abV]at hl ⊢;exact .of_eq (h us hl)
def Passes(CX:zY)(X:Cx)(E:XK):Prop:=∀(pins:List (Addr×Obj)) (σ:St) (H:Hp) (s:Shared) (e:Value) (s':Shared),Inv X pins σ H s->CX X.stack H s E e s'->X.xe e s'
section
variable {X:Cx} {CX:zY} {k:Nat} {f C:Addr} {fd:FuncData} {ps:List Str} {sp:Sp} {dvs:List V} {ds:List Value} {E:XK} {x m:Str} {p pos apos:Pos} {e o:Expr} {es:List Expr} {ta:TE} {t:TA}
theorem yD{pins:List (Addr×Obj)}{σ:St}{H:Hp}{s:Shared}{Q:VK}{us:List Value}{vs:List V}(F:bh X.prog X.w X.K X.mg X.base CX k f fd ps sp)(hr:cG k X.A)(hb:Binds X.K fd ps ds)(hd:Vals dvs ds)(hx:Passes CX X E)
  (I:Inv X pins σ H s) (r:Vals vs us) (h:sp (vs++dvs) H Q E):wpAny (model X.prog X.w) X.A (call (.ref f) us) (EP X pins σ Q) X.xe s:=by
 have r2:Vals (vs++dvs) (us++ds):=r.append hd;have hl:(us++ds).length=ps.length:=by rw[← r2.length];exact F.len _ _ _ _ h
 refine ac5 (acm (F.run X.A X.stack s H ⟨us,[]⟩ (us++ds) (vs++dvs) Q E hr I.Nh (hb s us I.uk hl) r2 h) λr s' hq=>?_)
 cases r with
 | error e=>exact hx pins σ H s e s' I hq
 | ok fl =>
  cases fl with
  | ret u=>exact I.after hq
  | next=>exact False.elim hq
  | brk=>exact False.elim hq
  | cont=>exact False.elim hq
theorem ED(F:bh X.prog X.w X.K X.mg X.base CX k f fd ps sp)(hr:cG k X.A)(hg:Gl X x)(hm:X.mg x=some (.ref f))(hk:PySem.W.keepIn X.K (.ref f)=true)(hb:Binds X.K fd ps ds)(hd:Vals dvs ds)(hx:Passes CX X E)
  (ha:PA X (e::es) t) (hdb:(x == ("__debug__" : Str))=false:=by decide) (he:starEach (e::es) X.env=(false,eval e X.env)::starEach es X.env:=by rfl) (hpl:(backTo pos (starEach es X.env)).any (·.1)=false:=by rfl) :
  PE X (.Call (.Name x p) (e::es) [] pos) (EC sp dvs E t):=by
 intro pins s σ H Q I h;refine abK (iF I hg hm ?_ hdb);refine abW (h₀:=X.base) I.ok.mod.kin hk (cg (ha pos pins s σ H _ I h) λus s1 ⟨vs,H1,I1,r,q⟩=>⟨I1.uk,?_⟩) he hpl;exact yD F hr hb hd hx I1 r q
theorem Ni{pl:Sem Bool}(he:PE X o ta)(c:FH X.K C)(hm:Meth X.K C m f)(F:bh X.prog X.w X.K X.mg X.base CX k f fd ps sp)(hr:cG k X.A)(hb:Binds X.K fd ps ds)(hd:Vals dvs ds)(hx:Passes CX X E)(ha:PA X (e::es) t)
  (hst:starEach (e::es) X.env=(false,eval e X.env)::starEach es X.env:=by rfl) (hpl:(backTo pos (starEach es X.env)).any (·.1)=false:=by rfl)
  (ht:eval (.Call (.Attribute o m apos) (e::es) [] pos) X.env=(do
   let ov ← eval o X.env
   standAt apos.atName
   let (f,first) ← holding [ov] (getMethod ov m pl)
   callWith pos f first (backTo pos (starEach (e::es) X.env)) (backToKw pos (keywordEach [] X.env))):=by rfl) :
  PE X (.Call (.Attribute o m apos) (e::es) [] pos) (Ac C m sp dvs E ta t):=by
 intro pins s σ H Q I h;refine acj (pl:=pl) (cg (he pins s σ H _ I h) λu s1 ⟨x,H1,I1,rx,a,dx,fs,ex,ea,l,q⟩=>?_) ht;subst ex;obtain rfl:u=Value.ref a:=rx;refine oW I1 ea c hm l ?_;refine abW (first:=[.ref a]) (h₀:=X.base) I.ok.mod.kin hm.kp (cg (ha pos pins s1 σ H1 _ I1 q) λus s2 ⟨vs,H2,I2,r,q2⟩=>⟨I2.uk,?_⟩) hst hpl;exact yD (us:=.ref a::us) (vs:=.ref a::vs) F hr hb hd hx I2 (.cons rfl r) q2
theorem Ie{pl:Sem Bool}(he:PE X o ta)(c:FH X.K C)(hm:Meth X.K C m f)(F:bh X.prog X.w X.K X.mg X.base CX k f fd ps sp)(hr:cG k X.A)(hb:Binds X.K fd ps ds)(hd:Vals dvs ds)(hx:Passes CX X E)
  (ht:eval (.Call (.Attribute o m apos) [] [] pos) X.env=(do
   let ov ← eval o X.env
   standAt apos.atName
   let (f,first) ← holding [ov] (getMethod ov m pl)
   callWith pos f first (backTo pos (starEach [] X.env)) (backToKw pos (keywordEach [] X.env))):=by rfl) :
  PE X (.Call (.Attribute o m apos) [] [] pos) (Ac C m sp dvs E ta Ng):=by
 intro pins s σ H Q I h;refine acj (pl:=pl) (cg (he pins s σ H _ I h) λu s1 ⟨x,H1,I1,rx,a,dx,fs,ex,ea,l,q⟩=>?_) ht;subst ex;obtain rfl:u=Value.ref a:=rx;refine oW I1 ea c hm l ?_;exact PySem.W.callWith_K0 (first:=[.ref a]) I1.uk hm.kp (yD (us:=[.ref a]) (vs:=[.ref a]) F hr hb hd hx I1 (.cons rfl .nil) q)
structure Mk(K:ay)(C f:Addr):Prop where
 makes:PySem.W.makesIn K C=true
 init:PySem.W.findIn K (.ref C) "__init__"=some (some (.ref f))
 fn:PySem.W.isFn K (.ref f)=true
 kp:PySem.W.keepIn K (.ref C)=true
theorem Ig{pins:List (Addr×Obj)}{σ:St}{H:Hp}{s:Shared}{Q:VK}{us:List Value}{vs:List V}(M:Mk X.K C f)(F:bh X.prog X.w X.K X.mg X.base CX k f fd ps sp)(hr:cG (k + 1) X.A)(hb:Binds X.K fd ps ds)(hd:Vals dvs ds)
  (hx:Passes CX X E) (I:Inv X pins σ H s) (r:Vals vs us)
  (h:∀x dx,H x=none->H dx=none->dx≠x->sp (.ref x::(vs++dvs)) (upd (upd H dx (.own x)) x (.ins C dx [])) (λv H2=>v=.non/\Q (.ref x) H2) E) :
  wpAny (model X.prog X.w) X.A (call (.ref C) us) (EP X pins σ Q) X.xe s:=by
 have hq:=h (s.heap.objs.size + 1) s.heap.objs.size (I.hok.fresh (acS _)) (I.hok.fresh (aaZ _)) (aa5 (Nat.lt_succ_self _));have I2:=Inv.made (C:=C) I;have r2:Vals (V.ref (s.heap.objs.size + 1)::(vs++dvs)) (Value.ref (s.heap.objs.size + 1)::(us++ds)):=.cons rfl (r.append hd)
 have hl:(Value.ref (s.heap.objs.size + 1)::us++ds).length=ps.length:=by
  have e:=r2.length;rw[F.len _ _ _ _ hq]at e;exact e.symm
 refine ac5 (Ab (f:=f) I.uk M.makes M.init (beq_iff_eq.mp M.fn) (acm (F.run _ X.stack _ _ ⟨Value.ref (s.heap.objs.size + 1)::us,[]⟩ (Value.ref (s.heap.objs.size + 1)::(us++ds)) _ _ E (hr.make C us [])
  (I2.Nh.make C us []) (hb _ (Value.ref (s.heap.objs.size + 1)::us) I2.uk hl) r2 hq) λr s' hq'=>?_))
 cases r with
 | error e=>exact hx pins σ _ _ e s' I2 hq'
 | ok fl =>
  cases fl with
  | ret u =>
   obtain⟨v,H',I3,rv,ev,q3⟩:=I2.after hq';subst ev;exact⟨rv,⟨V.ref (s.heap.objs.size + 1),H',I3,rfl,q3⟩⟩
  | next=>exact False.elim hq'
  | brk=>exact False.elim hq'
  | cont=>exact False.elim hq'
theorem Nj(M:Mk X.K C f)(F:bh X.prog X.w X.K X.mg X.base CX k f fd ps sp)(hr:cG (k + 1) X.A)(hg:Gl X x)(hm:X.mg x=some (.ref C))(hb:Binds X.K fd ps ds)(hd:Vals dvs ds)(hx:Passes CX X E)
  (ha:PA X (e::es) t) (hdb:(x == ("__debug__" : Str))=false:=by decide) (he:starEach (e::es) X.env=(false,eval e X.env)::starEach es X.env:=by rfl) (hpl:(backTo pos (starEach es X.env)).any (·.1)=false:=by rfl) :
  PE X (.Call (.Name x p) (e::es) [] pos) (Qh C sp dvs E t):=by
 intro pins s σ H Q I h;refine abK (iF I hg hm ?_ hdb);refine abW (h₀:=X.base) I.ok.mod.kin M.kp (cg (ha pos pins s σ H _ I h) λus s1 ⟨vs,H1,I1,r,q⟩=>⟨I1.uk,?_⟩) he hpl;exact Ig M F hr hb hd hx I1 r q
end
section
variable {X:Cx} {CX:zY} {k:Nat} {f C:Addr} {fd:FuncData} {ps ks:List Str} {sp:Sp} {E:XK} {x m:Str} {p pos apos kpos:Pos} {e o:Expr} {es:List Expr} {kws:List Keyword} {te ta:TE} {t tk:TA} {nm:Option Str}
structure Xw(K:ay)(fd:FuncData)(ps ks:List Str)(g:List Value->List Value->List Value)(gV:List V->List V->List V):Prop where
 to:∀(s:Shared) (us ws:List Value),K.In s.heap->(g us ws).length=ps.length->BindsTo s fd ⟨us,ks.zip ws⟩ (ps.zip (g us ws))
 rel:∀{vs:List V} {us:List Value} {zs:List V} {ws:List Value},Vals vs us->Vals zs ws->Vals (gV vs zs) (g us ws)
variable {g:List Value->List Value->List Value} {gV:List V->List V->List V}
end
structure aB(N P:List Str)(sc:Scope):Prop where
 kind:sc.kind=.function
 co:sc.isCoroutine=false
 gen:sc.isGenerator=false
 nd:N.Nodup
 pre:N.take P.length=P
 par:∀x∈P,sc.names.lookup x=some .local∨sc.names.lookup x=some .cell
 nofree:∀y∈sc.names,y.2≠.free
theorem xI{kindOf:Str->Option NameKind}{x:Str}:∀{binds:List (Str×Value)} {m:Str->Option Value},(∀v,(x,v)∉binds)->bindL kindOf binds m x=m x
 | [],_,_=>rfl
 | (n,v)::r,m,h=>by
  unfold bindL;rw[xI λw hw=>h w (List.mem_cons_of_mem _ hw)];split
  ·have:x≠n:=by rintro rfl;exact h v abD
   simp[this]
  ·rfl
theorem xJ{kindOf:Str->Option NameKind}{x:Str}:∀{binds:List (Str×Value)} {m:Str->Option Value},(∀v,(x,v)∉binds)->bindC kindOf binds m x=m x
 | [],_,_=>rfl
 | (n,v)::r,m,h=>by
  unfold bindC;rw[xJ λw hw=>h w (List.mem_cons_of_mem _ hw)];split
  ·rfl
  ·have:x≠n:=by rintro rfl;exact h v abD
   simp[this]
theorem xK{kindOf:Str->Option NameKind}{x:Str}{v:Value}:∀{P:List Str} {vs:List Value} {i:Nat} {m:Str->Option Value},P.Nodup->P[i]?=some x->vs[i]?=some v->kindOf x=some .local ->
  bindL kindOf (P.zip vs) m x=some v
 | [],_,_,_,_,h,_,_=>by simp at h
 | _::_,[],_,_,_,_,h,_=>by simp at h
 | p::P,w::vs,0,m,nd,h1,h2,hk=>by
  simp at h1 h2;subst h1;subst h2;show bindL kindOf ((p,w)::P.zip vs) m p=_;unfold bindL;rw[xI λv hv=>(List.nodup_cons.mp nd).1 (List.of_mem_zip hv).1,if_pos hk];simp
 | p::P,w::vs,i + 1,m,nd,h1,h2,hk=>by
  show bindL kindOf ((p,w)::P.zip vs) m x=_;unfold bindL;exact xK (i:=i) (List.nodup_cons.mp nd).2 (by simpa using h1) (by simpa using h2) hk
theorem xM{kindOf:Str->Option NameKind}{x:Str}{v:Value}:∀{P:List Str} {vs:List Value} {i:Nat} {m:Str->Option Value},P.Nodup->P[i]?=some x->vs[i]?=some v->kindOf x≠some .local ->
  bindC kindOf (P.zip vs) m x=some v
 | [],_,_,_,_,h,_,_=>by simp at h
 | _::_,[],_,_,_,_,h,_=>by simp at h
 | p::P,w::vs,0,m,nd,h1,h2,hk=>by
  simp at h1 h2;subst h1;subst h2;show bindC kindOf ((p,w)::P.zip vs) m p=_;unfold bindC;rw[xJ λv hv=>(List.nodup_cons.mp nd).1 (List.of_mem_zip hv).1,if_neg hk];simp
 | p::P,w::vs,i + 1,m,nd,h1,h2,hk=>by
  show bindC kindOf ((p,w)::P.zip vs) m x=_;unfold bindC;exact xM (i:=i) (List.nodup_cons.mp nd).2 (by simpa using h1) (by simpa using h2) hk
def start(N:List Str)(vs:List V):St:=vs.map some++List.replicate (N.length - vs.length) none
def vf(CX:zY)(P:Program)(w:World)(K:ay)(mg:Str->Option Value)(base:Heap)(N:List Str)(qual:Str)(scope:Scope)(f:Addr)(cd:Value)(A:Around)(outer:List Env)(s:Shared)(H:Hp)(E:XK):Cx where
 prog:=P
 w:=w
 K:=K
 mg:=mg
 base:=base
 A:=A.deeper (envOfC qual scope s.heap.objs.size f cd)
 N:=N
 s₀:=s
 H₀:=H
 env:=envOfC qual scope s.heap.objs.size f cd
 outer:=outer
 stack:=envOfC qual scope s.heap.objs.size f cd::outer
 ex:=[]
 calm:=true
 fn:=λ_=>true
 pn:=[]
 xe:=λe s'=>wpAny (model P w) (A.deeper (envOfC qual scope s.heap.objs.size f cd)) (leaving (envOfC qual scope s.heap.objs.size f cd) e) (λ_ s''=>CX outer H s E e s'') (λe' s''=>CX outer H s E e' s'') s'
theorem Ad{sc:Scope}{n:Nat}{x:Str}(h:sc.names.lookup x=some .cell):∃c,(cellsFrom n sc.names []).lookup x=some c:=by
 have q:=acT sc.names n [] (.inl h);exact Option.isSome_iff_exists.mp q
theorem FI{CX:zY}{P:Program}{w:World}{K:ay}{mg:Str->Option Value}{base:Heap}{N ps:List Str}{qual:Str}{scope:Scope}{f:Addr}{cd:Value}{A:Around}{outer:List Env}{s s1:Shared}{H:Hp}{E:XK}{us:List Value}{vs:List V}
  (S:aB N ps scope) (hd:A.handled=none) (e0:CQ P w K mg base A outer s H) (hl:vs.length=ps.length) (r:Vals vs us)
  (x:InCallC s s.heap.objs.size (bindL (envOfC qual scope s.heap.objs.size f cd).kindOf (ps.zip us) λ_=>none) (cellsFrom (s.heap.objs.size + 1) scope.names []) (bindC (envOfC qual scope s.heap.objs.size f cd).kindOf (ps.zip us) λ_=>none) s1) :
  Inv (vf CX P w K mg base N qual scope f cd A outer s H E) [] (start N vs) H s1:=by
 have hpl:ps.length<=N.length:=by have:=acp List.length S.pre;rw[abl]at this;omega
 obtain⟨h1,tk,rfl,hk⟩:=x.done;have noA:∀b:Addr,b∉(vf CX P w K mg base N qual scope f cd A outer s H E).ex:=λb z=>absurd (show b∈([]:List Addr)from z) (by simp)
 refine⟨⟨e0.mod,S.kind,rfl,rfl,aaZ _,λy z c h1 h2=>?_,λy hy=>?_,λy c _ h=>?_,λ_=>hd,Around.frames_deeper e0.frames,.inr ⟨rfl,rfl⟩,λb z=>absurd z (noA b),e0.bs,e0.bsz,λb _ _=>noA b,λb z=>absurd z (noA b),e0.rL,e0.frf⟩,
  rfl,e0.bare,Un.kept hk,⟨_,x.toInCall.ns,λi y v h1 h2 h3=>?_⟩,λy c h=>⟨_,x.cell y c h⟩,e0.hok.fresh (Nat.le_refl _),λy c h=>?_,λp hp=>absurd (show p∈([]:List (Addr×Obj))from hp) (by simp),e0.hok.kept hk,?_⟩
 ·exact name_of_addr x.apart (abT h1) (abT h2)
 ·have hy:scope.names.lookup y=some .cell∨scope.names.lookup y=some .free:=hy;rcases hy with hy | hy
  ·exact Ad hy
  ·exact absurd rfl (S.nofree _ (abT hy))
 ·exact abE (x.above y c (abT h))
 ·have hi:i < vs.length:=by
   unfold start at h2;by_cases hi:i < vs.length
   ·exact hi
   ·rw[List.getElem?_append_right (by simpa using hi)]at h2;rw[List.getElem?_replicate]at h2;split at h2<;>cases h2
  have ha:vs[i]?=some v:=by
   unfold start at h2;rw[List.getElem?_append_left (by simpa using hi),List.getElem?_map]at h2
   cases e:vs[i]? with
   | none=>rw[e]at h2;cases h2
   | some a=>rw[e]at h2;cases h2;rfl
  obtain⟨u,hu,rv⟩:=r.get ha
  have hp:ps[i]?=some y:=by
   rw[← S.pre,ab6 (by omega)];exact h1
  have ndP:ps.Nodup:=by rw[← S.pre];exact S.nd.sublist (List.take_sublist _ _)
  refine⟨u,rv,?_⟩;rcases S.par y (abd hp)with k | k
  ·exact .inl ⟨k,xK ndP hp hu k⟩
  ·obtain⟨c,e⟩:=Ad (n:=s.heap.objs.size + 1) k;refine .inr ⟨.inl k,c,e,?_⟩;have q:=x.cell y c e;rw[xM ndP hp hu (by show scope.names.lookup y≠_;rw[k];decide)]at q;exact q
 ·exact e0.hok.fresh (abE (x.above y c (abT h)))
 ·unfold start;show _=N.length;rw[List.length_append,List.length_map,List.length_replicate];omega
theorem Qi{CX:zY}{P:Program}{w:World}{K:ay}{mg:Str->Option Value}{base:Heap}{k:Nat}{f:Addr}{name qual:Str}{params:Arguments}{body:List Stmt}{scope:Scope}{dV kV doc pm cdv ct oc:Value}{an od:Option Addr}
  {osl:Array (Option Value)} {N ps:List Str} {sp:Sp} (lk:K.lookup f=some ⟨oc,od,.func (PySem.W.fnOf name qual params body scope dV kV doc pm an cdv ct),osl⟩) (hcd:PySem.W.codeIn K cdv qual=true) (S:aB N ps scope)
  (len:∀vs H Q E,sp vs H Q E->vs.length=ps.length)
  (hbody:∀(A:Around) (outer:List Env) (s:Shared) (H:Hp) (vs:List V) (Q:VK) (E:XK),cG k (A.deeper (envOfC qual scope s.heap.objs.size f cdv))->sp vs H Q E ->
   ∃t,sQ (vf CX P w K mg base N qual scope f cdv A outer s H E) body t/\t {nx:=λ_ H'=>Q .non H',rt:=Q} (start N vs) H) :
  bh P w K mg base CX (k + 1) f (PySem.W.fnOf name qual params body scope dV kV doc pm an cdv ct) ps sp:=by
 refine⟨len,λA outer s H args us vs Q E hr e0 hb r hsp=>?_⟩;have hl:=len _ _ _ _ hsp;have KX:K.In s.heap:=e0.mod.kin.keeps λb o e=>(e0.bs b o e).1
 have lim:s.heap.NoLimit:=e0.mod.nolimit.keeps λb o e=>(e0.bs b o e).1
 have hkind:∀y∈ps.zip us,scope.names.lookup y.1=some .local∨(scope.names.lookup y.1=some .cell/\((cellsFrom (s.heap.objs.size + 1) scope.names []).lookup y.1).isSome=true):=λ⟨n,v⟩ hy=>by
  rcases S.par n (List.of_mem_zip hy).1 with q | q
  ·exact .inl q
  ·exact .inr ⟨q,acT _ _ _ (.inl q)⟩
 refine codeAny_call_function hr.depth (KX _ _ lk) rfl S.co S.gen rfl (PySem.W.codeRec_of KX hcd) (hb _ _ _ _ ?_);refine wpAny_newFunctionEnv_cells S.kind hkind λenv he s1 x=>?_
 subst he;refine⟨lim.keeps x.toInCall.keep,codeAny_func ?_⟩;obtain⟨t,ht,hq⟩:=hbody A outer s H vs Q E (hr.deeper _) hsp;have I:Inv (vf CX P w K mg base N qual scope f cdv A outer s H E) [] (start N vs) H s1:=FI S hr.hd e0 hl r x;refine abn (ht [] s1 (start N vs) H _ I hq) (λfl s' hs=>?_) λe s' hs=>hs
 have fin:∀{σ':St} {H':Hp} {v:V} {u:Value},Inv (vf CX P w K mg base N qual scope f cdv A outer s H E) [] σ' H' s'->RelV v u->Q v H'->CE outer P w H s Q u s' :=
  λ{σ' H' v u} J rv q=>⟨v,H',J.os,J.bare,J.base,J.hok,rv,q⟩
 cases fl with
 | ret u =>
  obtain⟨v,σ',H',J,rv,q⟩:=hs;exact fin J rv q
 | next =>
  obtain⟨σ',H',J,q⟩:=hs;exact fin (v:=V.non) (u:=Value.none) J rfl q
 | brk =>
  obtain⟨_,_,_,q⟩:=hs;exact False.elim q
 | cont =>
  obtain⟨_,_,_,q⟩:=hs;exact False.elim q
section
variable {X:Cx} {x:Str} {p pos:Pos} {e:Expr} {es:List Expr} {t:TA} {id T:String} {r:List V->Hp->VK->Prop}
def Xx(r:List V->Hp->VK->Prop)(t:TA):TE:=λσ H Q=>t σ H λvs H1=>r vs H1 Q
theorem bL(hc:fB X (.builtin id) r)(hg:Gl X x)(hm:X.mg x=none)(hv:bootBuiltins x=some (.builtin id))(ha:PA X (e::es) t)(hn:x≠"__name__":=by decide)(hdb:(x == ("__debug__" : Str))=false:=by decide)
  (he:starEach (e::es) X.env=(false,eval e X.env)::starEach es X.env:=by rfl) (hpl:(backTo pos (starEach es X.env)).any (·.1)=false:=by rfl):PE X (.Call (.Name x p) (e::es) [] pos) (Xx r t):=by
 intro pins s σ H Q I h;refine abK (uU I hg hm hv ?_ hn hdb);exact PyProof.Rows.callWith_builtin1 (cg (ha pos pins s σ H _ I h) λus s1 ⟨vs,H1,I1,r1,q1⟩=>hc pins s1 σ H1 vs us Q I1 r1 q1) he hpl
theorem cq(hc:fB X (.type T) r)(hg:Gl X x)(hm:X.mg x=none)(hv:bootBuiltins x=some (.type T))(ha:PA X (e::es) t)(hn:x≠"__name__":=by decide)(hdb:(x == ("__debug__" : Str))=false:=by decide)
  (he:starEach (e::es) X.env=(false,eval e X.env)::starEach es X.env:=by rfl) (hpl:(backTo pos (starEach es X.env)).any (·.1)=false:=by rfl):PE X (.Call (.Name x p) (e::es) [] pos) (Xx r t):=by
 intro pins s σ H Q I h;refine abK (uU I hg hm hv ?_ hn hdb);exact ab1 (cg (ha pos pins s σ H _ I h) λus s1 ⟨vs,H1,I1,r1,q1⟩=>hc pins s1 σ H1 vs us Q I1 r1 q1) he hpl
end
end L2
namespace HT
open PySem PyProof.Rows
section
open PySem.SeqAt
open PySem.AutoSeq1 (wpAny_loadPart')
open PySem.MeetsSeq PySem.MeetsSeq2 PySem.MeetsSeq3
end
section
variable {prog:Program} {w:World} {A:Around} {E:Value->Shared->Prop} {s:Shared}
theorem Nk{t b:Addr}{vs ws:List Value}{Q:Value->Shared->Prop}(ht:IsTup s.heap t vs.toArray)(hb:IsTup s.heap b ws.toArray)(hv:vs≠[])
  (h1:ws=[]->Q (.ref t) s) (h2:ws≠[]->Q (.ref s.heap.objs.size) {s with heap:=s.heap.push {cls:=.type "tuple",data:=.seq (vs++ws).toArray}})
  (hsz:vs.length + ws.length<=sizeLine):wpAny (model prog w) A (binaryOp .Add (.ref t) (.ref b)) Q E s:=by
 obtain⟨⟨cls,dd,data,sl⟩,ho,hc,n,hd⟩:=id ht;obtain⟨⟨acI,dd2,data2,Q0⟩,Mt,Q3,n2,hd2⟩:=id hb;simp only at hc hd Q3 hd2;subst hc hd Q3 hd2;have e:vs.toArray++ws.toArray=(vs++ws).toArray:=by simp
 by_cases hw:ws=[]
 ·exact concat_meets ⟨_,ho,rfl⟩ ⟨_,Mt,rfl⟩ noFill_tuple_add seq_tuple_add acU acK (acB _ _)
   (tuple_addW1 t b vs.toArray ws.toArray n n2 dd dd2 sl Q0 (by simpa using hv) (by simp[hw])) ⟨ho,Mt,h1 hw⟩
 ·refine concat_meets ⟨_,ho,rfl⟩ ⟨_,Mt,rfl⟩ noFill_tuple_add seq_tuple_add acU acK (acB _ _)
   (tuple_addW2 t b vs.toArray ws.toArray n n2 dd dd2 sl Q0 (by simpa using hv) (by simpa using hw) (by rw[List.size_toArray,List.size_toArray];exact hsz)) ⟨ho,Mt,?_⟩
  rw[e];exact h2 hw
def Ae(n d:Nat):Option Int->Nat
 | none=>d
 | some v=>if v < 0 then(v + (n:Int)).toNat else min v.toNat n
theorem Af(n d:Nat):Ae n d none=d:=rfl
theorem EE(n d k:Nat):Ae n d (some (k:Int))=min k n:=by
 show(if (k:Int) < 0 then((k:Int) + (n:Int)).toNat else min (k:Int).toNat n)=min k n;rw[aa4 (by omega),ab9]
end
end HT
namespace L2
open PySem PySem.Spec PyProof.Rows
abbrev TO:=St->Hp->(Option Int->Hp->Prop)->Prop
def PO(X:Cx)(e:Option Expr)(t:TO):Prop :=
 ∀(pins:List (Addr×Obj)) (s:Shared) (σ:St) (H:Hp) (Q:Option Int->Hp->Prop),Inv X pins σ H s->t σ H Q ->
  wpAny (model X.prog X.w) X.A (evalPart e X.env) (λu s'=>∃o H',Inv X pins σ H' s'/\IsPart u o/\Q o H') X.xe s
def Nl:TO:=λ_ H Q=>Q none H
def Uz(t:TE):TO:=λσ H Q=>t σ H λx H1=>∃i,x=.int i/\Q (some i) H1
theorem intsAre_of{ns:List Int}:∀{us:List Value},Vals (ns.map V.int) us->IntsAre us ns:=by
 induction ns with
 | nil=>intro us r;rw[List.map_nil]at r;cases r;exact .nil
 | cons n ns ih =>
  intro us r;rw[ab3]at r
  cases r with
  | cons r1 r2 =>
   obtain⟨t,e⟩:=r1;subst e;exact .cons n t (ih r2)
section
variable {X:Cx} {e:Expr} {te:TE} {lo hi:Option Expr} {tl th:TO} {pos p2:Pos}
theorem EF:PO X none Nl:=by
 intro pins s σ H Q I h;rw[evalPart_none];exact abg ⟨none,H,I,.none,h⟩
theorem EG(h:PE X e te):PO X (some e) (Uz te):=by
 intro pins s σ H Q I hw;rw[evalPart_some];refine cg (h pins s σ H _ I hw) λu s1 ⟨x,H1,I1,r1,q1⟩=>?_
 obtain⟨i,rfl,q⟩:=q1;obtain⟨t,rfl⟩:=r1;exact⟨some i,H1,I1,.int i t,q⟩
def SlR(X:Cx)(r:V->Option Int->Option Int->Hp->VK->Prop):Prop :=
 ∀(pins:List (Addr×Obj)) (s:Shared) (σ:St) (H:Hp) (x:V) (v vl vu:Value) (lo hi:Option Int) (sl:Addr) (Q:VK),Inv X pins σ H s->RelV x v->s.heap.IsSliceOf sl vl vu .none->IsPart vl lo->IsPart vu hi->r x lo hi H Q ->
  ∃T id,typeLookup (.type T) "__getitem__"=pure (some (.builtin id))/\s.TypeIs v T/\wpAny (model X.prog X.w) X.A (getItem v (.ref sl)) (EP X pins σ Q) X.xe s
def tSl(r:V->Option Int->Option Int->Hp->VK->Prop)(te:TE)(tl th:TO):TE:=λσ H Q=>te σ H λx H1=>tl σ H1 λl H2=>th σ H2 λu H3=>r x l u H3 Q
theorem Ag{r:V->Option Int->Option Int->Hp->VK->Prop}(hr:SlR X r)(he:PE X e te)(hl:PO X lo tl)(hu:PO X hi th):PE X (.Subscript e (.Slice lo hi none p2) pos) (tSl r te tl th):=by
 intro pins s σ H Q I h;refine Subscript_ (cg (he pins s σ H _ I h) λv s1 ⟨x,H1,I1,r1,q1⟩=>?_);refine wpAny_Slice (cg (hl pins s1 σ H1 _ I1 q1) λvl s2 ⟨l,H2,I2,pl,q2⟩=>cg (hu pins s2 σ H2 _ I2 q2) λvu s3 ⟨u,H3,I3,pu,q3⟩=>?_);rw[evalPart_none];refine abg ?_;have I4:Inv X pins σ H3 {s3 with heap:=s3.heap.push {cls:=.type "slice",data:=.fields #[vl,vu,.none]}}:=I3.kept (t':=s3.toks) λb ob q=>aaa _ q
 obtain⟨T,id,hT,ht,hg⟩:=hr pins {s3 with heap:=s3.heap.push {cls:=.type "slice",data:=.fields #[vl,vu,.none]}} σ H3 x v vl vu l u s3.heap.objs.size Q I4 r1 (Heap.IsSliceOf.new ..) pl pu q3;show wpAny (model X.prog X.w) X.A (subscriptTail e (.Slice lo hi none p2) v (.ref s3.heap.objs.size)) (EP X pins σ Q) X.xe {s3 with heap:=s3.heap.push {cls:=.type "slice",data:=.fields #[vl,vu,.none]}};exact tail_any (ops:=[.ref s3.heap.objs.size,v]) ht hT hg (by with_unfolding_all rfl)
def yE(xs:List V)(lo hi:Option Int):List V:=(xs.drop (HT.Ae xs.length 0 lo)).take (HT.Ae xs.length xs.length hi - HT.Ae xs.length 0 lo)
theorem Ah(xs:List V)(lo hi:Option Int):(yE xs lo hi).length<=xs.length:=by
 unfold yE;rw[List.length_take,List.length_drop];omega
def UA(K:ay):R2:=λx y H Q=>∃a b xs ys,x=.ref a/\y=.ref b/\a8 K H a xs/\a8 K H b ys/\xs≠[]/\xs.length + ys.length<=sizeLine /\
 (ys=[]->Q (.ref a) H)/\(ys≠[]->∀p,H p=none->Q (.ref p) (upd H p (.tup (xs++ys))))
theorem Vals.yF{xs:List V}{us:List Value}(r:Vals xs us):us=[]↔xs=[]:=by
 cases r with
 | nil=>simp
 | cons _ _=>simp
theorem Nm:iE X (binaryOp .Add) (UA X.K):=by
 intro pins s σ H x y v u Q I rx ry h;obtain⟨a,b,xs,ys,rfl,rfl,ha,hb,hx,hz,q1,q2⟩:=h;cases rx;cases ry;obtain⟨its,r1,p1,_⟩:=I.tuple ha;obtain⟨qs,r2,p2,_⟩:=I.tuple hb;refine HT.Nk p1 p2 (λz=>hx (r1.yF.mp z)) (λz=>⟨.ref a,H,I,rfl,q1 (r2.yF.mp z)⟩) (λz=>?_) (by rw[← r1.length,← r2.length];exact hz);refine⟨.ref s.heap.objs.size,_,I.laid (t':=s.toks) (o:=.tup (xs++ys)) (λb ob q=>aaa _ q) (aaZ _) ?_,rfl,q2 (λw=>z (r2.yF.mpr w)) _ (I.hok.fresh (aaZ _))⟩;exact⟨by rw[abu];exact hz,_,r1.append r2,IsTup.new _ _⟩
end
def Hw(n:Nat)(i:Int):Option Nat:=if 0<=i then(if i < n then some i.toNat else none)else if -(n:Int)<=i then some (i + n).toNat else none
def um{α:Type}(xs:List α)(i:Int):Option α:=(Hw xs.length i).bind λj=>xs[j]?
theorem EH{n:Nat}{i:Int}{j:Nat}(h:Hw n i=some j):seqIndex? i n=some j/\j < n/\-(n:Int)<=i/\i < n:=by
 unfold Hw at h;by_cases h0:0<=i
 ·rw[aa7 h0]at h;by_cases h1:i < n
  ·rw[aa7 h1]at h;have e:i.toNat=j:=abc h;exact⟨by rw[seqIndex_of h0 h1,e],by omega,by omega,h1⟩
  ·rw[aa4 h1]at h;cases h
 ·rw[aa4 h0]at h;by_cases h1:-(n:Int)<=i
  ·rw[aa7 h1]at h;have e:(i + n).toNat=j:=abc h;exact⟨by rw[seqIndex_neg (by omega) h1,e],by omega,h1,by omega⟩
  ·rw[aa4 h1]at h;cases h
theorem yG{α:Type}{xs:List α}{i:Int}{v:α}(h:um xs i=some v):∃j,seqIndex? i xs.length=some j/\xs[j]?=some v/\j < xs.length/\-(xs.length:Int)<=i/\i < xs.length:=by
 unfold um at h
 cases e:Hw xs.length i with
 | none=>rw[e]at h;cases h
 | some j =>
  rw[e]at h;obtain⟨h1,h2,h3,h4⟩:=EH e;exact⟨j,h1,h,h2,h3,h4⟩
theorem aN{α:Type}{xs:List α}{j:Nat}{v:α}(h:xs[j]?=some v):um xs (j:Int)=some v:=by
 have hj:j < xs.length:=(dD h).1
 have e:Hw xs.length (j:Int)=some j:=by
  unfold Hw;rw[if_pos (by omega),if_pos (by omega)];simp
 unfold um;rw[e];exact h
def yH(b:Expr):Prop:=∀o i,subscripted b false o i=operate [o,i] (getItem o i)
def Mu(X:Cx)(r:R2):Prop :=
 ∀(value slice:Expr) (pins:List (Addr×Obj)) (s:Shared) (σ:St) (H:Hp) (x y:V) (v u:Value) (Q:VK),Inv X pins σ H s->RelV x v->RelV y u->r x y H Q ->
  subscripted slice false v u=operate [v,u] (getItem v u)->wpAny (model X.prog X.w) X.A (subscriptTail value slice v u) (EP X pins σ Q) X.xe s
def MtR(X:Cx)(id:String)(r:V->List V->Hp->VK->Prop):Prop :=
 ∀(pins:List (Addr×Obj)) (s:Shared) (σ:St) (H:Hp) (x:V) (xs:List V) (v:Value) (us:List Value) (Q:VK),Inv X pins σ H s->RelV x v->Vals xs us->r x xs H Q ->
  wpAny (model X.prog X.w) X.A (call (.builtin id) (v::us)) (EP X pins σ Q) X.xe s
section
variable {X:Cx} {a b:Expr} {ta tb:TE} {pos:Pos}
theorem Mu.or{r r':R2}(h:Mu X r)(h':Mu X r'):Mu X (λx y H Q=>r x y H Q∨r' x y H Q):=by
 intro value slice pins s σ H x y v u Q I rx ry q hs;rcases q with q | q
 ·exact h value slice pins s σ H x y v u Q I rx ry q hs
 ·exact h' value slice pins s σ H x y v u Q I rx ry q hs
theorem aC{r:R2}(hr:Mu X r)(ha:PE X a ta)(hb:PE X b tb)(hs:yH b):PE X (.Subscript a b pos) (Us r ta tb):=by
 intro pins s σ H Q I h;exact Subscript_ (QW ha hb I h λv u s2 x y H2 I2 rx ry q=>hr a b pins s2 σ H2 x y v u Q I2 rx ry q (hs _ _))
def UB(K:ay):R2:=λx y H Q=>∃p xs i v,x=.ref p/\y=.int i/\bg K H p xs/\um xs i=some v/\Q v H
def wY(K:ay):R2:=λx y H Q=>∃p xs i v,x=.ref p/\y=.int i/\a8 K H p xs/\um xs i=some v/\Q v H
def UC:R2:=λx y H Q=>∃z i c,x=.str z/\y=.int i/\z.length<=sizeLine/\um z.cps.toList i=some c/\Q (.str ⟨#[c]⟩) H
theorem bq:Mu X (UB X.K):=by
 intro value slice pins s σ H x y v u Q I rx ry h hs;obtain⟨p,xs,i,z,rfl,rfl,hq,he,q⟩:=h;cases rx;obtain⟨t,rfl⟩:=ry;obtain⟨its,r,pl,hz⟩:=I.list hq;obtain⟨j,h1,h2,h3,h4,h5⟩:=yG he;obtain⟨w,ew,rw'⟩:=r.get h2;have hl:=r.length;have hn:=rO;have fin:EP X pins σ Q w s:=⟨z,H,I,rw',q⟩;by_cases h0:0<=i
 ·have hj:i.toNat=j:=by
   rw[seqIndex_of h0 h5]at h1;exact abc h1
  exact item_listR pl.isList h0 (by omega) (by rw[hj];simpa using ew) fin hs
 ·have hj:(i + (its.toArray.size:Int)).toNat=j:=by
   rw[seqIndex_neg (by omega) h4]at h1;rw[abe,← hl];exact abc h1
  exact acd (x:=w) pl.isList.typeIs slot_list_getitem.lookup
   (wpAny_getItem_list_neg (Q:=λr s'=>r=w/\EP X pins σ Q r s') pl.isList (by omega) (by rw[List.size_toArray]<;>omega) (by omega) (by rw[hj];simpa using ew) ⟨rfl,fin⟩) hs
theorem aE:Mu X (wY X.K):=by
 intro value slice pins s σ H x y v u Q I rx ry h hs;obtain⟨p,xs,i,z,rfl,rfl,hq,he,q⟩:=h;cases rx;obtain⟨t,rfl⟩:=ry;obtain⟨its,r,pl,hz⟩:=I.tuple hq;obtain⟨j,h1,h2,h3,h4,h5⟩:=yG he;obtain⟨w,ew,rw'⟩:=r.get h2;have hl:=r.length;have hn:=rO;have fin:EP X pins σ Q w s:=⟨z,H,I,rw',q⟩;exact acd (x:=w) pl.typeIs slot_tuple_getitem.lookup
  (getItem_tuple (j:=j) (Q:=λr s'=>r=w/\EP X pins σ Q r s') pl (by omega) (by omega) (by rw[List.size_toArray,← hl];exact h1) (by simpa using ew) ⟨rfl,fin⟩) hs
theorem Q4:Mu X UC:=by
 intro value slice pins s σ H x y v u Q I rx ry h hs;obtain⟨z,i,c,rfl,rfl,hz,he,q⟩:=h;obtain⟨t,rfl⟩:=rx;obtain⟨t',rfl⟩:=ry;obtain⟨j,h1,h2,h3,h4,h5⟩:=yG he;have hl:z.cps.toList.length=z.length:=by simp[Str.length]
 rw[hl]at h1 h4 h5;have hn:=rO
 exact tail_any (typeIs_str s z t) slot_str_getitem.lookup (getItem_str (c:=c) (by
  have e1:decide (i < -(2 ^ 63:Int))=false:=decide_eq_false (by omega);have e2:decide (i ≥ 2 ^ 63)=false:=decide_eq_false (by omega);rw[e1,e2,Bool.or_false]) (by rw[h1];simpa using h2) ⟨.str ⟨#[c]⟩,H,I.tok _,⟨_,rfl⟩,q⟩) hs
def rIx(K:ay):R2:=λx y H Q=>UB K x y H Q∨wY K x y H Q∨UC x y H Q
theorem Ih:Mu X (rIx X.K):=bq.or (aE.or Q4)
theorem CS(its:List Value)(n j:Nat)(u:Value):Obj.mapSeq (·.setIfInBounds j u) {cls:=.type "list",data:=.seq its.toArray n}={cls:=.type "list",data:=.seq (its.set j u).toArray n}:=by
 simp[Obj.mapSeq]
theorem Inv.lst{pins:List (Addr×Obj)}{σ:St}{H:Hp}{s:Shared}{p:Addr}{xs:List V}(I:Inv X pins σ H s)(h:H p=some (.lst xs)):
  ∃(its:List Value) (n:Nat),Vals xs its/\s.heap.get? p=some {cls:=.type "list",data:=.seq its.toArray n}/\xs.length<=sizeLine:=by
 obtain⟨z,its,n,r,e⟩:=I.hok p _ h;exact⟨its,n,r,e,z⟩
theorem Inv.Q5{pins:List (Addr×Obj)}{σ:St}{H:Hp}{s:Shared}{p:Addr}{xs ys:List V}{its its':List Value}{n n':Nat}{f:Obj->Obj}(I:Inv X pins σ H s)(h:H p=some (.lst xs))
  (ho:s.heap.get? p=some {cls:=.type "list",data:=.seq its.toArray n}) (hf:f {cls:=.type "list",data:=.seq its.toArray n}={cls:=.type "list",data:=.seq its'.toArray n'}) (r:Vals ys its') (hz:ys.length<=sizeLine) (t:Nat) :
  Inv X pins σ (upd H p (.lst ys)) {s with heap:=s.heap.update p f,toks:=t}:=by
 have e:(s.heap.update p f).get? p=some {cls:=.type "list",data:=.seq its'.toArray n'}:=by
  rw[Heap.get?_update_self f ho (by rw[hf]<;>rfl),hf]
 refine I.write (x:=p) (e:=p) (by rw[h];trivial) (.inl rfl) (λb u hb q=>(ace _ _ (aci hb)).trans q) ⟨_,e⟩ ?_;exact⟨hz,its',n',r,e⟩
def UD:V->V->V->Hp->(Hp->Prop)->Prop:=λo i v H Q=>∃p xs k j,o=.ref p/\i=.int k/\H p=some (.lst xs)/\Hw xs.length k=some j/\Q (upd H p (.lst (xs.set j v)))
theorem set_list:Um X UD:=by
 intro pins s σ H o i v ov iv u Q I ro ri rv h;obtain⟨p,xs,k,j,rfl,rfl,hp,hj,q⟩:=h;cases ro;obtain⟨t,rfl⟩:=ri;obtain⟨its,n,r,ho,hz⟩:=I.lst hp;obtain⟨h1,h2,h3,h4⟩:=EH hj;have hl:=r.length;have hn:=rO
 have I':Inv X pins σ (upd H p (.lst (xs.set j v))) {s with heap:=s.heap.update p (Obj.mapSeq (·.setIfInBounds j u))} :=
  I.Q5 hp ho (CS its n j u) (r.set rv j) (by rw[abF];exact hz) s.toks
 by_cases h0:0<=k
 ·have hk:k.toNat=j:=by
   rw[seqIndex_of h0 h4]at h1;exact abc h1
  exact PySem.W.ki_setAt ho h0 (by omega) (by rw[abe,← hl];exact h4) (by rw[hk];exact⟨_,I',q⟩)
 ·have hk:(k + (its.toArray.size:Int)).toNat=j:=by
   rw[seqIndex_neg (by omega) h3]at h1;rw[abe,← hl];exact abc h1
  exact PySem.W.ki_setBack ho (by omega) (by rw[abe,← hl];exact h3) (by omega) (by rw[hk];exact⟨_,I',q⟩)
theorem yI(lo hi:Option Int)(n:Nat):(sliceBounds lo hi none n).1=((HT.Ae n 0 lo:Nat):Int)/\(sliceBounds lo hi none n).2.1=((HT.Ae n n hi:Nat):Int)/\(sliceBounds lo hi none n).2.2=1:=by
 refine⟨?_,?_,rfl⟩
 ·cases lo with
  | none=>simp[sliceBounds,HT.Ae]
  | some i =>
   simp only[sliceBounds,HT.Ae,Option.getD_none,show(1:Int) > 0 by decide,if_true];by_cases h:i < 0
   ·simp only[h,if_true]<;>omega
   ·simp only[h,if_false]<;>omega
 ·cases hi with
  | none=>simp[sliceBounds,HT.Ae]
  | some i =>
   simp only[sliceBounds,HT.Ae,Option.getD_none,show(1:Int) > 0 by decide,if_true];by_cases h:i < 0
   ·simp only[h,if_true]<;>omega
   ·simp only[h,if_false]<;>omega
theorem wZ(its:List Value)(lo hi:Option Int):slicePick its.toArray lo hi none=((its.drop (HT.Ae its.length 0 lo)).take (HT.Ae its.length its.length hi - HT.Ae its.length 0 lo)).toArray:=by
 obtain⟨h1,h2,h3⟩:=yI lo hi its.toArray.size;unfold slicePick;rw[h1,h2,h3];simp only[sliceRange_one,pick_run,List.size_toArray]<;>rfl
def Xy(K:ay):V->Option Int->Option Int->Hp->VK->Prop:=λx lo hi H Q=>∃a xs,x=.ref a/\bg K H a xs/\∀p,H p=none->Q (.ref p) (upd H p (.lst (yE xs lo hi)))
theorem EI:SlR X (Xy X.K):=by
 intro pins s σ H x v vl vu lo hi sl Q I rx hs pl pu h;obtain⟨a,xs,rfl,hx,q⟩:=h;cases rx;obtain⟨its,r,ht,hz⟩:=I.list hx;have hlen:=r.length;refine⟨"list",_,slot_list_getitem.lookup,ht.isList.typeIs,?_⟩;refine wpAny_getItem_list_slice ht.isList hs pl pu .none (by simp) ?_ (by rw[List.size_toArray]<;>omega)
 rw[wZ,← hlen];refine⟨.ref s.heap.objs.size,_,I.laid (t':=s.toks) (o:=.lst (yE xs lo hi)) (λb ob q=>aaa _ q) (aaZ _) ?_,rfl,q _ (I.hok.fresh (aaZ _))⟩;exact⟨abj (Ah xs lo hi) hz,_,0,(r.drop (HT.Ae xs.length 0 lo)).take (HT.Ae xs.length xs.length hi - HT.Ae xs.length 0 lo),aa8 _ rfl⟩
def jg:V->Bool
 | .non=>true
 | .bl _=>true
 | .int _=>true
 | .str _=>true
 | _=>false
def Hx:V->V->Bool
 | .non,.non=>true
 | .bl a,.bl b=>a == b
 | .bl a,.int b=>(if a then 1 else 0) == b
 | .int a,.bl b=>a == (if b then 1 else 0)
 | .int a,.int b=>a == b
 | .str a,.str b=>a == b
 | _,_=>false
theorem Q6{A:Around}{s:Shared}{y x:V}{u v:Value}(ry:RelV y u)(rx:RelV x v)(fy:jg y=true)(fx:jg x=true):SeqAt.EqAt A s u v (Hx y x):=by
 cases y with
 | non =>
  cases ry
  cases x with
  | non=>cases rx;exact SeqAt.EqAt.same _
  | bl b=>cases rx;exact SeqAt.EqAt.none_bool b
  | int b=>obtain⟨t,rfl⟩:=rx;exact SeqAt.EqAt.none_int b t
  | str b=>obtain⟨t,rfl⟩:=rx;exact SeqAt.EqAt.none_str b t
  | _=>exact absurd (show false=true from fx) aac
 | bl a =>
  cases ry
  cases x with
  | non=>cases rx;exact SeqAt.EqAt.bool_none a
  | bl b=>cases rx;exact SeqAt.EqAt.bool_bool a b
  | int b=>obtain⟨t,rfl⟩:=rx;exact SeqAt.EqAt.bool_int a b t
  | str b=>obtain⟨t,rfl⟩:=rx;exact SeqAt.EqAt.bool_str a b t
  | _=>exact absurd (show false=true from fx) aac
 | int a =>
  obtain⟨t',rfl⟩:=ry
  cases x with
  | non=>cases rx;exact SeqAt.EqAt.int_none a t'
  | bl b=>cases rx;exact SeqAt.EqAt.int_bool a t' b
  | int b=>obtain⟨t,rfl⟩:=rx;exact SeqAt.EqAt.int_int a t' b t
  | str b=>obtain⟨t,rfl⟩:=rx;exact SeqAt.EqAt.int_str a t' b t
  | _=>exact absurd (show false=true from fx) aac
 | str a =>
  obtain⟨t',rfl⟩:=ry
  cases x with
  | non=>cases rx;exact SeqAt.EqAt.str_none a t'
  | bl b=>cases rx;exact SeqAt.EqAt.str_bool a t' b
  | int b=>obtain⟨t,rfl⟩:=rx;exact SeqAt.EqAt.str_int a t' b t
  | str b=>obtain⟨t,rfl⟩:=rx;exact SeqAt.EqAt.str_str a t' b t
  | _=>exact absurd (show false=true from fx) aac
 | _=>exact absurd (show false=true from fy) aac
def Nn(x:V)(u:Value):Bool:=match u with
 | .none=>Hx .non x
 | .bool b=>Hx (.bl b) x
 | .int i _=>Hx (.int i) x
 | .str z _=>Hx (.str z) x
 | _=>false
theorem Ii{x y:V}{u:Value}(r:RelV y u)(f:jg y=true):Nn x u=Hx y x:=by
 cases y with
 | non=>cases r;rfl
 | bl b=>cases r;rfl
 | int i=>obtain⟨t,rfl⟩:=r;rfl
 | str z=>obtain⟨t,rfl⟩:=r;rfl
 | _=>exact absurd (show false=true from f) aac
theorem yJ{x:V}:∀{xs:List V} {us:List Value},Vals xs us->xs.all jg=true->us.any (Nn x)=xs.any λy=>Hx y x
 | _,_,.nil,_=>rfl
 | y::xs,u::us,.cons r t,f=>by
  rw[List.all_cons,Bool.and_eq_true]at f;rw[List.any_cons,List.any_cons,Ii r f.1,yJ t f.2]
theorem vg{A:Around}{s:Shared}{x:V}{v:Value}(rx:RelV x v)(fx:jg x=true):∀{xs:List V} {us:List Value},Vals xs us->xs.all jg=true->∀u∈us,SeqAt.EqAt A s u v (Nn x u)
 | _,_,.nil,_=>λu hu=>by cases hu
 | y::xs,u::us,.cons r t,f=>λu' hu=>by
  rw[List.all_cons,Bool.and_eq_true]at f;rcases abH.mp hu with rfl | hu
  ·rw[Ii r f.1];exact Q6 r rx f.1 fx
  ·exact vg rx fx t f.2 u' hu
def Np(x:V)(xs:List V):Bool:=xs.any λy=>Hx y x
def rIn(K:ay)(neg:Bool):R2:=λx y H Q=>∃p xs,y=.ref p/\(bg K H p xs∨a8 K H p xs)/\jg x=true/\xs.all jg=true/\Q (.bl (if neg then !Np x xs else Np x xs)) H
theorem nY:iE X (compareOp .In) (rIn X.K false):=by
 intro pins s σ H x y v u Q I rx ry h;obtain⟨p,xs,rfl,hq,fx,fs,q⟩:=h;cases ry;rcases hq with hq | hq
 ·obtain⟨its,r,pl,hz⟩:=I.list hq;refine SeqAt.in_listAt (Nn x) pl.isList (λw hw=>vg rx fx r fs w (by simpa using hw)) ⟨.bl _,H,I,rfl,?_⟩;rw[show its.toArray.any (Nn x)=its.any (Nn x)by simp,yJ r fs];exact q
 ·obtain⟨its,r,pl,hz⟩:=I.tuple hq;refine SeqAt.in_tupleAt (Nn x) pl (λw hw=>vg rx fx r fs w (by simpa using hw)) ⟨.bl _,H,I,rfl,?_⟩;rw[show its.toArray.any (Nn x)=its.any (Nn x)by simp,yJ r fs];exact q
theorem bu:fB X (.builtin "len") (λxs H Q=>∃p ys,xs=[.ref p]/\(bg X.K H p ys∨a8 X.K H p ys)/\Q (.int ys.length) H):=by
 intro pins s σ H xs us Q I r h;obtain⟨p,ys,rfl,hq,q⟩:=h;obtain⟨u,rfl,rx⟩:=vals1 r;cases rx;have hn:=rO;rcases hq with hq | hq
 ·obtain⟨its,r',pl,hz⟩:=I.list hq;have hlen:=r'.length;exact Calls.call_len_list pl.isList (by simp only[List.size_toArray]<;>omega) ⟨.int ys.length,H,I.tok _,⟨s.toks + 1,by rw[List.size_toArray,hlen]⟩,q⟩
 ·obtain⟨its,r',pl,hz⟩:=I.tuple hq;have hlen:=r'.length;exact len_tuple pl (by simp only[List.size_toArray]<;>omega) ⟨.int ys.length,H,I.tok _,⟨s.toks + 1,by rw[List.size_toArray,hlen]⟩,q⟩
theorem yK:fB X (.builtin "len") (λxs H Q=>∃z,xs=[.str z]/\z.length<=sizeLine/\Q (.int z.length) H):=by
 intro pins s σ H xs us Q I r h;obtain⟨z,rfl,hz,q⟩:=h;obtain⟨u,rfl,t,rfl⟩:=vals1 r;have hn:=rO;exact len_str (by omega) ⟨.int z.length,H,I.tok _,⟨_,rfl⟩,q⟩
theorem bN:fB X (.type "list") (λxs H Q=>∃p ys,xs=[.ref p]/\(bg X.K H p ys∨a8 X.K H p ys)/\∀l,H l=none->Q (.ref l) (upd H l (.lst ys))):=by
 intro pins s σ H xs us Q I r h;obtain⟨p,ys,rfl,hq,q⟩:=h;obtain⟨u,rfl,rx⟩:=vals1 r;cases rx;have fin:∀(its:List Value),Vals ys its->ys.length<=sizeLine->∀(h':Heap) (c':Nat),(∀b o',s.heap.get? b=some o'->h'.get? b=some o') ->
   h'.get? s.heap.objs.size=some {cls:=.type "list",dict:=none,data:=.seq its.toArray c',slots:=#[]}->EP X pins σ Q (.ref s.heap.objs.size) {s with heap:=h'}:=λits r' hz h' c' kp e =>
  ⟨.ref s.heap.objs.size,_,I.laid (t':=s.toks) kp (aaZ _) (show gi X.prog X.w _ h' _ (.lst ys)from ⟨hz,its,c',r',e⟩),rfl,q _ (I.hok.fresh (aaZ _))⟩
 rcases hq with hq | hq
 ·obtain⟨its,r',pl,hz⟩:=I.list hq;have hlen:=r'.length;obtain⟨o,ho,hc,n,hd⟩:=pl.isList;exact call_list_seq p (.inl rfl) ho hc hd (λh' c' kp e=>fin its r' hz h' c' kp e) (by simp only[List.size_toArray]<;>omega)
 ·obtain⟨its,r',pl,hz⟩:=I.tuple hq;have hlen:=r'.length;obtain⟨o,ho,hc,n,hd⟩:=pl;exact call_list_seq p (.inr rfl) ho hc hd (λh' c' kp e=>fin its r' hz h' c' kp e) (by simp only[List.size_toArray]<;>omega)
theorem iO:fB X (.type "tuple") (λxs H Q=>∃p ys,xs=[.ref p]/\((bg X.K H p ys/\∀l,H l=none->Q (.ref l) (upd H l (.tup ys)))∨(a8 X.K H p ys/\Q (.ref p) H))):=by
 intro pins s σ H xs us Q I r h;obtain⟨p,ys,rfl,h⟩:=h;obtain⟨u,rfl,rx⟩:=vals1 r;cases rx;rcases h with⟨hq,q⟩ | ⟨hq,q⟩
 ·obtain⟨its,r',pl,hz⟩:=I.list hq;have hlen:=r'.length;refine call_tuple_list pl.isList (λh' kp=>?_) (by simp only[List.size_toArray]<;>omega)
  have I1:Inv X pins σ H {s with heap:=h'}:=I.kept (t':=s.toks) kp
  have I2:Inv X pins σ (upd H h'.objs.size (.tup ys)) {s with heap:=h'.push {cls:=.type "tuple",data:=.seq its.toArray}} :=
   I1.laid (t':=s.toks) (λb o e=>aaa _ e) (aaZ _) (show gi X.prog X.w _ _ _ (.tup ys)from ⟨hz,its,r',IsTup.new _ _⟩)
  exact⟨.ref h'.objs.size,_,I2,rfl,q _ (I1.hok.fresh (aaZ _))⟩
 ·obtain⟨its,r',pl,hz⟩:=I.tuple hq;exact call_tuple_same pl ⟨.ref p,H,I,rfl,q⟩
def Xz(K:ay)(T:String)(x:V)(H:Hp):Prop:=match x with
 | .str _=>T="str"
 | .int _=>T="int"
 | .ref p=>(T="list"/\∃xs,bg K H p xs)∨(T="tuple"/\∃o,K.lookup p=some o/\o.cls=.type "tuple"/\o.dict=none) ∨
   (T="dict"/\((∃kvs,H p=some (.dK kvs))∨∃kvs,H p=some (.dT kvs)))∨(T="set"/\∃S n,H p=some (.set S n))
 | _=>False
theorem Ij{pins:List (Addr×Obj)}{σ:St}{H:Hp}{s:Shared}{T:String}{x:V}{v:Value}(I:Inv X pins σ H s)(r:RelV x v)(ty:Xz X.K T x H):
  s.TypeIs v T/\∀a,v=.ref a->∃ob,s.heap.get? a=some ob/\ob.dict=none:=by
 cases x with
 | str z =>
  obtain⟨t,rfl⟩:=r;cases (show T="str" from ty);exact⟨typeIs_str s z t,λ_ e=>nomatch e⟩
 | int i =>
  obtain⟨t,rfl⟩:=r;cases (show T="int" from ty);exact⟨ab8 s i t,λ_ e=>nomatch e⟩
 | ref p =>
  cases r;rcases ty with⟨rfl,xs,hq⟩ | ⟨rfl,o,hk,hc,hd⟩ | ⟨rfl,hk⟩ | ⟨rfl,S,n,hk⟩
  ·obtain⟨its,_,pl,_⟩:=I.list hq;refine⟨pl.isList.typeIs,λa e=>?_⟩;cases e;obtain⟨o,n,e,c,hd,_⟩:=pl;exact⟨o,e,hd⟩
  ·refine⟨⟨o,I.uk p o hk,hc⟩,λa e=>?_⟩;cases e;exact⟨o,I.uk _ o hk,hd⟩
  ·have z:∃o,s.heap.get? p=some o/\o.ExactDict:=by
    rcases hk with⟨kvs,hk⟩ | ⟨kvs,hk⟩
    ·obtain⟨_,_,_,_,o,_,_,e,ex,_⟩:=I.hok p _ hk;exact⟨o,e,ex⟩
    ·obtain⟨_,_,_,_,o,_,_,e,ex,_⟩:=I.hok p _ hk;exact⟨o,e,ex⟩
   obtain⟨o,e,ex⟩:=z;refine⟨⟨o,e,ex.1⟩,λa e2=>?_⟩;cases e2;exact⟨o,e,ex.2.1⟩
  ·obtain⟨o,_,_,_,e,ex,_⟩:=I.hok p _ hk;refine⟨⟨o,e,ex.1⟩,λa e2=>?_⟩;cases e2;exact⟨o,e,ex.2.1⟩
 | _=>exact False.elim ty
def UE(K:ay)(T:String)(r:V->List V->Hp->VK->Prop)(to:TE):TE:=λσ H Q=>to σ H λx H1=>Xz K T x H1/\r x [] H1 Q
def tBM(K:ay)(T:String)(r:V->List V->Hp->VK->Prop)(to:TE)(t:TA):TE:=λσ H Q=>to σ H λx H1=>Xz K T x H1/\t σ H1 λxs H2=>r x xs H2 Q
variable {o e:Expr} {es:List Expr} {to:TE} {t:TA} {name:Str} {apos cpos:Pos} {T id:String} {r:V->List V->Hp->VK->Prop}
theorem jC(pa:PlainAttrs T)(slot:Slot T name id)(hty:typeOf (.builtin id)=pure (.type "method_descriptor"))(hm:MtR X id r)(ho:PE X o to)
  (hbase:attributeBase o name X.env (eval o X.env)=eval o X.env:=by rfl) (hline:(apos.endLine == cpos.line)=true:=by rfl):PE X (.Call (.Attribute o name apos) [] [] cpos) (UE X.K T r to):=by
 intro pins s σ H Q I h;refine wpAny_Call_method0_late hbase hline (cg (ho pins s σ H _ I h) λv s1 ⟨x,H1,I1,r1,ty,q1⟩=>?_);obtain⟨h1,h2⟩:=Ij I1 r1 ty;exact⟨T,id,pa,slot,hty,h1,h2,acf rfl (PySem.evalArgs_none (hm pins s1 σ H1 x [] v [] Q I1 r1 .nil q1))⟩
theorem sS(pa:PlainAttrs T)(slot:Slot T name id)(hty:typeOf (.builtin id)=pure (.type "method_descriptor"))(hm:MtR X id r)(ho:PE X o to)(ha:PA X (e::es) t)
  (hbase:attributeBase o name X.env (eval o X.env)=eval o X.env:=by rfl)
  (hfew:((backTo cpos (starEach (e::es) X.env)).all (λx=>!x.1)&&(backToKw cpos (keywordEach [] X.env)).all (λx=>x.1.isSome)
   && decide ((e::es).length + ([]:List Keyword).length + (if ([]:List Keyword).isEmpty then 0 else 1) < 30))=true:=by rfl)
  (hline:(apos.endLine == cpos.line)=true:=by rfl) (hs:starEach (e::es) X.env=(false,eval e X.env)::starEach es X.env:=by rfl) (hplain:(backTo cpos (starEach es X.env)).any (·.1)=false:=by rfl) :
  PE X (.Call (.Attribute o name apos) (e::es) [] cpos) (tBM X.K T r to t):=by
 intro pins s σ H Q I h;refine wpAny_Call_method_late hbase hfew hline rfl (cg (ho pins s σ H _ I h) λv s1 ⟨x,H1,I1,r1,ty,q1⟩=>?_);obtain⟨h1,h2⟩:=Ij I1 r1 ty;refine⟨T,id,pa,slot,hty,h1,h2,?_⟩;have hA:=ha cpos pins s1 σ H1 _ I1 q1;rw[hs]at hA ⊢;refine acf (by show(false||(backTo cpos (starEach es X.env)).any (·.1))=false;rw[hplain]<;>rfl) (Calls.evalArgs_plain ?_)
 exact cg hA λus s2 ⟨vs,H2,I2,r2,q2⟩=>hm pins s2 σ H2 x vs v us Q I2 r1 r2 q2
end
def WH(X:Cx)(id:String)(r:V->List V->Hp->VK->Prop):Prop :=
 ∀(pins:List (Addr×Obj)) (s:Shared) (σ:St) (H:Hp) (x:V) (xs:List V) (v:Value) (us:List Value) (Q:VK),Inv X pins σ H s->RelV x v->Vals xs us->r x xs H Q ->
  wpAny (model X.prog X.w) X.A (call (.builtin id) (v::us)) (EP X pins σ Q) X.xe s
theorem Vals.one:∀{x:V} {us:List Value},Vals [x] us->∃u,us=[u]/\RelV x u
 | _,_,.cons r .nil=>⟨_,rfl,r⟩
theorem Vals.zero:∀{us:List Value},Vals [] us->us=[]
 | _,.nil=>rfl
theorem Vals.dropLast{xs:List V}{us:List Value}(h:Vals xs us):Vals xs.dropLast us.dropLast:=by
 induction h with
 | nil=>exact .nil
 | cons r t ih =>
  cases t with
  | nil=>exact .nil
  | cons q t'=>exact .cons r ih
theorem Vals.reverse{xs:List V}{us:List Value}(h:Vals xs us):Vals xs.reverse us.reverse:=by
 induction h with
 | nil=>exact .nil
 | cons r t ih=>rw[aca,aca];exact Vals.append ih (.cons r .nil)
theorem Vals.rep{xs:List V}{us:List Value}(h:Vals xs us):∀k:Nat,Vals (List.replicate k xs).flatten (List.replicate k us).flatten
 | 0=>.nil
 | k + 1=>by
  rw[abm,abm,abz,abz];exact Vals.append h (Vals.rep h k)
theorem CT{α:Type}(l:List α):l.eraseIdx (l.length - 1)=l.dropLast:=by
 induction l with
 | nil=>rfl
 | cons a r ih =>
  cases r with
  | nil=>rfl
  | cons b r =>
   have e:(a::b::r).length - 1=((b::r).length - 1) + 1:=by
    have h1:(a::b::r).length=r.length + 2:=rfl;have h2:(b::r).length=r.length + 1:=rfl;omega
   rw[e,List.eraseIdx_cons_succ,ih]
   all_goals rfl
theorem foldl_rep(its:List Value):∀(k:Nat) (acc:List Value),
  List.foldl (λx1 x2=>x1++x2) acc.toArray (List.replicate k its.toArray)=(acc++(List.replicate k its).flatten).toArray
 | 0,acc=>by simp
 | k + 1,acc=>by
  have e:acc.toArray++its.toArray=(acc++its).toArray:=by simp
  have e2:(acc++its)++(List.replicate k its).flatten=acc++(List.replicate (k + 1) its).flatten:=by
   rw[abm,abz,List.append_assoc]
  rw[← e2,← foldl_rep its k (acc++its),← e,abm,List.foldl_cons]
section
variable {X:Cx} {pins:List (Addr×Obj)} {σ:St} {H:Hp} {s:Shared} {l b:Addr} {xs ys zs:List V}
theorem Inv.Nq{its its':List Value}{n:Nat}{f:Array Value->Array Value}{t':Nat}(I:Inv X pins σ H s)(hH:H l=some (.lst xs))
  (e:s.heap.get? l=some {cls:=.type "list",data:=.seq its.toArray n}) (hf:f its.toArray=its'.toArray) (hv:Vals ys its') (hz:ys.length<=sizeLine) :
  Inv X pins σ (upd H l (.lst ys)) {s with heap:=s.heap.update l (Obj.mapSeq f),toks:=t'}:=by
 have q:=PySem.IsL.update e f;rw[hf]at q;refine I.write (x:=l) (e:=l) (by rw[hH];exact trivial) (.inl rfl) (λb' u hb hu=>(ace s.heap (Obj.mapSeq f) (aci hb)).trans hu) ⟨_,q⟩ ?_;exact⟨hz,its',_,hv,q⟩
theorem Inv.Ik{its:List Value}{t':Nat}(I:Inv X pins σ H s)(hv:Vals ys its)(hz:ys.length<=sizeLine):
  Inv X pins σ (upd H s.heap.objs.size (.lst ys)) {s with heap:=s.heap.push {cls:=.type "list",data:=.seq its.toArray},toks:=t'} :=
 I.laid (λ_ _ q=>aaa _ q) (aaZ _) ⟨hz,its,0,hv,aa8 _ rfl⟩
theorem Inv.fresh(I:Inv X pins σ H s):H s.heap.objs.size=none:=I.hok.fresh (aaZ _)
theorem Inv.Ai(I:Inv X pins σ H s)(hH:H l=some (.lst xs)):xs.length<=sizeLine/\∃(its:List Value) (n:Nat),Vals xs its/\xs.length=its.length/\s.heap.get? l=some {cls:=.type "list",data:=.seq its.toArray n}:=by
 obtain⟨z,its,n,r,e⟩:=I.hok l _ hH;exact⟨z,its,n,r,r.length,e⟩
theorem vh{n:Nat}(h:n<=sizeLine):Builtin.List.listTooLong n=false:=by
 unfold Builtin.List.listTooLong;exact decide_eq_false (by omega)
end
section
variable {X:Cx}
def Nr:V->List V->Hp->VK->Prop:=λx vs H Q=>∃l xs y,x=.ref l/\vs=[y]/\H l=some (.lst xs)/\xs.length < sizeLine/\Q .non (upd H l (.lst (xs++[y])))
theorem dP:WH X "list.append" Nr:=by
 intro pins s σ H x vs v us Q I rx rv h;obtain⟨l,xs,y,rfl,rfl,hH,hz,q⟩:=h;cases rx;obtain⟨u,rfl,ru⟩:=rv.one;obtain⟨z,its,n,r,hl,e⟩:=I.Ai hH;refine call_meets F.slot_list_append ⟨_,e,rfl⟩ F.entry_list_append (F.args_list_append_2 _ _) (PySem.list_append l its.toArray n u (by rw[List.size_toArray];omega)) ⟨e,?_⟩;refine⟨.non,_,I.Nq (its':=its++[u]) hH e (by simp) (r.append (.cons ru .nil)) ?_,rfl,q⟩;rw[List.length_append,List.length_singleton];omega
def Nt:V->List V->Hp->VK->Prop:=λx vs H Q=>∃l b xs zs,x=.ref l/\vs=[.ref b]/\H l=some (.lst xs)/\H b=some (.lst zs)/\xs.length + zs.length<=sizeLine/\Q .non (upd H l (.lst (xs++zs)))
theorem FJ:WH X "list.extend" Nt:=by
 intro pins s σ H x vs v us Q I rx rv h;obtain⟨l,b,xs,zs,rfl,rfl,hH,hB,hz,q⟩:=h;cases rx;obtain⟨u,rfl,ru⟩:=rv.one;cases ru;obtain⟨z,its,n,r,hl,e⟩:=I.Ai hH;obtain⟨z2,qs,n2,r2,EJ,e2⟩:=I.Ai hB;have hsz:its.toArray.size + qs.toArray.size<=sizeLine:=by rw[abe,abe];omega
 have hlong:¬ (!its.toArray.isEmpty&&Builtin.List.listTooLong (its.toArray.size + qs.toArray.size))=true:=by
  rw[vh hsz,Bool.and_false];exact aac
 refine ab2 F.slot_list_extend ⟨_,e,rfl⟩ F.entry_list_extend (F.args_list_extend_2 _ _)
  (AutoSeq1.list_extend_list_list_0 l its.toArray n b qs.toArray n2 hlong (by rw[abe];omega) (by omega)) ⟨e,e2,?_⟩
 refine⟨.non,_,I.Nq (its':=its++qs) hH e (by simp) (r.append r2) ?_,rfl,q⟩;rw[List.length_append];omega
def XA:V->List V->Hp->VK->Prop:=λx vs H Q=>∃l xs y,x=.ref l/\vs=[]/\H l=some (.lst xs)/\xs[xs.length - 1]?=some y/\Q y (upd H l (.lst xs.dropLast))
theorem kT:WH X "list.pop" XA:=by
 intro pins s σ H x vs v us Q I rx rv h;obtain⟨l,xs,y,rfl,rfl,hH,hy,q⟩:=h;cases rx;have hus:=rv.zero;subst hus;obtain⟨z,its,n,r,hl,e⟩:=I.Ai hH;obtain⟨u,hu,ru⟩:=r.get hy
 have hy':its.toArray[its.toArray.size - 1]?=some u:=by
  show its.toArray[its.length - 1]?=some u;rw[← Array.getElem?_toList,← hl];exact hu
 refine ab2 F.slot_list_pop ⟨_,e,rfl⟩ F.entry_list_pop (F.args_list_pop_1 _) (MeetsSeq.list_pop_last l its.toArray n u hy' (by rw[abe];omega)) ⟨e,?_⟩;refine⟨y,_,I.Nq (its':=its.dropLast) hH e ?_ r.dropLast ?_,ru,q⟩
 ·show its.toArray.eraseIdxIfInBounds (its.toArray.size - 1)=its.dropLast.toArray;rw[abe,List.eraseIdxIfInBounds_toArray,CT]
 ·rw[List.length_dropLast];omega
def Il:V->List V->Hp->VK->Prop:=λx vs H Q=>∃l xs,x=.ref l/\vs=[]/\H l=some (.lst xs)/\Q .non (upd H l (.lst xs.reverse))
theorem CU:WH X "list.reverse" Il:=by
 intro pins s σ H x vs v us Q I rx rv h;obtain⟨l,xs,rfl,rfl,hH,q⟩:=h;cases rx;have hus:=rv.zero;subst hus;obtain⟨z,its,n,r,hl,e⟩:=I.Ai hH;refine call_meets F.slot_list_reverse ⟨_,e,rfl⟩ F.entry_list_reverse (F.args_list_reverse_1 _) (AutoSeq1.list_reverse_list_0 l its.toArray n (by rw[List.size_toArray];omega)) ⟨e,?_⟩;refine⟨.non,_,I.Nq (its':=its.reverse) hH e (by simp) r.reverse ?_,rfl,q⟩;rw[List.length_reverse];omega
def XB:R2:=λx y H Q=>∃l b xs zs,x=.ref l/\y=.ref b/\H l=some (.lst xs)/\H b=some (.lst zs)/\xs.length + zs.length<=sizeLine/\∀p,H p=none->Q (.ref p) (upd H p (.lst (xs++zs)))
theorem Q7:iE X (binaryOp .Add) XB:=by
 intro pins s σ H x y v u Q I rx ry h;obtain⟨l,b,xs,zs,rfl,rfl,hH,hB,hz,q⟩:=h;cases rx;cases ry;obtain⟨z,its,n,r,hl,e⟩:=I.Ai hH;obtain⟨z2,qs,n2,r2,EJ,e2⟩:=I.Ai hB;refine PySem.P.add_list e e2 ?_ (by rw[List.size_toArray,List.size_toArray];omega);have ea:its.toArray++qs.toArray=(its++qs).toArray:=by simp
 rw[ea];exact⟨.ref _,_,I.Ik (t':=s.toks) (r.append r2) (by rw[abu];omega),rfl,q _ I.fresh⟩
def XC:R2:=λx y H Q=>∃l k xs,x=.ref l/\y=.int k/\H l=some (.lst xs)/\-(2 ^ 63)<=k/\k < 2 ^ 63/\xs.length * k.toNat<=sizeLine /\
 ∀p,H p=none->Q (.ref p) (upd H p (.lst (List.replicate k.toNat xs).flatten))
theorem len_rep{α:Type}(xs:List α)(k:Nat):(List.replicate k xs).flatten.length=k * xs.length:=by
 induction k with
 | zero=>simp
 | succ k ih=>rw[abm,abz,abu,ih,Nat.succ_mul,Nat.add_comm]
theorem Q8:iE X (binaryOp .Mult) XC:=by
 intro pins s σ H x y v u Q I rx ry h;obtain⟨l,k,xs,rfl,rfl,hH,h1,h2,hz,q⟩:=h;cases rx;obtain⟨t,rfl⟩:=ry;obtain⟨z,its,n,r,hl,e⟩:=I.Ai hH;have hlen:its.toArray.size * k.toNat<=sizeLine:=by rw[abe,← hl];exact hz
 have hcap:¬ its.toArray.size * k.toNat > (2 ^ 63 - 1) / 8:=by
  have:(sizeLine:Nat)<=(2 ^ 63 - 1) / 8:=by decide
  omega
 have hfit:¬ (!Builtin.List.listFitsIndex k)=true:=by
  rw[fitsIndex_both h1 h2];exact aac
 have hlong:¬ Builtin.List.listTooLong (its.toArray.size * k.toNat)=true:=by
  rw[vh hlen];exact aac
 have hnew:List.foldl (λx1 x2=>x1++x2) #[] (List.replicate (if its.toArray.isEmpty=true then 0 else k.toNat) its.toArray)=(List.replicate k.toNat its).flatten.toArray:=by
  have f0:∀m:Nat,List.foldl (λx1 x2=>x1++x2) #[] (List.replicate m its.toArray)=(List.replicate m its).flatten.toArray:=λm=>by
   have:=foldl_rep its m [];rw[acQ]at this;exact this
  rw[f0]
  cases its with
  | nil=>simp
  | cons a r'=>rw[if_neg (by simp)]
 refine ab4 (T:="list") (U:="int") (by decide) ⟨_,e,rfl⟩ (λs'=>ab8 s' k t) noFill_list_mul acR abX repeat_list acC.lookup
  (ab2 abX (ab8 s k t) acD (acv _ _) (int___rmul___int_list k t l its.toArray n)
   ⟨e,rfl,⟨_,e,rfl⟩,ab2 F.slot_list_mul ⟨_,e,rfl⟩ F.entry_list_mul (F.args_list_mul_2 _ _) (AutoListH.list___mul___list_int_3 l its.toArray n k t hfit hcap hlong) ⟨e,?_⟩⟩)
 rw[hnew];exact⟨.ref _,_,I.Ik (t':=s.toks) (r.rep k.toNat) (by rw[len_rep,Nat.mul_comm];exact hz),rfl,q _ I.fresh⟩
end
section
variable {prog:Program} {w:World} {A:Around} {E:Value->Shared->Prop} {s:Shared}
set_option maxRecDepth 100000 in
end
section
variable {X:Cx}
end
end L2
namespace Att
open PySem PySem.W PySem.Calls PyProof.Rows
theorem uo{P:Params}{h:Heap}:∀(ns:List Int) (vs:List Value),WellAll P h vs (ns.map WData.int)->IntsAre vs ns:=by
 intro ns
 induction ns with
 | nil =>
  intro vs w;rw[List.map_nil]at w;cases w;exact .nil
 | cons n ns ih =>
  intro vs w;rw[ab3]at w
  cases w with
  | cons a b =>
   cases a;exact .cons _ _ (ih _ b)
theorem FK{l:OpenLaw}{n:Nat}(hn:l.most=some n){P:Params}{h:Heap}{args:List WData}{vals:List Value}
  (hpre:l.row.toRowW.claim.pre args=true) (hwl:WellAll P h vals args) :
  ∃a vs ns,vals=[Value.ref a]/\args=[WData.list (ns.map WData.int)]/\h.get? a=some {cls:=.type "list",data:=.seq vs.toArray}/\IntsAre vs ns/\ns.length<=n:=by
 have hsh:WShape.hasAll [] args [.list .int]=true:=(pre_splitW hpre).1;have hc:l.pre.holds [] {args:=args}=true:=(pre_splitW hpre).2;obtain⟨d,r,rfl,h1,h2⟩:=hasAllW_cons hsh;obtain rfl:=hasAllW_nil h2;obtain⟨xs,rfl,h3⟩:=hasW_list h1;obtain⟨ns,rfl⟩:=items_int h3
 have hlen:ns.length<=n:=by
  unfold OpenLaw.pre at hc
  have h4:(WTm.not (.lt (.lit (.int (n:Int))) (.len (.arg 0)))).holds [] {args:=[.list (ns.map .int)]}=true:=by
   have h4:=(holds_andW hc).1;rw[hn]at h4;exact h4
  have h5:=condW_of h4 (w_not (w_lt w_lit (w_len_list (w_arg rfl))));rw[aab]at h5;refine Nat.le_of_not_lt λq=>?_
  have q':(n:Int) < ((ns.length:Nat):Int):=by omega
  first
   | (rw[abh q']at h5;exact absurd h5 (by decide))
   | (simp at h5;omega)
 cases hwl with
 | cons w1 w2 =>
  cases w2
  cases w1 with
  | list ho hall=>exact⟨_,_,ns,rfl,rfl,ho,uo ns _ hall,hlen⟩
theorem FL(l:OpenLaw)(args:List WData):l.row.toRowW.claim.post args (.bool true) args=true :=
 postW_of (r:=l.row.toRowW) (X:=(true == true))
  (show WShape.has [] (.bool true) .bool=true by first | rfl | decide | simp[WShape.has,WShape.arms,WShape.armsAll])
  (show(WTm.eq .res (.lit (.bool true))).value [] {args:=args,res:=some (.bool true),after:=args}=some (.bool (true == true))from w_eq_bool (w_res rfl) w_lit) rfl
theorem Aj{l:OpenLaw}{n:Nat}{q:Program}{loose:List Str}{XP:(Str->Option Value)->Heap->Prop}{YP:World->Heap->Prop}{d:DefRec}
  (hn:l.most=some n) (hdf:d.params.defaults=[])
  (call:∀(w:World) (s₀ s₁:Shared) (mg mb:Str->Option Value) (fa:Addr) (o:Obj) (pm cd doc:Value) (a:Addr) (vs:List Value) (ns:List Int),
   Ground q loose [] XP w s₀ mg mb s₁.heap->YP w s₁.heap ->
   s₁.heap.get? fa=some o->o.data=.func (docDef d.name d.params d.body d.scope pm cd doc)->s₁.heap.CodeRec cd d.name->mg d.name=some (.ref fa) ->
   s₁.heap.get? a=some {cls:=.type "list",data:=.seq vs.toArray}->IntsAre vs ns->ns.length<=n->s₁.gens=#[] ->
   codeAny (model l.prog w) callerA (.call (.ref fa) ⟨[.ref a],[]⟩) (λr s'=>r=.ok (.ret (.bool true))/\OldK s₁.heap s'.heap/\s'.os=s₁.os/\AllBare s'.gens) s₁) :
  WalkO q loose XP YP l.row.toRowW d [] (λf vs=>PySem.call f vs):=by
 intro w s₀ s₁ mg mb G Y fa o pm cd doc dV kV ho hd hcd hD hmg hg args vals as hpre hlay hrd hwl hlo;obtain rfl:dV=.none:=Dflts.none hD hdf;obtain rfl:kV=.none:=Dflts.noKw hD;obtain⟨a,vs,ns,rfl,rfl,hobj,hints,hlen⟩:=FK hn hpre hwl;refine enter_call (acm (call w s₀ s₁ mg mb fa o pm cd doc a vs ns G Y ho (fd_plain hd) hcd hmg hobj hints hlen hg) λr s' hq=>?_);obtain⟨rfl,h2,h3,h4⟩:=hq;exact⟨.inl ⟨.bool true,.bool true,[],rfl,λ_=>rfl,.bool true,FL l _,λ_=>⟨List.Pairwise.nil,λ_ hm=>(nomatch hm)⟩⟩,h2,h3,h4⟩
section
variable {prog:Program} {w:World} {A:Around} {E:Value->Shared->Prop} {s:Shared} {K:Frag}
end
end Att
namespace L2
open PySem PySem.Spec PyProof.Rows
theorem xN:∀{vs:List Value} {ns:List Int},IntsAre vs ns->Vals (ns.map V.int) vs
 | _,_,.nil=>.nil
 | _,_,.cons n t h=>.cons ⟨t,rfl⟩ (xN h)
def Q9(H:Hp):Prop:=∀b,H b=none∨∃o xs,H b=some (.rK o (.lst xs))
theorem Im{P:Program}{w:World}{K:ay}{mg mb:Str->Option Value}{CX:zY}{k:Nat}{fa a:Addr}{fd:FuncData}{x:Str}{sp:Sp}{s₁:Shared}{vs:List Value}{ns:List Int}
  (KX:K.In s₁.heap) (hns:s₁.heap.Ns mainGlobals mg) (hb:s₁.heap.Ns builtinsNs mb) (hbb:∀x:Str,x≠"__name__"->mb x=bootBuiltins x) (hlim:s₁.heap.NoLimit) (hg:s₁.gens=#[])
  (ha:s₁.heap.get? a=some {cls:=.type "list",data:=.seq vs.toArray}) (hi:IntsAre vs ns) (hl:ns.length<=sizeLine) (hr:cG k callerA)
  (F:∀base:Heap,K.In base->base.Ns mainGlobals mg->bh P w K mg base CX k fa fd [x] sp) (hbind:∀(s:Shared) (u:Value),BindsTo s fd ⟨[u],[]⟩ [(x,u)])
  (hsp:∀H:Hp,Q9 H->bg K H a (ns.map V.int)->sp [.ref a] H (λv _=>v=.bl true) λ_ _ _=>False)
  (hCX:∀H e s',CX [] H s₁ (λ_ _ _=>False) e s'->False) :
  codeAny (model P w) callerA (.call (.ref fa) ⟨[.ref a],[]⟩) (λr s'=>r=.ok (.ret (.bool true))/\OldK s₁.heap s'.heap/\s'.os=s₁.os/\AllBare s'.gens) s₁:=by
 have rv:=xN hi;have lenV:=hi.length;have core:∀H:Hp,Q9 H->bg K H a (ns.map V.int)->sP P w H s₁.heap->(∀b,H b≠none->b=a)->(H a≠none->K.lookup a=none) ->
   codeAny (model P w) callerA (.call (.ref fa) ⟨[.ref a],[]⟩) (λr s'=>r=.ok (.ret (.bool true))/\OldK s₁.heap s'.heap/\s'.os=s₁.os/\AllBare s'.gens) s₁:=by
  intro H hO hS hok hA hK;have base_of:∀{b:Addr} {o:Obj},s₁.heap.get? b=some o->H b=none->(yw s₁.heap H).get? b=some o:=λe n=>HK e n
  have noA:∀{b:Addr} {o:Obj} {es:Array DictEntry} {ep:Nat},s₁.heap.get? b=some o->o.data=.dict es ep->H b=none:=λ{b o es ep} e d=>by
   cases q:H b with
   | none=>rfl
   | some u =>
    have e':b=a:=hA b (by rw[q];simp);subst e';rw[ha]at e;cases e;have d':Data.seq vs.toArray _=Data.dict es ep:=d;cases d'
  have nsK:∀{b:Addr} {m:Str->Option Value},s₁.heap.Ns b m->(yw s₁.heap H).Ns b m:=λ{b m} ⟨o,es,ep,e,d,r⟩=>⟨o,es,ep,base_of e (noA e d),d,r⟩
  have hKb:K.In (yw s₁.heap H):=λb o e=>base_of (KX b o e) (by
   cases q:H b with
   | none=>rfl
   | some u =>
    have e':b=a:=hA b (by rw[q];simp);subst e';rw[hK (by rw[q];simp)]at e;cases e)
  have hM:Mod K mg (yw s₁.heap H):=⟨hKb,nsK hns,⟨mb,nsK hb,hbb⟩,let ⟨mc,h1,h2⟩:=hlim;⟨mc,nsK h1,h2⟩⟩;have e0:CQ P w K mg (yw s₁.heap H) callerA [] s₁ H:=⟨rfl,hM,λb o e=>MY e,Nat.le_of_eq (Fz _ _),trivial,λb hb=>absurd (show b∈([]:List Addr)from hb) (by simp),hok,.of_eq hg⟩;refine codeAny_mono ((F _ hKb (nsK hns)).run callerA [] s₁ H ⟨[.ref a],[]⟩ [.ref a] [.ref a] _ _ hr e0 (hbind s₁ (.ref a)) (.cons rfl .nil) (hsp H hO hS)) λr s' h=>?_
  cases r with
  | error e=>exact(hCX H e s' h).elim
  | ok fl =>
   cases fl with
   | next=>exact False.elim h
   | brk=>exact False.elim h
   | cont=>exact False.elim h
   | ret u =>
    obtain⟨v,H',os,bare,un,hok',r',q⟩:=h;have q':v=.bl true:=q;subst q';obtain rfl:u=Value.bool true:=r';refine⟨rfl,OldK.of_keep λb o e=>?_,os,bare⟩
    cases q:H b with
    | none=>exact un.keep b o e q (by intro z;exact absurd (show b∈([]:List Addr)from z) (by simp)) (by simp)
    | some u =>
     rcases hO b with z | ⟨ob,xs,z⟩
     ·rw[q]at z;cases z
     ·have z2:=un.eT b ob _ z;obtain⟨e1,_⟩:=hok b _ z;obtain⟨e2,_⟩:=hok' b _ z2;rw[e]at e1;cases e1;exact e2
 cases hk:K.lookup a with
 | some o =>
  have e:=KX a o hk;rw[ha]at e;cases e;refine core (λ_=>none) (λ_=>.inl rfl) (.inr ⟨_,vs.toArray,_,hk,rfl,rfl,rfl,by rw[List.size_toArray,lenV];exact hl,by simpa using rv⟩) (λb u z=>by have z':(none:Option HO)=some u:=z;cases z') (λb z=>absurd rfl z) λz=>absurd rfl z
 | none =>
  refine core (λb=>if b=a then some (.rK {cls:=.type "list",data:=.seq vs.toArray} (.lst (ns.map V.int)))else none) (λb=>?_) (.inl (.inr ⟨{cls:=.type "list",data:=.seq vs.toArray},aa7 rfl⟩)) (λb u z=>?_) (λb z=>?_) λ_=>hk
  ·by_cases hb:b=a
   ·exact .inr ⟨_,_,aa7 hb⟩
   ·exact .inl (aa4 hb)
  ·by_cases hb:b=a
   ·have z':=(aa7 hb).symm.trans z;cases z';subst hb;exact⟨ha,by rw[aab];exact hl,vs,_,rv,ha⟩
   ·have z':=(aa4 hb).symm.trans z;cases z'
  ·by_cases hb:b=a
   ·exact hb
   ·exact absurd (aa4 hb) z
theorem Nu{l:PySem.W.OpenLaw}{n k:Nat}{q:Program}{loose:List Str}{XP:(Str->Option Value)->Heap->Prop}{YP:World->Heap->Prop}{d:DefRec}{K:Params->ay}{CX:World->zY}{sp:World->Sp}{x:Str}
  (hn:l.most=some n) (WG:n<=sizeLine) (hdf:d.params.defaults=[]) (hr:cG k callerA)
  (hY:∀(w:World) (h:Heap),YP w h->(K w.params).In h)
  (F:∀(w:World) (mg:Str->Option Value) (fa:Addr) (h:Heap),(K w.params).In h->h.Ns mainGlobals mg->mg d.name=some (.ref fa) ->
   ∃fd:FuncData,(∀(s:Shared) (u:Value),BindsTo s fd ⟨[u],[]⟩ [(x,u)]) /\
    ∀base:Heap,(K w.params).In base->base.Ns mainGlobals mg->bh l.prog w (K w.params) mg base (CX w) k fa fd [x] (sp w))
  (hsp:∀(w:World) (H:Hp) (a:Addr) (ns:List Int),ns.length<=n->Q9 H->bg (K w.params) H a (ns.map V.int)->sp w [.ref a] H (λv _=>v=.bl true) λ_ _ _=>False)
  (hCX:∀(w:World) (H:Hp) (s:Shared) (e:Value) (s':Shared),CX w [] H s (λ_ _ _=>False) e s'->False) :
  PySem.W.WalkO q loose XP YP l.row.toRowW d [] (λf vs=>PySem.call f vs):=by
 refine Att.Aj hn hdf λw s₀ s₁ mg mb fa o pm cd doc a vs ns G Y ho hd hcd hmg hobj hints hlen hg=>?_
 have KX:=hY w _ Y;obtain⟨fd,hb,hF⟩:=F w mg fa _ KX G.T.g hmg;exact Im KX G.T.g G.T.b G.T.builtins G.T.nolimit hg hobj hints (abj hlen WG) hr hF hb (λH hO hS=>hsp w H a ns hlen hO hS) λH e s'=>hCX w H s₁ e s'
def iC(s:Stmt)(j:Nat):Stmt:=match s with
 | .ClassDef _ _ _ body _ _ _ _ _ _ _=>body.getD j (.Pass ⟨0,0,0,0⟩)
 | _=>.Pass ⟨0,0,0,0⟩
def dA(s:Stmt):Arguments:=match s with
 | .FunctionDef _ a _ _ _ _ _ _ _ _=>a
 | _=>{posonlyargs:=[],args:=[],vararg:=none,kwonlyargs:=[],kw_defaults:=[],kwarg:=none,defaults:=[]}
def dB(s:Stmt):List Stmt:=match s with
 | .FunctionDef _ _ b _ _ _ _ _ _ _=>b
 | _=>[]
def dS(s:Stmt):Scope:=match s with
 | .FunctionDef _ _ _ _ _ _ sc _ _ _=>sc
 | _=>{kind:=.function,names:=[],isGenerator:=false,isCoroutine:=false}
abbrev aU:zY:=λ_ _ _ _ _ _=>False
abbrev E0:XK:=λ_ _ _=>False
theorem dQ{X:Cx}:Passes aU X E0:=λ_ _ _ _ _ _ _ h=>h.elim
structure eO(K:ay)(x qual:Str)(st:Stmt)(f:Addr)(fd:FuncData):Prop where
 ex:∃(oc:Value) (od:Option Addr) (kV doc pm:Value) (an:Option Addr) (cdv ct:Value) (osl:Array (Option Value)),
  fd=PySem.W.fnOf x qual (dA st) (dB st) (dS st) .none kV doc pm an cdv ct/\K.lookup f=some ⟨oc,od,.func fd,osl⟩/\PySem.W.codeIn K cdv qual=true
 kp:PySem.W.keepIn K (.ref f)=true
section
variable {P:Program} {w:World} {K:ay} {mg:Str->Option Value} {base:Heap}
theorem eO.ok{x qual:Str}{st:Stmt}{f:Addr}{fd:FuncData}{N ps:List Str}{k:Nat}{sp:Sp}(F:eO K x qual st f fd)(S:aB N ps (dS st))(len:∀vs H Q E,sp vs H Q E->vs.length=ps.length)
  (hbody:∀(cdv:Value) (A:Around) (outer:List Env) (s:Shared) (H:Hp) (vs:List V) (Q:VK) (E:XK),cG k (A.deeper (envOfC qual (dS st) s.heap.objs.size f cdv))->sp vs H Q E ->
   ∃t,sQ (vf aU P w K mg base N qual (dS st) f cdv A outer s H E).WD (dB st) t/\t {nx:=λ_ H'=>Q .non H',rt:=Q} (start N vs) H):bh P w K mg base aU (k + 1) f fd ps sp:=by
 obtain⟨oc,od,kV,doc,pm,an,cdv,ct,osl,rfl,lk,hcd⟩:=F.ex;refine Qi lk hcd S len λA outer s H vs Q E hr hsp=>?_
 obtain⟨t,h,q⟩:=hbody cdv A outer s H vs Q E hr hsp;exact⟨t,h.WD,q⟩
theorem eO.binds{x qual:Str}{st:Stmt}{f:Addr}{fd:FuncData}{ps:List Str}(F:eO K x qual st f fd)
  (h:∀(kV doc pm:Value) (an:Option Addr) (cdv ct:Value) (us:List Value),us.length=ps.length->bindArgs (PySem.W.fnOf x qual (dA st) (dB st) (dS st) .none kV doc pm an cdv ct) ⟨us,[]⟩=pure (ps.zip us)):Binds K fd ps []:=by
 obtain⟨oc,od,kV,doc,pm,an,cdv,ct,osl,rfl,lk,hcd⟩:=F.ex;exact .all (h kV doc pm an cdv ct)
theorem CV{x qual:Str}{st:Stmt}{f:Addr}{oc:Value}{od an:Option Addr}{osl:Array (Option Value)}{kV doc pm cdv ct:Value}(l:K.lookup f=some ⟨oc,od,.func (PySem.W.fnOf x qual (dA st) (dB st) (dS st) .none kV doc pm an cdv ct),osl⟩)
  (c:PySem.W.codeIn K cdv qual=true) (k:PySem.W.keepIn K (.ref f)=true):eO K x qual st f (PySem.W.fnOf x qual (dA st) (dB st) (dS st) .none kV doc pm an cdv ct):=⟨⟨oc,od,kV,doc,pm,an,cdv,ct,osl,rfl,l,c⟩,k⟩
end
theorem sK{n:Nat}(h:n<=1000):n < sizeLine:=abb h (by decide)
section
variable {X:Cx}
theorem pv(i:Nat){x:Str}{pos:Pos}(hN:X.N[i]?=some x:=by rfl)(hv:WC X.env.scope x:=by first | exact aaW rfl | exact acY (aaW rfl) | exact acY (acY rfl))(hd:(x == ("__debug__" : Str))=false:=by decide)
  (hcd:(x == ("__classdict__" : Str))=false:=by decide):PE X (.Name x pos) (QS i):=HM hN hv hd hcd
end
theorem cu{A B:Prop}(h:B):if false=true then A else B:=by
 rw[aa4 aac];exact h
theorem dY{A B:Prop}(h:A):if true=true then A else B:=by
 rw[aa7 rfl];exact h
theorem vi{c A B:Prop}[Decidable c](h1:c->A)(h2:¬ c->B):if c then A else B:=by
 by_cases h:c
 ·rw[aa7 h];exact h1 h
 ·rw[aa4 h];exact h2 h
def aA(H H':Hp):Prop:=∀b o,H b=some o->H' b=some o
theorem aA.refl(H:Hp):aA H H:=λ_ _ h=>h
theorem aA.trans{H H1 H2:Hp}(a:aA H H1)(b:aA H1 H2):aA H H2:=λc o h=>b c o (a c o h)
theorem aA.free{H H':Hp}(e:aA H H'){l:Addr}(h:H' l=Option.none):H l=Option.none:=by
 cases q:H l with
 | none=>rfl
 | some o =>
  rw[e l o q]at h;cases h
theorem aA.seq{K:ay}{H H':Hp}{a:Addr}{xs:List V}(e:aA H H')(h:bg K H a xs):bg K H' a xs:=by
 rcases h with(h | ⟨o,h⟩) | h
 ·exact .inl (.inl (e _ _ h))
 ·exact .inl (.inr ⟨o,e _ _ h⟩)
 ·exact .inr h
open PySem PySem.Spec
theorem gI:bootBuiltins "len"=some (.builtin "len"):=by decide +kernel
theorem oB:bootBuiltins "isinstance"=some (.builtin "isinstance"):=by decide +kernel
theorem Io:bootBuiltins "max"=some (.builtin "max"):=by decide +kernel
theorem Ra:bootBuiltins "min"=some (.builtin "min"):=by decide +kernel
theorem Rb:bootBuiltins "all"=some (.builtin "all"):=by decide +kernel
theorem Rc:bootBuiltins "int"=some (.type "int"):=by decide +kernel
theorem gm:bootBuiltins "list"=some (.type "list"):=by decide +kernel
theorem vj:bootBuiltins "tuple"=some (.type "tuple"):=by decide +kernel
theorem Rf:bootBuiltins "zip"=some (.type "zip"):=by decide +kernel
theorem w6:bootBuiltins "ValueError"=some (.type "ValueError"):=by decide +kernel
theorem iP{c A B:Prop}[Decidable c](h:¬ c)(b:B):if decide c=true then A else B:=by rw[aa9 h];exact cu b
theorem xO{c A B:Prop}[Decidable c](h:c)(a:A):if decide c=true then A else B:=by rw[abh h];exact dY a
theorem Rg{c A B:Prop}[Decidable c](h:c)(b:B):if (!decide c)=true then A else B:=by rw[abh h];exact cu b
theorem Rh{c A B:Prop}[Decidable c](h:¬ c)(a:A):if (!decide c)=true then A else B:=by rw[aa9 h];exact dY a
theorem ifB{b:Bool}{A B:Prop}(h:b=true)(a:A):if b=true then A else B:=by rw[h];exact dY a
theorem XE{b:Bool}{A B:Prop}(h:b=false)(a:B):if b=true then A else B:=by rw[h];exact cu a
structure c9(P:Program)(w:World)(K:ay)(mg:Str->Option Value)(base:Heap)(CX:zY)(x:Str)(k:Nat)(ps:List Str)(sp:Sp):Prop where
 ex:∃(f:Addr) (fd:FuncData),bh P w K mg base CX k f fd ps sp/\Binds K fd ps []/\PySem.W.keepIn K (.ref f)=true/\mg x=some (.ref f)
section
variable {X:Cx} {x:Str} {k:Nat} {ps:List Str} {sp:Sp} {e:Expr} {es:List Expr} {t:TA} {p pos:Pos}
theorem dr(h:c9 X.prog X.w X.K X.mg X.base aU x k ps sp)(hr:cG k X.A)(hg:Gl X x)(ha:PA X (e::es) t)(hdb:(x == ("__debug__" : Str))=false:=by decide)
  (he:starEach (e::es) X.env=(false,eval e X.env)::starEach es X.env:=by rfl) (hpl:(backTo pos (starEach es X.env)).any (·.1)=false:=by rfl) :
  PE X (.Call (.Name x p) (e::es) [] pos) (EC sp [] E0 t):=by
 obtain⟨f,fd,F,b,kp,m⟩:=h.ex;exact ED F hr hg m kp b .nil dQ ha hdb he hpl
end
theorem aA.tup{K:ay}{H H':Hp}{a:Addr}{xs:List V}(e:aA H H')(h:a8 K H a xs):a8 K H' a xs:=by
 rcases h with(h | ⟨o,h⟩) | h
 ·exact .inl (.inl (e _ _ h))
 ·exact .inl (.inr ⟨o,e _ _ h⟩)
 ·exact .inr h
inductive aR(K:ay)(H:Hp):V->PyData->Prop
 | non:aR K H .non .none
 | bl (b:Bool):aR K H (.bl b) (.bool b)
 | int (i:Int):aR K H (.int i) (.int i)
 | str (x:Str):aR K H (.str x) (.str x)
 | lst {a:Addr} {xs:List V} {ds:List PyData} (h:bg K H a xs) (hl:xs.length=ds.length) (hi:∀(i:Nat) (x:V) (d:PyData),xs[i]?=some x->ds[i]?=some d->aR K H x d):aR K H (.ref a) (.list ds)
 | tup {a:Addr} {xs:List V} {ds:List PyData} (h:a8 K H a xs) (hl:xs.length=ds.length) (hi:∀(i:Nat) (x:V) (d:PyData),xs[i]?=some x->ds[i]?=some d->aR K H x d):aR K H (.ref a) (.tuple ds)
def aG(K:ay)(H:Hp)(xs:List V)(ds:List PyData):Prop:=xs.length=ds.length/\∀(i:Nat) (x:V) (d:PyData),xs[i]?=some x->ds[i]?=some d->aR K H x d
theorem aG.nil{K:ay}{H:Hp}:aG K H [] []:=⟨rfl,λi x d h=>by simp at h⟩
theorem aG.cons{K:ay}{H:Hp}{x:V}{d:PyData}{xs:List V}{ds:List PyData}(h:aR K H x d)(r:aG K H xs ds):aG K H (x::xs) (d::ds) :=
 ⟨by simp[r.1],λi y e h1 h2=>by
  cases i with
  | zero=>simp at h1 h2;subst h1;subst h2;exact h
  | succ i=>exact r.2 i y e (by simpa using h1) (by simpa using h2)⟩
theorem aR.Ip{K:ay}{H:Hp}{a:Addr}{xs:List V}{ds:List PyData}(h:bg K H a xs)(r:aG K H xs ds):aR K H (.ref a) (.list ds):=.lst h r.1 r.2
theorem aR.jD{K:ay}{H:Hp}{a:Addr}{xs:List V}{ds:List PyData}(h:a8 K H a xs)(r:aG K H xs ds):aR K H (.ref a) (.tuple ds):=.tup h r.1 r.2
theorem aR.same{K:ay}{H H':Hp}(e:aA H H'){v:V}{d:PyData}(h:aR K H v d):aR K H' v d:=by
 induction h with
 | non=>exact .non
 | bl b=>exact .bl b
 | int i=>exact .int i
 | str x=>exact .str x
 | lst h hl hi ih=>exact .lst (e.seq h) hl ih
 | tup h hl hi ih=>exact .tup (e.tup h) hl ih
theorem aG.same{K:ay}{H H':Hp}(e:aA H H'){xs:List V}{ds:List PyData}(h:aG K H xs ds):aG K H' xs ds:=⟨h.1,λi x d h1 h2=>(h.2 i x d h1 h2).same e⟩
theorem kU{h:Heap}:∀{xs:List V} {us:List Value} {ds:List PyData},Vals xs us->xs.length=ds.length->(∀(i:Nat) (x:V) (d:PyData) (u:Value),xs[i]?=some x->ds[i]?=some d->RelV x u->∃as,Reads h u d as)->∃as,ReadsAll h us ds as
 | [],_,[],.nil,_,_=>⟨[],.nil⟩
 | [],_,_::_,_,hl,_=>nomatch hl
 | _::_,_,[],_,hl,_=>nomatch hl
 | x::xs,u::us,d::ds,.cons r t,hl,hi=>by
  obtain⟨as,ha⟩:=hi 0 x d u rfl rfl r;obtain⟨bs,hb⟩:=kU t (by simpa using hl) λi y e w h1 h2=>hi (i + 1) y e w (by simpa using h1) (by simpa using h2)
  exact⟨as++bs,.cons ha hb⟩
section
variable {X:Cx} {pins:List (Addr×Obj)} {σ:St} {H:Hp} {s:Shared}
theorem aR.reads(I:Inv X pins σ H s){v:V}{d:PyData}(h:aR X.K H v d):∀{u:Value},RelV v u->∃as,Reads s.heap u d as:=by
 induction h with
 | non=>intro u r;cases r;exact⟨_,.none⟩
 | bl b=>intro u r;cases r;exact⟨_,.bool b⟩
 | int i=>intro u r;obtain⟨t,rfl⟩:=r;exact⟨_,.int i t⟩
 | str x=>intro u r;obtain⟨t,rfl⟩:=r;exact⟨_,.str x t⟩
 | lst h hl hi ih =>
  intro u r;cases r;obtain⟨its,rv,⟨o,n,e,c,_,d⟩,hz⟩:=I.list h;obtain⟨as,ha⟩:=kU (h:=s.heap) rv hl λi x d u h1 h2 r=>ih i x d h1 h2 r
  exact⟨_,.list e c d ha⟩
 | tup h hl hi ih =>
  intro u r;cases r;obtain⟨its,rv,⟨o,e,c,n,d⟩,hz⟩:=I.tuple h;obtain⟨as,ha⟩:=kU (h:=s.heap) rv hl λi x d u h1 h2 r=>ih i x d h1 h2 r
  exact⟨_,.tuple e c d ha⟩
end
section
variable {X:Cx}
def Ri(K:ay):R2:=λx y H Q=>∃d d',aR K H x d/\aR K H y d'/\PySem.SeqAt.shaped d=true/\PySem.SeqAt.shaped d'=true/\Q (.bl (PyData.eqv d d')) H
def UG(K:ay):R2:=λx y H Q=>∃d d',aR K H x d/\aR K H y d'/\PySem.SeqAt.shaped d=true/\PySem.SeqAt.shaped d'=true/\Q (.bl (!PyData.eqv d d')) H
theorem CY(hu:X.A.units + 64 < cLine):iE X (compareOp .Eq) (Ri X.K):=by
 intro pins s σ H x y v u Q I rx ry h;obtain⟨d,d',h1,h2,s1,s2,q⟩:=h;obtain⟨as,r1⟩:=h1.reads I rx;obtain⟨bs,r2⟩:=h2.reads I ry;exact eq_dataH r1 r2 s1 s2 hu ⟨.bl _,H,I,rfl,q⟩
theorem Rj(hu:X.A.units + 64 < cLine):iE X (compareOp .NotEq) (UG X.K):=by
 intro pins s σ H x y v u Q I rx ry h;obtain⟨d,d',h1,h2,s1,s2,q⟩:=h;obtain⟨as,r1⟩:=h1.reads I rx;obtain⟨bs,r2⟩:=h2.reads I ry;exact ne_dataH r1 r2 s1 s2 hu ⟨.bl _,H,I,rfl,q⟩
def UH(a:Addr):Heap->Prop:=λh=>∃o,h.get? a=some o/\o.cls=.type "dict"
inductive Rl(K:ay)(H:Hp):V->String->Prop
 | non:Rl K H .non "NoneType"
 | bl (b:Bool):Rl K H (.bl b) "bool"
 | int (i:Int):Rl K H (.int i) "int"
 | str (x:Str):Rl K H (.str x) "str"
 | lst {a:Addr} {xs:List V} (h:bg K H a xs):Rl K H (.ref a) "list"
 | tup {a:Addr} {xs:List V} (h:a8 K H a xs):Rl K H (.ref a) "tuple"
 | dct {a:Addr} (h:H a=some (.ext (UH a))):Rl K H (.ref a) "dict"
def uH(K:ay):List V->Hp->VK->Prop:=λxs H Q=>∃p ys,xs=[.ref p]/\(bg K H p ys∨a8 K H p ys)/\∀l,H l=none->Q (.ref l) (upd H l (.lst ys))
def Iq(i j:Int):Prop:=(-340282366920938463463374607431768211456 < i/\i < 340282366920938463463374607431768211456)/\(-340282366920938463463374607431768211456 < j/\j < 340282366920938463463374607431768211456)
theorem Iq.ok{i j:Int}(h:Iq i j):IntMulOk i j:=by
 have e:(2:Nat) ^ 128=340282366920938463463374607431768211456:=by decide
 obtain⟨⟨h1,h2⟩,h3,h4⟩:=h;have a:i.natAbs < 2 ^ 128:=by rw[e];omega
 have b:j.natAbs < 2 ^ 128:=by rw[e];omega
 exact IntMulOk.of_bits (abj (acL a) (by decide)) (abj (acL b) (by decide))
theorem Nv:iE X (binaryOp .Mult) (rI Iq λi j=>.int (i * j)):=TM λ_ _ _ _ _ _ _ hc q=>mul_int q hc.ok
end
def uq(cells:List (Str×Addr)):List (Str×NameKind)->List (Str×Addr)->List (Str×Addr)
 | [],cs=>cs
 | (n,k)::r,cs=>uq cells r (if k == .free then(match cells.lookup n with | some c=>(n,c)::cs | none=>cs)else cs)
theorem Ak{cells:List (Str×Addr)}:∀(names:List (Str×NameKind)) (cs:List (Str×Addr)),(∀x c,cs.lookup x=some c->cells.lookup x=some c)->∀x c,(uq cells names cs).lookup x=some c->cells.lookup x=some c
 | [],_,h=>h
 | (n,k)::r,cs,h=>by
  refine Ak r _ λx c e=>?_
  split at e
  ·split at e
   ·rename_i c' hc;rw[acE]at e;by_cases z:(x == n)=true
    ·rw[z]at e;have z':x=n:=by simpa using z
     rw[z'];exact hc.trans e
    ·rw[acg]at z;rw[z]at e;exact h x c e
   ·exact h x c e
  ·exact h x c e
theorem xP{cells:List (Str×Addr)}{x:Str}{c:Addr}(hx:cells.lookup x=some c):∀(names:List (Str×NameKind)) (cs:List (Str×Addr)),cs.lookup x=some c->(uq cells names cs).lookup x=some c
 | [],_,h=>h
 | (n,k)::r,cs,h=>by
  refine xP hx r _ ?_;split
  ·split
   ·rename_i c' hc;rw[acE];by_cases z:(x == n)=true
    ·rw[z];have z':x=n:=by simpa using z
     rw[z']at hx;exact hc.symm.trans hx
    ·rw[acg]at z;rw[z];exact h
   ·exact h
  ·exact h
theorem vk{cells:List (Str×Addr)}{x:Str}{c:Addr}(hx:cells.lookup x=some c):∀(names:List (Str×NameKind)) (cs:List (Str×Addr)),(x,NameKind.free)∈names->(uq cells names cs).lookup x=some c
 | [],_,h=>nomatch h
 | (n,k)::r,cs,h=>by
  rcases abH.mp h with e | h
  ·cases e;refine xP hx r _ ?_;simp[hx,List.lookup_cons]
  ·exact vk hx r _ h
theorem oC{env:Env}{scope:Scope}(h:∀y∈scope.names,y.2=NameKind.free->∃c,env.cells.lookup y.1=some c):closureFor scope env=pure (uq env.cells scope.names []):=by
 have go:∀(names:List (Str×NameKind)) (cs:List (Str×Addr)),(∀y∈names,y.2=NameKind.free->∃c,env.cells.lookup y.1=some c) ->
   (forIn names cs λx (r:List (Str×Addr))=>if (x.2 == NameKind.free)=true then do let c ← cellOf env x.1;pure (ForInStep.yield ((x.1,c)::r))else pure (ForInStep.yield r):Sem (List (Str×Addr)))=pure (uq env.cells names cs):=by
  intro names
  induction names with
  | nil=>intro cs _;rfl
  | cons y r ih =>
   intro cs hy;obtain⟨n,k⟩:=y;rw[List.forIn_cons];by_cases hk:k=NameKind.free
   ·subst hk;obtain⟨c,hc⟩:=hy _ List.mem_cons_self rfl;have hc':env.cells.lookup n=some c:=hc;have hcell:cellOf env n=pure c:=by simp only[cellOf,hc']
    simp only[hcell,beq_self_eq_true,if_true,pure_bind];rw[ih _ λy hm=>hy y (List.mem_cons_of_mem _ hm)];simp only[uq,beq_self_eq_true,if_true,hc']
   ·have hb:(k == NameKind.free)=false:=by simpa using hk
    simp only[hb,Bool.false_eq_true,if_false,pure_bind];rw[ih _ λy hm=>hy y (List.mem_cons_of_mem _ hm)];simp only[uq,hb,Bool.false_eq_true,if_false]
 have e:=go scope.names [] h;unfold closureFor;simp only[bind_pure]at e ⊢;exact e
theorem vm{scope:Scope}{env:Env}(x:Str):(relabel scope env).names.lookup x=(scope.names.lookup x).map λk=>if (k == NameKind.free&&env.scope.kind == .function&&env.kindOf x == some .cell)=true then .cell else k:=by
 show(scope.names.map λ(n,k)=>if (k == NameKind.free&&env.scope.kind == .function&&env.kindOf n == some .cell)=true then(n,NameKind.cell)else(n,k)).lookup x=_
 induction scope.names with
 | nil=>rfl
 | cons y r ih =>
  obtain⟨n,k⟩:=y;rw[ab3];by_cases z:(x == n)=true
  ·have z':x=n:=by simpa using z
   subst z';by_cases hc:(k == NameKind.free&&env.scope.kind == .function&&env.kindOf x == some .cell)=true
   ·simp only[hc,if_true,List.lookup_cons,beq_self_eq_true,Option.map_some]
   ·simp only[hc,if_false,List.lookup_cons,beq_self_eq_true,Option.map_some,Bool.false_eq_true]
  ·rw[acg]at z;by_cases hc:(k == NameKind.free&&env.scope.kind == .function&&env.kindOf n == some .cell)=true
   ·simp only[hc,if_true,List.lookup_cons,z];exact ih
   ·simp only[hc,if_false,List.lookup_cons,z,Bool.false_eq_true];exact ih
theorem dR{α β:Type}[BEq α][LawfulBEq α]{x:α}{b:β}:∀{l:List (α×β)},l.lookup x=some b->(x,b)∈l
 | [],h=>by simp at h
 | (n,k)::r,h=>by
  rw[acE]at h;by_cases z:(x == n)=true
  ·rw[z]at h;have z':x=n:=by simpa using z
   cases h;rw[z'];exact abD
  ·rw[acg]at z;rw[z]at h;exact abN _ (dR h)
def Cx.qt(X:Cx)(N:List Str)(scope:Scope)(C:Addr)(ex:List Addr)(s:Shared)(H:Hp):Cx where
 prog:=X.prog
 w:=X.w
 K:=X.K
 mg:=X.mg
 base:=X.base
 A:=X.A
 N:=N
 s₀:=s
 H₀:=H
 env:=compEnvC scope (uq X.env.cells scope.names []) C X.env
 outer:=X.stack
 stack:=X.stack
 ex:=ex
 fn:=λ_=>false
 calm:=X.calm
 pn:=[]
 xe:=λ_ _=>False
structure qu(X:Cx)(own:Nat)(N:List Str)(ix:List Nat)(scope:Scope):Prop where
 kind:scope.kind=.function
 calm:X.calm=true
 free:scope.names.all (λy=>y.2 != .free||X.env.kindOf y.1 == some .cell)=true
 cell:scope.names.all (λy=>y.2 != .cell)=true
 loc:scope.names.all (λy=>y.2 != .local||scope.names.lookup y.1 == some .local)=true
 ixs:(ix.map λi=>X.N[i]?)=(N.drop own).map some
 fr:(N.drop own).all (λx=>scope.names.lookup x == some .free)=true
 len:N.length=own + ix.length
def dZ(own:Nat)(ix:List Nat)(σ:St):St:=List.replicate own none++ix.map λi=>(σ[i]?).getD none
theorem CZ(own:Nat)(ix:List Nat)(σ:St):(dZ own ix σ).drop own=ix.map λi=>(σ[i]?).getD none:=by
 unfold dZ;rw[List.drop_left' (by simp)]
theorem xQ{own:Nat}{ix:List Nat}{σ:St}{j:Nat}{v:V}(h:(dZ own ix σ)[j]?=some (some v)):∃i,own<=j/\ix[j - own]?=some i/\σ[i]?=some (some v):=by
 unfold dZ at h;by_cases hj:j < own
 ·rw[List.getElem?_append_left (by simpa using hj)]at h;rw[List.getElem?_replicate]at h;simp[hj]at h
 ·rw[List.getElem?_append_right (by simpa using hj)]at h;rw[List.length_replicate,List.getElem?_map]at h
  cases e:ix[j - own]? with
  | none=>rw[e]at h;simp at h
  | some i =>
   rw[e]at h;refine⟨i,by omega,rfl,?_⟩;have h':(σ[i]?).getD none=some v:=by simpa using h
   cases q:σ[i]? with
   | none=>rw[q]at h';simp at h'
   | some o=>rw[q]at h';simp at h';rw[h']
theorem C0{own:Nat}{ix:List Nat}{σ σ2:St}(hd:σ2.drop own=ix.map λi=>(σ[i]?).getD none):∀(j:Nat) v,(dZ own ix σ)[j]?=some (some v)->σ2[j]?=some (some v):=λj v h=>by
 by_cases hj:j < own
 ·obtain⟨i,h1,_⟩:=xQ h;omega
 ·have e:(dZ own ix σ)[j]?=((dZ own ix σ).drop own)[j - own]?:=by rw[abY];congr 1;omega
  have e2:σ2[j]?=(σ2.drop own)[j - own]?:=by rw[abY];congr 1;omega
  rw[e,CZ,← hd,← e2]at h;exact h
section
variable {X:Cx} {pins:List (Addr×Obj)} {σ:St} {H:Hp} {s:Shared} {own:Nat} {N:List Str} {ix:List Nat} {scope:Scope}
theorem qu.has(B:qu X own N ix scope)(I:Inv X pins σ H s):∀y∈scope.names,y.2=NameKind.free->X.env.kindOf y.1=some .cell/\∃c,X.env.cells.lookup y.1=some c:=λy hy e=>by
 have z:=List.all_eq_true.mp B.free y hy;rw[e]at z;have z':X.env.kindOf y.1=some .cell:=by simpa using z
 exact⟨z',I.ok.has y.1 (.inl z')⟩
theorem FN{C:Addr}{ex:List Addr}{h':Heap}{tk:Nat}(B:qu X own N ix scope)(I:Inv X pins σ H s)(hC:C=s.heap.objs.size)(hx:∀b∈ex,qp X pins H b)(hlt:∀b∈ex,b < s.heap.objs.size)
  (hn:h'.Ns C (λ_=>none)) (hk:∀b o,s.heap.get? b=some o->h'.get? b=some o):Inv (X.qt N scope C ex s H) [] (dZ own ix σ) H {s with heap:=h',toks:=tk}:=by
 have sub:∀x c,(uq X.env.cells scope.names []).lookup x=some c->X.env.cells.lookup x=some c:=Ak scope.names [] λx c e=>by simp at e
 have nb:∀b o,X.base.get? b=some o->b∉ex:=λb o e hb=>by
  rcases (hx b hb).2.2.2.1 with z | z
  ·exact I.ok.noex b o e z
  ·exact absurd (aa0 (aaY e) (abj I.ok.bsz z)) (abC _)
 have nstk:∀b∈ex,b∉aT X.stack:=λb hb z=>by
  rcases abH.mp (I.CA b z)with e | e
  ·exact(hx b hb).2.1 e
  ·exact(hx b hb).2.2.1 e
 refine⟨⟨I.ok.mod,B.kind,I.ok.glob,I.ok.blt,?_,λx y c e1 e2=>I.ok.inj x y c (sub x c e1) (sub y c e2),λx hk'=>?_,(λ_ _ z=>absurd (show false=true from z) (by decide)),I.ok.hd,I.ok.frames,.inl rfl,λb hb=>⟨?_,λx c e=>(hx b hb).2.2.2.2.1 x c (sub x c e)⟩,
  λb o e=>I.bs b o e,abj I.ok.bsz I.sz,nb,nstk,I.stack,I.yx⟩,rfl,I.bare,Un.kept hk,⟨_,hn,λj x v e1 e2 e3=>?_⟩,λx c e=>?_,?_,λx c e=>I.freeC x c (sub x c e),(λp hp=>nomatch hp),I.hok.kept hk,?_⟩
 ·show s.heap.objs.size<=C;exact acF hC.symm
 ·have hk'':(relabel scope X.env).names.lookup x=some .cell∨(relabel scope X.env).names.lookup x=some .free:=hk';rw[vm]at hk''
  have hf:scope.names.lookup x=some .free:=by
   cases q:scope.names.lookup x with
   | none=>rw[q]at hk'';rcases hk'' with z | z<;>cases z
   | some k =>
    rw[q]at hk'';by_cases hkf:k=.free
    ·rw[hkf]
    ·exfalso
     have hb:(k == NameKind.free)=false:=by simpa using hkf
     have hm:=List.all_eq_true.mp B.cell (x,k) (dR q);simp only[Option.map_some,hb,Bool.false_and,Bool.false_eq_true,if_false]at hk'';rcases hk'' with z | z
     ·rw[Option.some.inj z]at hm;exact absurd hm (by simp)
     ·exact hkf (abc z)
  obtain⟨_,c,hc⟩:=B.has I (x,.free) (dR hf) rfl;exact⟨c,vk hc scope.names [] (dR hf)⟩
 ·show b≠C;rw[hC];exact aa5 (hlt b hb)
 ·obtain⟨i,h1,h2,h3⟩:=xQ e2;have hN:N[j]?=some x:=e1
  have hxN:X.N[i]?=some x:=by
   have e:(ix.map λi=>X.N[i]?)[j - own]?=((N.drop own).map some)[j - own]?:=by rw[B.ixs]
   rw[aa1,h2,aa1,abY]at e;have hj:own + (j - own)=j:=by omega
   rw[hj,hN]at e;simpa using e
  have hfr:scope.names.lookup x=some .free:=by
   have hm:x∈N.drop own:=by
    refine abd (i:=j - own) ?_;rw[abY,show own + (j - own)=j by omega];exact hN
   have:=List.all_eq_true.mp B.fr x hm;simpa using this
  obtain⟨hkc,c,hc⟩:=B.has I (x,.free) (dR hfr) rfl;obtain⟨m,hm,hl⟩:=I.loc;obtain⟨u,r,l⟩:=hl i x v hxN h3 (.inr (.inl hkc));refine⟨u,r,?_⟩;rcases l with⟨z,_⟩ | ⟨_,c',hc',hz⟩
  ·have z':X.env.kindOf x=some .local:=z;have hkc':X.env.kindOf x=some .cell:=hkc;rw[hkc']at z';cases z'
  ·rw[hc]at hc';cases hc';refine .inr ⟨.inl ?_,c,vk hc scope.names [] (dR hfr),?_⟩
   ·show(relabel scope X.env).names.lookup x=some .cell;rw[vm,hfr];have hkc':X.env.kindOf x=some .cell:=hkc;have hkf:X.env.scope.kind=.function:=I.ok.kind;simp[hkc',hkf]
   ·obtain⟨o,ho,hd⟩:=hz;exact⟨o,hk _ _ ho,hd⟩
 ·obtain⟨v,o,ho,hd⟩:=I.cell x c (sub x c e);exact⟨v,o,hk _ _ ho,hd⟩
 ·show H C=none;exact I.hok.fresh (acF hC.symm)
 ·show(dZ own ix σ).length=N.length;rw[B.len];simp[dZ]
theorem Nw{C:Addr}{ex:List Addr}{σ':St}{H':Hp}{s':Shared}(I:Inv X pins σ H s)(hx:∀b∈ex,qp X pins H b)(I':Inv (X.qt N scope C ex s H) [] σ' H' s'):Inv X pins σ H' s' :=
 I.HL (ch:=ex) I'.os I'.base I'.hok I'.bare λb hb=>⟨(hx b hb).2.2.2.1,(hx b hb).2.1,(hx b hb).2.2.2.2.1,(hx b hb).2.2.2.2.2⟩
def TN(X:Cx)(ifs:List Expr)(tt:TT):Prop:=∀(pins:List (Addr×Obj)) (s:Shared) (σ:St) (H:Hp) (Q:Bool->Hp->Prop),Inv X pins σ H s->tt σ H Q ->
 wpAny (model X.prog X.w) X.A (forIn ifs true λc r=>if r=true then do let ok ← isTrue c X.env (eval c X.env);pure (ForInStep.yield ok)else pure (ForInStep.yield r)) (TP X pins σ Q) X.xe s
def XF:TT:=λ_ H Q=>Q true H
theorem jE{X:Cx}:TN X [] XF:=λ_ _ _ H _ I h=>wpAny_tests_nil ⟨H,I,h⟩
theorem Ny{X:Cx}{c:Expr}{t:TT}(h:PT X c t):TN X [c] t:=λpins s σ H Q I q=>wpAny_tests_one (h pins s σ H Q I q)
def WI(J:It)(own:Nat)(ix:List Nat)(σ:St)(g:TG)(tt:TT)(te:TE)(D:Addr)(H1:Hp)(Q:VK):Prop:=∃W:Nat->Nat->List V->Hp->Prop,
 (∃m,W 0 m [] (upd H1 D (.lst [])))/\∀i m ys H2,W i m ys H2->H2 D=some (.lst ys)/\((J.stop i H2/\Q (.ref D) H2)∨(J.go i H2/\ys.length < sizeLine/\∃Nx:List V->Hp->Prop,(∀ys' H',Nx ys' H'->∃m',m' < m/\W (i + 1) m' ys' H')/\∀x H3,J.yld i H2 x H3 ->
  g x (dZ own ix σ) H3 λσ2 H4=>σ2.drop own=(ix.map λi=>(σ[i]?).getD none)/\tt σ2 H4 λb H5=>if b=true then te σ2 H5 λv H6=>H6 D=some (.lst ys)/\Nx (ys++[v]) (upd H6 D (.lst (ys++[v])))else Nx ys H5))
def XG(own:Nat)(ix:List Nat)(wi:TI)(g:TG)(tt:TT)(te:TE):TE:=λσ H Q=>wi σ H λJ H1=>∀D,H1 D=none->WI J own ix σ g tt te D H1 Q
theorem Al{prog:Program}{w:World}{A:Around}{R:Result->Shared->Prop}{s:Shared}{elt target iter:Expr}{ifs:List Expr}{scope:Scope}{pos:Pos}{it acc:Value}{env:Env}(I:Nat->Shared->Prop)
  (turn:∀n s,I n s->wpAny (model prog w) A (pyNext it) (λr s1=>match r with
   | none=>R (.ok .next) s1
   | some v=>wpAny (model prog w) A (letOwnedTupleGo target it v) (λ_ s1'=>wpAny (model prog w) A (assign target env v) (λ_ s2 =>
     wpAny (model prog w) A (forIn ifs true λc r=>if r=true then do let ok ← isTrue c env (eval c env);pure (ForInStep.yield ok)else pure (ForInStep.yield r)) (λok s3 =>
      if ok=true then wpAny (model prog w) A (eval elt env) (λx s4=>wpAny (model prog w) A (call (.builtin "list.append") [acc,x]) (λ_ s5=>∃m,m < n/\I m s5) (λ_ _=>False) s4) (λ_ _=>False) s3
      else ∃m,m < n/\I m s3) (λ_ _=>False) s2) (λ_ _=>False) s1') (λ_ _=>False) s1) (λ_ _=>False) s)
  (n:Nat) (h:I n s):codeAny (model prog w) A (.compLoop (.ListComp elt [⟨target,iter,ifs,0⟩] scope pos) 0 it acc env) R s:=by
 refine codeAny_loop rfl I (λn s hI=>?_) n h;show wpAny _ A ((compTurn (.ListComp elt [⟨target,iter,ifs,0⟩] scope pos) 0 it acc env).onRaise (λx=>do noteFrame x env;theTreesLotGoes x)) _ _ s;refine wpAny_noted ?_;rw[compTurn_list];refine aa6 (wpAny_standAt (aa6 (abn (turn n s hI) (λr s1 h1=>?_) λ_ _ z=>z.elim)))
 cases r with
 | none=>exact abg h1
 | some v =>
  refine aa6 (abn h1 (λ_ s1' h1'=>?_) λ_ _ z=>z.elim);refine aa6 (abn h1' (λ_ s2 h2=>aa6 (abn h2 (λok s3 h3=>?_) λ_ _ z=>z.elim)) λ_ _ z=>z.elim)
  cases ok with
  | false=>exact abg ⟨rfl,h3⟩
  | true=>exact aa6 (aa6 (abn h3 (λx s4 h4=>aa6 (abn h4 (λ_ s5 h5=>abg (abg ⟨rfl,h5⟩)) λ_ _ z=>z.elim)) λ_ _ z=>z.elim))
theorem EK{elt tg iter:Expr}{ifs:List Expr}{pos:Pos}{g:TG}{tt:TT}{te:TE}{it:Addr}{fp:List Addr}{tn:Nat->Heap->Prop}{J:It}{Q:VK}{E:Value->Shared->Prop}{RR:Value->Addr->Result->Shared->Prop}(B:qu X own N ix scope)
  (hin:∀(C:Addr) (s:Shared) (H:Hp),PG (X.qt N scope C fp s H) tg g/\TN (X.qt N scope C fp s H) ifs tt/\PE (X.qt N scope C fp s H) elt te)
  (I:Inv X pins σ H s) (T:Turn X.prog X.w X.K tg J fp it tn) (st:tn 0 s.heap) (hf:∀b∈fp,qp X pins H b)
  (h:∀D,H D=none->WI J own ix σ g tt te D H Q)
  (fin:∀(D C:Addr) (H':Hp) (s':Shared) (m:Str->Option Value),Inv X pins σ H' s'->s'.heap.Ns C m->H' C=none->C≠X.env.locals->(X.s₀.heap.objs.size<=C)->(∀x c,X.env.cells.lookup x=some c->c≠C)->(∀p∈X.pn++pins,p.1≠C)->Q (.ref D) H'->RR (.ref D) C (.ok .next) s') :
  wpAny (model X.prog X.w) X.A (newList []) (λacc s3=>wpAny (model X.prog X.w) X.A (newFunctionEnv scope X.env.globals (uq X.env.cells scope.names []) [] X.env.qual none .none (some X.env)) (λcenv s4 =>
   codeAny (model X.prog X.w) X.A (.compStart (.ListComp elt [⟨tg,iter,ifs,0⟩] scope pos) 0 (.ref it) acc {cenv with scope:=relabel scope X.env}) (RR acc cenv.locals) s4) E s3) E s:=by
 obtain⟨W,⟨m0,w0⟩,turn⟩:=h s.heap.objs.size I.fresh;refine wpAny_newObj_type ?_;have I3:=I.Ik (its:=[]) (ys:=[]) (t':=s.toks) .nil (abB _)
 have hcell:∀y∈scope.names,y.2≠NameKind.cell:=λy hy e=>by
  have:=abI.mp B.cell y hy;rw[e]at this;exact absurd this (by decide)
 refine wpAny_newFunctionEnv hcell (by intro y hy;simp at hy) (λh1 Rm Rn=>?_) B.kind;dsimp only at Rm Rn ⊢;generalize XH:s.heap.push {cls:=.type "list",dict:=none,data:=.seq ([]:List Value).toArray}=h2 at Rm Rn ⊢
 have I3':Inv X pins σ (upd H s.heap.objs.size (.lst [])) {s with heap:=h2}:=by
  have z:({s with heap:=s.heap.push {cls:=.type "list",data:=.seq ([]:List Value).toArray},toks:=s.toks}:Shared)={s with heap:=h2}:=by rw[← XH]
  rw[← z];exact I3
 have sz:h2.objs.size=s.heap.objs.size + 1:=by rw[← XH,Heap.size_push]
 have XI:∀b o,s.heap.get? b=some o->h2.get? b=some o:=λb o e=>by rw[← XH];exact aaa _ e
 have Qj:∀b o,h2.get? b=some o->h1.get? b=some o:=λb o e=>Rn.extBut b o (aa5 (aaY e)) (aaa _ e)
 have there:∀b∈fp,b < s.heap.objs.size:=λb hb=>by obtain⟨o,e,_⟩:=T.obj _ _ st b hb;exact aaY e
 have XJ:∀b∈fp,qp X pins (upd H s.heap.objs.size (.lst [])) b:=λb hb=>⟨by rw[uN (aa5 (there b hb))];exact(hf b hb).1,(hf b hb).2⟩
 have hn1:h1.Ns h2.objs.size (λ_=>none):=by simpa using Rm
 have I4:=FN (tk:=s.toks + ([]:List (Str×Value)).length) (own:=own) (N:=N) (ix:=ix) B I3' rfl XJ (λb hb=>aa0 (there b hb) (by show s.heap.objs.size<=h2.objs.size;rw[sz];exact acS _)) hn1 Qj;have Am:tn 0 h1:=T.keep _ _ _ st λb _ o e=>Qj b o (XI b o e)
 have Bc:(X.qt N scope h2.objs.size fp {s with heap:=h2} (upd H s.heap.objs.size (.lst []))).calm=true:=B.calm;obtain⟨pg,pif,pe⟩:=hin h2.objs.size {s with heap:=h2} (upd H s.heap.objs.size (.lst []))
 have fpb:∀{H':Hp},(∀b∈fp,H' b=none)->∀b∈fp,qp (X.qt N scope h2.objs.size fp {s with heap:=h2} (upd H s.heap.objs.size (.lst []))) [] H' b:=λhz b hb =>
  ⟨hz b hb,aa5 (aa0 (there b hb) (by show s.heap.objs.size<=h2.objs.size;rw[sz];exact acS _)),I4.ok.exfs b hb,.inl hb,λx c e=>(I4.ok.exf b hb).2 x c e,(λp hp=>nomatch hp)⟩
 have loop:∀s3:Shared,s3={s with heap:=h1,toks:=s.toks + ([]:List (Str×Value)).length} ->
   codeAny (model X.prog X.w) X.A (.compLoop (.ListComp elt [⟨tg,iter,ifs,0⟩] scope pos) 0 (.ref it) (.ref s.heap.objs.size) (compEnvC scope (uq X.env.cells scope.names []) h2.objs.size X.env)) (RR (.ref s.heap.objs.size) h2.objs.size) s3:=by
  rintro s3 rfl;refine Al (λn s'=>∃i ys H',Inv (X.qt N scope h2.objs.size fp {s with heap:=h2} (upd H s.heap.objs.size (.lst []))) [] (dZ own ix σ) H' s'/\tn i s'.heap/\(∀b∈fp,H' b=none)/\W i n ys H') ?_ m0
   ⟨0,[],_,I4,Am,λb hb=>(XJ b hb).1,w0⟩
  rintro n s5 ⟨i,ys,H5,I5,CI,WE,w5⟩;obtain⟨hD,t5⟩:=turn i n ys H5 w5;rcases t5 with⟨stop,qn⟩ | ⟨go,hz,Nx,hNx,step⟩
  ·refine cg (T.done (X.qt N scope h2.objs.size fp {s with heap:=h2} (upd H s.heap.objs.size (.lst []))) rfl rfl rfl Bc i [] s5 _ H5 (λ_ _=>False) I5 (fpb WE) CI stop) λr s6 ⟨hr,I6⟩=>?_
   subst hr;obtain⟨m,hm,_⟩:=I6.loc;refine fin _ _ H5 s6 m (Nw I3' XJ I6) hm I6.free ?_ ?_ (λx c e z=>?_) (λp hp z=>?_) qn
   ·have:=I3'.lt;exact ab5 this
   ·exact I3'.sz
   ·obtain⟨v,q⟩:=I3'.cell x c e;have:=q.lt;rw[z]at this;exact absurd this (abC _)
   ·have:=aaY (I3'.pin p hp).1;rw[z]at this;exact absurd this (abC _)
  ·refine cg (T.item (X.qt N scope h2.objs.size fp {s with heap:=h2} (upd H s.heap.objs.size (.lst []))) rfl rfl rfl Bc i [] s5 _ H5 (λ_ _=>False) I5 (fpb WE) CI go) λr s6 ⟨u,hr,h6⟩=>?_
   subst hr;refine cg h6 λ_ s7 ⟨x,H7,I7,r7,y7,XM,fr7⟩=>?_
   have I7':=I7.pinned (fpb fr7) (T.obj _ _ XM);refine cg (pg _ s7 _ H7 x u _ I7' r7 (step x H7 y7)) λ_ s8 ⟨σ8,H8,I8,hd8,q8⟩=>?_
   refine cg (pif _ s8 σ8 H8 _ I8 q8) λb s9 ⟨H9,I9,q9⟩=>?_
   have again:∀{ys':List V} {H':Hp} {s':Shared},Inv (X.qt N scope h2.objs.size fp {s with heap:=h2} (upd H s.heap.objs.size (.lst []))) ([]++uY fp s7.heap) σ8 H' s'->Nx ys' H' ->
     ∃m,m < n/\∃i ys H',Inv (X.qt N scope h2.objs.size fp {s with heap:=h2} (upd H s.heap.objs.size (.lst []))) [] (dZ own ix σ) H' s'/\tn i s'.heap/\(∀b∈fp,H' b=none)/\W i m ys H':=by
    intro ys' H' s' I' w';obtain⟨m',hm,w'⟩:=hNx _ _ w';refine⟨m',hm,i + 1,ys',H',(I'.qr).weak ?_ (C0 hd8),T.keep _ _ _ XM λb hb o e=>(I'.pin (b,o) (abf _ (abf _ (jB hb e)))).1,λb hb=>?_,w'⟩
    ·rw[I'.len,← I4.len]
    ·obtain⟨o,e,d⟩:=T.obj _ _ XM b hb;exact(I'.pin (b,o) (abf _ (abf _ (jB hb e)))).2.1
   cases b with
   | true =>
    simp only[if_true]at q9 ⊢;refine cg (pe _ s9 σ8 H9 _ I9 q9) λv UI ⟨y,TQ,I10,r10,XN,WJ⟩=>?_
    refine cg (dP _ UI σ8 TQ (.ref _) [y] (.ref _) [v] (λ_ H'=>Nx (ys++[y]) H') I10 rfl (.cons r10 .nil) ⟨_,ys,y,rfl,rfl,XN,hz,WJ⟩) λ_ s11 ⟨_,H11,I11,_,q11⟩=>?_
    exact again I11 q11
   | false =>
    simp only[Bool.false_eq_true,if_false]at q9 ⊢;exact again I9 q9
 exact codeAny_compStart_list (loop _ rfl) (T.self _ 0 _ _ _ Am (loop _ rfl))
theorem Ir{lo:Int}{n:Nat}{g:TG}{tt:TT}{te:TE}{H1:Hp}{Q:VK}{D:Addr}(Pv:Nat->List V->Hp->Prop)(hn:n<=sizeLine)(h0:Pv 0 [] (upd H1 D (.lst [])))(hD:∀i ys H,Pv i ys H->H D=some (.lst ys)/\ys.length<=i)
  (hs:∀i ys H2,i < n->Pv i ys H2->g (.int (lo + i)) (dZ own ix σ) H2 λσ2 H4=>σ2.drop own=(ix.map λi=>(σ[i]?).getD none)/\tt σ2 H4 λb H5=>if b=true then te σ2 H5 λv H6=>H6 D=some (.lst ys)/\Pv (i + 1) (ys++[v]) (upd H6 D (.lst (ys++[v])))else Pv (i + 1) ys H5)
  (hd:∀ys H2,Pv n ys H2->Q (.ref D) H2) :
  WI (Up lo n) own ix σ g tt te D H1 Q:=by
 refine⟨λi m ys H=>m=n - i/\i<=n/\Pv i ys H,⟨n,by simp,Nat.zero_le _,h0⟩,?_⟩;rintro i m ys H2 ⟨rfl,hi,p⟩;obtain⟨q1,q2⟩:=hD i ys H2 p;refine⟨q1,?_⟩;by_cases hlt:i < n
 ·refine .inr ⟨hlt,by omega,Pv (i + 1),λys' H' p'=>⟨n - (i + 1),by omega,rfl,hlt,p'⟩,λx H3 y=>?_⟩;obtain⟨e1,e2⟩:=y;subst e1 e2;exact hs i ys _ hlt p
 ·have e:i=n:=by omega
  subst e;exact .inl ⟨aaZ _,hd ys H2 p⟩
theorem qv{K:ay}{a:Addr}{xs:List V}{g:TG}{tt:TT}{te:TE}{H1:Hp}{Q:VK}{D:Addr}(Pv:Nat->List V->Hp->Prop)(hn:xs.length<=sizeLine)(h0:Pv 0 [] (upd H1 D (.lst [])))(hD:∀i ys H,i<=xs.length->Pv i ys H->H D=some (.lst ys)/\ys.length<=i/\bg K H a xs)
  (hs:∀i x ys H2,xs[i]?=some x->Pv i ys H2->g x (dZ own ix σ) H2 λσ2 H4=>σ2.drop own=(ix.map λi=>(σ[i]?).getD none)/\tt σ2 H4 λb H5=>if b=true then te σ2 H5 λv H6=>H6 D=some (.lst ys)/\Pv (i + 1) (ys++[v]) (upd H6 D (.lst (ys++[v])))else Pv (i + 1) ys H5)
  (hd:∀ys H2,Pv xs.length ys H2->Q (.ref D) H2) :
  WI (Qe K a) own ix σ g tt te D H1 Q:=by
 refine⟨λi m ys H=>m=xs.length - i/\i<=xs.length/\Pv i ys H,⟨xs.length,by simp,Nat.zero_le _,h0⟩,?_⟩;rintro i m ys H2 ⟨rfl,hi,p⟩;obtain⟨q1,q2,q3⟩:=hD i ys H2 hi p;refine⟨q1,?_⟩;by_cases hlt:i < xs.length
 ·refine .inr ⟨⟨xs,xs[i],q3,by simp[hlt]⟩,by omega,Pv (i + 1),λys' H' p'=>⟨xs.length - (i + 1),by omega,rfl,hlt,p'⟩,λx H3 y=>?_⟩;obtain⟨e1,e2⟩:=y;subst e1;exact hs i x ys _ (e2 xs q3) p
 ·have e:i=xs.length:=by omega
  subst e;exact .inl ⟨⟨xs,q3,aaZ _⟩,hd ys H2 p⟩
theorem EL{elt tg iter:Expr}{ifs:List Expr}{pos:Pos}{wi:TI}{g:TG}{tt:TT}{te:TE}(own:Nat)(N:List Str)(ix:List Nat)(B:qu X own N ix scope)(hi:PI X tg iter wi)
  (hin:∀(C:Addr) (fp:List Addr) (s:Shared) (H:Hp),PG (X.qt N scope C fp s H) tg g/\TN (X.qt N scope C fp s H) ifs tt/\PE (X.qt N scope C fp s H) elt te)
  (hs:∀x,foldedSetIterable iter X.env x=pure x:=by intro _;rfl):PE X (.ListComp elt [⟨tg,iter,ifs,0⟩] scope pos) (XG own ix wi g tt te):=by
 intro pins s σ H Q I h
 have hnames:∀y∈scope.names,y.2=NameKind.local->scope.names.lookup y.1=some .local:=λy hy e=>by
  have:=List.all_eq_true.mp B.loc y hy;rw[e]at this;simpa using this
 rw[eval_ListComp];refine acG (use:=none) rfl hs (oC λy hy e=>(B.has I y hy e).2) B.kind hnames (cg (hi pins s σ H _ I h) λv s1 h1=>cg h1 λitv s2 h2=>?_);obtain⟨it,fp,tn,J,H2,e,I2,T,cZ,f2,rd⟩:=h2;subst e;refine EK (Q:=Q) (RR:=λacc C=>compPost (model X.prog X.w) X.A X.xe none (EP X pins σ Q) acc C) B (λC s H=>hin C fp s H) I2 T cZ f2 rd ?_;intro D C H' s' m I' hn hC hL hsz hce hpi q;exact⟨m,hn,λh' sb=>⟨.ref D,H',I'.turned (t':=s'.toks) (λb o hb e=>(sb.2 b hb).trans e) hC hL (.inr hsz) hce hpi,rfl,q⟩⟩
theorem qw{i:Nat}{x:Str}{elt tg iter:Expr}{ifs:List Expr}{pos pos' spos:Pos}{wi:TI}{g:TG}{tt:TT}{te:TE}(hN:X.N.Nodup)(hxi:X.N[i]?=some x)(hx:Loc X.env.scope x)(own:Nat)(N:List Str)(ix:List Nat)(B:qu X own N ix scope)(hi:PI X tg iter wi)
  (hin:∀(C:Addr) (fp:List Addr) (s:Shared) (H:Hp),PG (X.qt N scope C fp s H) tg g/\TN (X.qt N scope C fp s H) ifs tt/\PE (X.qt N scope C fp s H) elt te)
  (hsw:swapsWith (.ListComp elt [⟨tg,iter,ifs,0⟩] scope pos) (some (.Name x pos')) spos.line X.env=pure true:=by rfl) (hs:∀x,foldedSetIterable iter X.env x=pure x:=by intro _;rfl)
  (hfn:X.fn x=true∨X.env.scope.names.lookup x=some .local:=by first | exact .inl rfl | exact .inr rfl):PS X (.Assign [.Name x pos'] (.ListComp elt [⟨tg,iter,ifs,0⟩] scope pos) spos) (M7 (XG own ix wi g tt te) (uV i)):=by
 intro pins s σ H D0 I h
 have hnames:∀y∈scope.names,y.2=NameKind.local->scope.names.lookup y.1=some .local:=λy hy e=>by
  have:=List.all_eq_true.mp B.loc y hy;rw[e]at this;simpa using this
 rw[exec_Assign_Name_used _ _ _ _ hsw];refine aa6 (wpAny_standAt (aa6 ?_));show wpAny _ X.A (do let _ ← comprehension (.ListComp elt [⟨tg,iter,ifs,0⟩] scope pos) scope X.env _ (newList []) false (eval iter X.env) (some (assign (.Name x pos') X.env))) _ _ s;refine aa6 (cg (acG (use:=some (assign (.Name x pos') X.env)) (Q:=λ_ s'=>SP X pins D0 .next s') rfl hs (oC λy hy e=>(B.has I y hy e).2) B.kind hnames (cg (hi pins s σ H _ I h) λv s1 h1=>cg h1 λitv s2 h2=>?_)) λ_ s' hq=>abg (abg hq));obtain⟨it,fp,tn,J,H2,e,I2,T,cZ,f2,rd⟩:=h2;subst e;refine EK (Q:=λv H'=>uV i v σ H' D0.nx) (RR:=λacc C=>compPost (model X.prog X.w) X.A X.xe (some (assign (.Name x pos') X.env)) (λ_ s'=>SP X pins D0 .next s') acc C) B (λC s H=>hin C fp s H) I2 T cZ f2 rd ?_;intro D C H' s' m I' hn hC hL hsz hce hpi q;show wpAny _ X.A (assign (.Name x pos') X.env (.ref D)) _ _ s';refine wpAny_assign_Name (rM I' hN hxi hx (v:=.ref D) rfl (λs'' I'' ⟨a,sb,ha⟩=>?_) hfn);refine⟨m,hn.sameBut sb ?_,λh' sb'=>⟨_,H',I''.turned (t':=s''.toks) (λb o hb e=>(sb'.2 b hb).trans e) hC hL (.inr hsz) hce hpi,q⟩⟩;rcases ha with e | e
 ·rw[e];exact hL
 ·exact aci (hce x a e)
end
theorem range_all(bs:List Bool):(List.range bs.length).all (λi=>(bs[i]?).getD true)=bs.all id:=by
 rw[Bool.eq_iff_iff,abI,abI]
 constructor
 ·intro h b hb;obtain⟨i,hi,e⟩:=ac6.mp hb;have z:=h i (List.mem_range.mpr hi);rw[dN hi,e]at z;exact z
 ·intro h i hi;have hi':=List.mem_range.mp hi;rw[dN hi'];exact h _ (ach hi')
section
variable {X:Cx}
def XO(K:ay):List V->Hp->VK->Prop:=λxs H Q=>∃(p:Addr) (bs:List Bool),xs=[.ref p]/\bg K H p (bs.map V.bl)/\Q (.bl (bs.all id)) H
theorem Iu(hc:X.calm=true):fB X (.builtin "all") (XO X.K):=by
 intro pins s σ H xs us Q I r h;obtain⟨p,bs,rfl,hS,q⟩:=h;obtain⟨u,rfl,ru⟩:=vals1 r;cases ru;obtain⟨its,rv,pl,hz⟩:=I.list hS
 have hlen:its.toArray.size=bs.length:=by
  have:=rv.length;simp at this;simp[this]
 have hlt:p < s.heap.objs.size:=by obtain⟨o,n,e,_⟩:=pl;exact aaY e
 refine call_all_walk (acw pl.isList ?_);refine⟨s.heap.objs.size,_,_,its.toArray.size,_,_,λi=>(bs[i]?).getD true,rfl,Walks.list (show X.A.in1.handled=none from I.ok.hd hc) _ _ (aa5 hlt) its.toArray,⟨⟨_,aa8 _ rfl,rfl,rfl⟩,pl.isList.push _⟩,?_,λh' tk k=>?_⟩
 ·intro i v s' Q' E' hv hq
  have hi:i < bs.length:=by
   rw[← hlen];exact(Array.getElem?_eq_some_iff.mp hv).1
  obtain⟨u',hu',ru'⟩:=rv.get (i:=i) (x:=.bl bs[i]) (by rw[List.getElem?_map,dN hi];rfl);have e:its[i]?=some v:=by simpa using hv
  rw[hu']at e;cases e;cases ru';have hq':Q' ((bs[i]?).getD true) s':=hq;rw[dN hi]at hq';exact abM hq'
 ·rw[hlen,range_all];exact⟨.bl _,H,I.kept (t':=tk) λb o e=>k b o (by simpa using Nat.ne_of_lt (Heap.lt_size e)) (Heap.get?_push_of_some _ e),rfl,q⟩
def Qk(K:ay):R2:=λx y H Q=>∃l b xs zs,x=.ref l/\y=.ref b/\bg K H l xs/\bg K H b zs/\xs.length + zs.length<=sizeLine/\∀p,H p=none->Q (.ref p) (upd H p (.lst (xs++zs)))
theorem yL:iE X (binaryOp .Add) (Qk X.K):=by
 intro pins s σ H x y v u Q I rx ry h;obtain⟨l,b,xs,zs,rfl,rfl,hH,hB,hz,q⟩:=h;cases rx;cases ry;obtain⟨its,r,⟨⟨c1,d1,a1,Iw⟩,n,e,rfl,rfl,rfl⟩,z⟩:=I.list hH;obtain⟨qs,r2,⟨⟨c2,d2,a2,Q0⟩,n2,e2,rfl,rfl,rfl⟩,z2⟩:=I.list hB;have hl:=r.length;have EJ:=r2.length;refine concat_meets ⟨_,e,rfl⟩ ⟨_,e2,rfl⟩ noFill_list_add seq_list_add PySem.F.slot_list_add PySem.F.entry_list_add (PySem.F.args_list_add_2 _ _)
  (list_addW l b its.toArray qs.toArray n n2 none none Iw Q0 (by rw[abe,abe];omega)) ⟨e,e2,?_⟩
 rw[show its.toArray++qs.toArray=(its++qs).toArray by simp];exact⟨.ref _,_,I.Ik (t':=s.toks) (r.append r2) (by rw[List.length_append];omega),rfl,q _ I.fresh⟩
def Ql(K:ay):List V->Hp->VK->Prop:=λxs H Q=>∃(p:Addr) (ns:List Int),xs=[.ref p]/\bg K H p (ns.map V.int)/\0 < ns.length/\∀m:Int,m∈ns->(∀a∈ns,a<=m)->Q (.int m) H
theorem FO(hc:X.calm=true):fB X (.builtin "max") (Ql X.K):=by
 intro pins s σ H xs us Q I r h;obtain⟨p,ns,rfl,hS,hne,q⟩:=h;obtain⟨u,rfl,ru⟩:=vals1 r;cases ru;obtain⟨its,rv,pl,hz⟩:=I.list hS;have hi:IntsAre its ns:=intsAre_of rv;obtain⟨zs,e⟩:=hi.allInts.items;have hns:ns=zs.toList.map (·.1):=by rw[← hi.numsOf,← nums_intItems,← e]
 have hz':zs.size=ns.length:=by rw[hns];simp
 have hl:=pl.isList;rw[e]at hl;refine max_intList (I.ok.hd hc) hl (by omega) λv h' tk hv hk=>?_
 obtain⟨t,rfl⟩:=intItems_at hv;have ab:=argBest_gt (numAt zs) (zs.size - 1);refine⟨.int _,H,I.kept hk,⟨t,rfl⟩,q _ ?_ λa ha=>?_⟩
 ·rw[hns,numAt_eq];exact getD_mem (abb ab.1 (by rw[aab,Array.length_toList,hz'];omega))
 ·rw[hns]at ha;obtain⟨j,hj,rfl⟩:=mem_getD ha;rw[← numAt_eq];exact ab.2 j (by simp at hj;omega)
end
section
variable {X:Cx} {tg:Expr}
end
def Mv(K:ay)(w:World)(d:Addr)(kds:List (Str×PyData)):Prop :=
 (d == sysModules)=false/\∃(o:Obj) (vs:List (Str×Value)),K.lookup d=some o/\(∀P:Program,o.IsDictOf (strKind P w) vs) /\
  Paired (λa b=>a.1=b.1/\∃v,RelV v a.2/\∀H:Hp,aR K H v b.2) vs kds
def d5(kds:List (Str×PyData))(k:Str):Option PyData:=(kds.find? λkv=>decide (kv.1=k)).map (·.2)
theorem oX{K:ay}{vs:List (Str×Value)}{kds:List (Str×PyData)}(k:Str)(h:Paired (λa b=>a.1=b.1/\∃v,RelV v a.2/\∀H:Hp,aR K H v b.2) vs kds):
  (valueAt vs k=none/\d5 kds k=none)∨∃u d v,valueAt vs k=some u/\d5 kds k=some d/\RelV v u/\∀H:Hp,aR K H v d:=by
 induction h with
 | nil=>exact .inl ⟨rfl,rfl⟩
 | @cons a b as bs hab t ih =>
  obtain⟨e,v,h1,h2⟩:=hab;by_cases q:a.1=k
  ·refine .inr ⟨a.2,b.2,v,?_,?_,h1,h2⟩
   ·unfold valueAt;rw[List.find?_cons_of_pos (by simpa using q)];rfl
   ·unfold d5;rw[List.find?_cons_of_pos (by simpa [← e]using q)];rfl
  ·have e1:valueAt (a::as) k=valueAt as k:=by unfold valueAt;rw[List.find?_cons_of_neg (by simpa using q)]
   have e2:d5 (b::bs) k=d5 bs k:=by unfold d5;rw[List.find?_cons_of_neg (by simpa [← e]using q)]
   rw[e1,e2];exact ih
def UJ(w:World)(e:Str×Tok×Value):DictEntry:={hash:=PyData.keyHash w.params e.1,key:=.str e.1 e.2.1,val:=e.2.2}
theorem Iy{K:ay}{w:World}{d:Addr}{ep:Nat}{ent:List (Str×Tok×Value)}{kds:List (Str×PyData)}(hd:(d == sysModules)=false)
  (lk:K.lookup d=some {cls:=.type "dict",data:=.dict (ent.map (UJ w)).toArray ep}) (nd:(ent.map (·.1)).Nodup)
  (h:Paired (λ(e:Str×Tok×Value) (kd:Str×PyData)=>e.1=kd.1/\∃v,RelV v e.2.2/\∀H:Hp,aR K H v kd.2) ent kds):Mv K w d kds:=by
 refine⟨hd,_,ent.map (λe=>(e.1,e.2.2)),lk,λP=>⟨_,ep,⟨rfl,rfl,rfl⟩,rfl,?_,?_,?_⟩,?_⟩
 ·intro e he;simp at he;obtain⟨a,b,c,_,rfl⟩:=he;exact⟨a,strKind_is _ _ _ _,rfl⟩
 ·show Pairs _ (ent.map (UJ w)) _;clear h nd lk
  induction ent with
  | nil=>exact .nil
  | cons e r ih=>exact .cons (ac7 _ _ _ _) rfl ih
 ·rw[acH];exact nd
 ·clear lk nd
  induction h with
  | nil=>exact .nil
  | cons a t ih=>exact .cons a ih
theorem aF{K:ay}{r:Addr}{its:List Value}{ds:List PyData}(lk:K.lookup r=some {cls:=.type "tuple",data:=.seq its.toArray 0})(hz:its.length<=sizeLine)
  (h:Paired (λu d=>∃v,RelV v u/\∀H:Hp,aR K H v d) its ds):∃v,RelV v (.ref r)/\∀H:Hp,aR K H v (.tuple ds):=by
 have key:∃xs:List V,Vals xs its/\∀H:Hp,aG K H xs ds:=by
  clear lk hz
  induction h with
  | nil=>exact⟨[],.nil,λH=>aG.nil⟩
  | cons a t ih =>
   obtain⟨v,h1,h2⟩:=a;obtain⟨xs,g1,g2⟩:=ih;exact⟨v::xs,.cons h1 g1,λH=>aG.cons (h2 H) (g2 H)⟩
 obtain⟨xs,h1,h2⟩:=key;exact⟨.ref r,rfl,λH=>.jD (.inr ⟨_,its.toArray,0,lk,rfl,rfl,by simpa using hz,h1⟩) (h2 H)⟩
theorem yM{K:ay}{r:Addr}{d:PyData}(h:∃v,RelV v (.ref r)/\∀H:Hp,aR K H v d):∀H:Hp,aR K H (.ref r) d:=by
 obtain⟨v,h1,h2⟩:=h;intro H;cases v<;>simp[RelV]at h1
 subst h1;exact h2 H
theorem aL{K:ay}{x:Str}{t:Tok}:∃v,RelV v (.str x t)/\∀H:Hp,aR K H v (.str x):=⟨.str x,⟨t,rfl⟩,λ_=>.str x⟩
theorem d8{K:ay}{i:Int}{t:Tok}:∃v,RelV v (.int i t)/\∀H:Hp,aR K H v (.int i):=⟨.int i,⟨t,rfl⟩,λ_=>.int i⟩
section
variable {X:Cx}
theorem Mv.at{K:ay}{pins:List (Addr×Obj)}{σ:St}{H:Hp}{s:Shared}{w:World}{d:Addr}{kds:List (Str×PyData)}(hK:X.K=K)(I:Inv X pins σ H s)(h:Mv K w d kds):
  (d == sysModules)=false/\∃vs,(∀P,s.heap.DictOf (strKind P w) d vs)/\Paired (λa b=>a.1=b.1/\∃v,RelV v a.2/\∀H:Hp,aR K H v b.2) vs kds:=by
 obtain⟨h0,o,vs,lk,hd,hp⟩:=h;subst hK;exact⟨h0,vs,λP=>Heap.dictOf_iff.mpr ⟨o,I.uk d o lk,hd P⟩,hp⟩
def XQ(K:ay)(w:World)(neg:Bool):R2:=λx y H Q=>∃d kds k,y=.ref d/\x=.str k/\Mv K w d kds/\Q (.bl (if neg then !(d5 kds k).isSome else(d5 kds k).isSome)) H
theorem Ro:iE X (compareOp .In) (XQ X.K X.w false):=by
 intro pins s σ H x y v u Q I rx ry h;obtain⟨d,kds,k,rfl,rfl,hd,q⟩:=h;cases ry;obtain⟨t,rfl⟩:=rx;obtain⟨h0,vs,hm,hp⟩:=hd.at rfl I;refine wpAny_in_of (ac7 X.prog X.w k t) h0 (hm X.prog).mapOf ⟨.bl _,H,I.tok _,rfl,?_⟩
 have e:(valueAt vs k).isSome=(d5 kds k).isSome:=by
  rcases oX k hp with⟨a,b⟩ | ⟨_,_,_,a,b,_⟩<;>rw[a,b]<;>rfl
 rw[e];exact q
def XR(K:ay)(w:World):R2:=λx y H Q=>∃d kds k dt,x=.ref d/\y=.str k/\Mv K w d kds/\d5 kds k=some dt/\∀v:V,(∀H:Hp,aR K H v dt)->Q v H
theorem Iz:Mu X (XR X.K X.w):=by
 intro value slice pins s σ H x y v u Q I rx ry h hs;obtain⟨d,kds,k,dt,rfl,rfl,hd,hg,q⟩:=h;cases rx;obtain⟨t,rfl⟩:=ry;obtain⟨h0,vs,hm,hp⟩:=hd.at rfl I;rcases oX k hp with⟨a,b⟩ | ⟨u,e,z,a,b,c1,c2⟩
 ·rw[b]at hg;cases hg
 ·rw[b]at hg;cases hg;exact acd (x:=u) (hm X.prog).mapOf.typeIs slot_dict_getitem.lookup
   (wpAny_getItem_of (Q:=λr s'=>r=u/\EP X pins σ Q r s') (ac7 X.prog X.w k t) (hm X.prog).mapOf a ⟨rfl,⟨z,H,I.tok _,c1,q z c2⟩⟩) hs
def UK(K:ay)(w:World)(to:TE)(t:TA):TE:=λσ H Q=>to σ H λx H1=>∃d kds,x=.ref d/\Mv K w d kds/\t σ H1 λxs H2=>∃k z,xs=[.str k,z]/\(d5 kds k=none->Q z H2) /\
 ∀dt,d5 kds k=some dt->∀v:V,(∀H:Hp,aR K H v dt)->Q v H2
variable {o e:Expr} {es:List Expr} {to:TE} {t:TA} {apos cpos:Pos}
theorem Nz(ho:PE X o to)(ha:PA X (e::es) t)
  (hbase:attributeBase o "get" X.env (eval o X.env)=eval o X.env:=by rfl)
  (hfew:((backTo cpos (starEach (e::es) X.env)).all (λx=>!x.1)&&(backToKw cpos (keywordEach [] X.env)).all (λx=>x.1.isSome)
   && decide ((e::es).length + ([]:List Keyword).length + (if ([]:List Keyword).isEmpty then 0 else 1) < 30))=true:=by rfl)
  (hline:(apos.endLine == cpos.line)=true:=by rfl) (hs:starEach (e::es) X.env=(false,eval e X.env)::starEach es X.env:=by rfl) (hplain:(backTo cpos (starEach es X.env)).any (·.1)=false:=by rfl) :
  PE X (.Call (.Attribute o "get" apos) (e::es) [] cpos) (UK X.K X.w to t):=by
 intro pins s σ H Q I h;refine wpAny_Call_method_late hbase hfew hline rfl (cg (ho pins s σ H _ I h) λv s1 ⟨x,H1,I1,r1,d,kds,ex,hd,q1⟩=>?_);subst ex;cases r1;obtain⟨h0,vs,hm,hp⟩:=hd.at rfl I1;refine⟨"dict","dict.get",PySem.F.plainAttrs_dict,acZ,PySem.F.type_dict_get,(hm X.prog).mapOf.typeIs,λb eb=>?_,?_⟩
 ·cases eb;obtain⟨ob,_,_,g1,g2,_⟩:=hm X.prog;exact⟨ob,g1,g2.2.1⟩
 have hA:=ha cpos pins s1 σ H1 _ I1 q1;rw[hs]at hA ⊢;refine acf (by show(false||(backTo cpos (starEach es X.env)).any (·.1))=false;rw[hplain]<;>rfl) (Calls.evalArgs_plain ?_)
 refine cg hA λus s2 ⟨ws,H2,I2,r2,k,z,ez,q2,q3⟩=>?_
 subst ez;obtain⟨u1,u2,rfl,XS,XT⟩:=vals2 r2;obtain⟨tk,rfl⟩:=XS;obtain⟨h0,vs,hm,hp⟩:=hd.at rfl I2;refine call_meetsIn acZ (hm X.prog).mapOf.typeIs PySem.F.entry_dict_get (PySem.F.args_dict_get_3 _ _ _) (meets_dict_get_default (strKind X.prog X.w) d (ac7 X.prog X.w k tk) h0 u2) ⟨_,(hm X.prog).mapOf,?_⟩;rcases oX k hp with⟨a,b⟩ | ⟨u,dt,v,a,b,c1,c2⟩
 ·rw[a];exact⟨z,H2,I2.tok _,XT,q2 b⟩
 ·rw[a];exact⟨v,H2,I2.tok _,c1,q3 dt b v c2⟩
end
theorem Inv.NA{X:Cx}{pins:List (Addr×Obj)}{σ:List (Option V)}{H:Hp}{s:Shared}{h':Heap}{fp:List Addr}{a:Addr}{o:HO}{t':Nat}(I:Inv X pins σ H s)(hf:∀b∈fp,qp X pins H b)
  (k:∀b u,b∉fp->s.heap.get? b=some u->h'.get? b=some u) (hp:s.heap.objs.size<=a) (new:gi X.prog X.w (upd H a o) h' a o):Inv X pins σ (upd H a o) {s with heap:=h',toks:=t'}:=by
 have hn:=I.hok.fresh hp;have nfp:∀b u,H b=some u->b∉fp:=λb u e z=>by rw[(hf b z).1]at e;cases e
 refine I.step (g':=s.gens) (d':=s.drawn) (ch:=fp) (λb hb=>⟨(hf b hb).2.2.2.1,(hf b hb).2.1,(hf b hb).2.2.2.2.1,(hf b hb).2.2.2.2.2⟩) (λb o _ _ hc e _=>k b o hc e) (λb o _ _ hc e _=>⟨o.slots,k b o hc e⟩)
  (λb o hc e n=>by rw[uN (aa5 (aa0 (aaY e) hp))];exact n) (λb o hc e=>⟨o,k b o hc e⟩) (λb xs e=>by rw[uN (nN e hn)];exact e) (λb u xs e=>by rw[uN (nN e hn)];exact e)
  (λb ps e=>⟨#[],by rw[uN (nN e hn),e];simp⟩) (λm hm=>?_) (λb u e=>?_) I.bare
 ·obtain⟨o,es,ep,ho,r⟩:=hm;exact⟨o,es,ep,k _ o (λz=>(hf _ z).2.1 rfl) ho,r⟩
 ·by_cases hb:b=a
  ·subst hb;rw[uS]at e;cases e;exact new
  ·rw[uN hb]at e;refine(I.hok b u e).wX (λc v hc q=>k c v ?_ q) (λc q=>by rw[uN (nN q hn)];exact q) λc xs q=>by rw[uN (nN q hn)];exact q
   rcases hc with z | z
   ·rw[z];exact nfp b u e
   ·exact nfp c _ z
theorem Inv.NB{X:Cx}{pins:List (Addr×Obj)}{σ:List (Option V)}{H:Hp}{s:Shared}{h':Heap}{fp:List Addr}{t':Nat}(I:Inv X pins σ H s)(hf:∀b∈fp,qp X pins H b)
  (k:∀b u,b∉fp->s.heap.get? b=some u->h'.get? b=some u):Inv X pins σ H {s with heap:=h',toks:=t'}:=by
 have nfp:∀b u,H b=some u->b∉fp:=λb u e z=>by rw[(hf b z).1]at e;cases e
 refine I.step (g':=s.gens) (d':=s.drawn) (ch:=fp) (λb hb=>⟨(hf b hb).2.2.2.1,(hf b hb).2.1,(hf b hb).2.2.2.2.1,(hf b hb).2.2.2.2.2⟩) (λb o _ _ hc e _=>k b o hc e) (λb o _ _ hc e _=>⟨o.slots,k b o hc e⟩)
  (λ_ _ _ _ n=>n) (λb o hc e=>⟨o,k b o hc e⟩) (λ_ _ e=>e) (λ_ _ _ e=>e) (λb ps e=>⟨#[],by rw[e];simp⟩) (λm hm=>?_) (λb u e=>?_) I.bare
 ·obtain⟨o,es,ep,ho,r⟩:=hm;exact⟨o,es,ep,k _ o (λz=>(hf _ z).2.1 rfl) ho,r⟩
 ·refine(I.hok b u e).wX (λc v hc q=>k c v ?_ q) (λ_ q=>q) λ_ _ q=>q
  rcases hc with z | z
  ·rw[z];exact nfp b u e
  ·exact nfp c _ z
def jh(q:Bool)(h:Heap)(a:Addr)(its:Array Value):Prop:=match q with | true=>h.IsList a its | false=>h.IsTuple a its
def gJ(q:Bool)(h:Heap)(it a:Addr)(i:Nat):Prop:=match q with | true=>h.IsListIter it a i | false=>h.IsTupleIter it a i
def UL(q:Bool):String:=match q with | true=>"list_iterator" | false=>"tuple_iterator"
theorem jh.at{q:Bool}{h h':Heap}{a:Addr}{its:Array Value}(x:jh q h a its)(e:∀o,h.get? a=some o->h'.get? a=some o):jh q h' a its:=by
 cases q<;>(obtain⟨o,ho,r⟩:=x;exact⟨o,e _ ho,r⟩)
theorem gJ.at{q:Bool}{h h':Heap}{it a:Addr}{i:Nat}(x:gJ q h it a i)(e:∀o,h.get? it=some o->h'.get? it=some o):gJ q h' it a i:=by
 cases q<;>(obtain⟨o,ho,r⟩:=x;exact⟨o,e _ ho,r⟩)
theorem gJ.obj{q:Bool}{h:Heap}{it a:Addr}{i:Nat}(x:gJ q h it a i):∃o,h.get? it=some o/\∀v,o.data≠.cell v:=by
 cases q<;>(obtain⟨o,ho,c,d⟩:=x;exact⟨o,ho,λv z=>by rw[d]at z;cases z⟩)
section
variable {prog:Program} {w:World} {A:Around} {E:Value->Shared->Prop} {s:Shared}
theorem IA{it t:Addr}{i:Nat}{its:Array Value}{x:Value}{Q:Value->Shared->Prop}(hit:s.heap.IsTupleIter it t i)(ht:s.heap.IsTuple t its)(hx:its[i]?=some x)
  (hQ:∀h',h'.IsTupleIter it t (i + 1)->Heap.SameBut it s.heap h'->Q x {s with heap:=h'}):wpAny (model prog w) A (Builtin.SmallTypes.nextOf (.ref it)) Q E s:=by
 obtain⟨o,g1,g2,g3⟩:=id hit;obtain⟨ot,g4,_,nt,g5⟩:=ht;unfold Builtin.SmallTypes.nextOf;refine wpAny_bind (wpAny_callSpecial?_slot (name:=Str.ofString "__next__") hit.typeIs F.slot_tuple_iterator_next (wpAny_call_entry F.slot_tuple_iterator_next hit.typeIs F.entry_tuple_iterator_next ?_ (F.args_tuple_iterator_next_1 _)));show wpAny _ _ (field (.ref it) 0 >>= _) _ _ s;refine wpAny_bind (wpAny_field g1 g3 (x:=.ref t) rfl ?_);show wpAny _ _ (if (Value.ref t == Value.none)=true then _ else _) _ _ s;rw[if_neg (show ¬ ((Value.ref t == Value.none)=true)from Bool.false_ne_true)];show wpAny _ _ (field (.ref it) 1 >>= _) _ _ s;refine wpAny_bind (wpAny_field g1 g3 (x:=.int i 0) rfl ?_);show wpAny _ _ (seqItems? (.ref t) >>= _) _ _ s;refine wpAny_bind (wpAny_seqItems g4 g5 ?_);simp only[Int.toNat_natCast,hx];refine wpAny_bind (wpAny_setField g1 g3 (by simp) (wpAny_pure ⟨x,rfl,wpAny_pure (hQ _ ?_ (Heap.SameBut.update ..))⟩));exact⟨_,Heap.get?_update_self _ g1 (Obj.isFreed_of_fields (Obj.data_mapFields g3 _)),(Obj.cls_mapFields ..).trans g2,by rw[Obj.data_mapFields g3];simp[rawInt]⟩
theorem NC{it t:Addr}{i:Nat}{its:Array Value}{Q:Value->Shared->Prop}(hh:A.handled=none)(hit:s.heap.IsTupleIter it t i)(ht:s.heap.IsTuple t its)(hx:its[i]?=none)
  (hE:∀h' e,Heap.ExtBut it s.heap h'->(∃o,h'.get? e=some o/\o.cls=.type "StopIteration")->E (.ref e) {s with heap:=h'}):wpAny (model prog w) A (Builtin.SmallTypes.nextOf (.ref it)) Q E s:=by
 obtain⟨o,g1,g2,g3⟩:=id hit;obtain⟨ot,g4,_,nt,g5⟩:=ht;unfold Builtin.SmallTypes.nextOf;refine wpAny_bind (wpAny_callSpecial?_slot (name:=Str.ofString "__next__") hit.typeIs F.slot_tuple_iterator_next (wpAny_call_entry F.slot_tuple_iterator_next hit.typeIs F.entry_tuple_iterator_next ?_ (F.args_tuple_iterator_next_1 _)));show wpAny _ _ (field (.ref it) 0 >>= _) _ _ s;refine wpAny_bind (wpAny_field g1 g3 (x:=.ref t) rfl ?_);show wpAny _ _ (if (Value.ref t == Value.none)=true then _ else _) _ _ s;rw[if_neg (show ¬ ((Value.ref t == Value.none)=true)from Bool.false_ne_true)];show wpAny _ _ (field (.ref it) 1 >>= _) _ _ s;refine wpAny_bind (wpAny_field g1 g3 (x:=.int i 0) rfl ?_);show wpAny _ _ (seqItems? (.ref t) >>= _) _ _ s;refine wpAny_bind (wpAny_seqItems g4 g5 ?_);simp only[Int.toNat_natCast,hx];refine wpAny_bind (wpAny_rule (wpAny_bind (wpAny_setField g1 g3 (by simp) ?_)));show wpAny _ _ (newExc (.type "StopIteration") [] >>= _) _ _ _;refine wpAny_bind ?_;simp only[newExc,newTuple];refine wpAny_bind (wpAny_newObj_type ?_ (by size_fits));refine wpAny_bind (m:=firstArgMember _ _) (wpAny_of_eq (a:=Value.none) (by first | rfl | (simp only[firstArgMember];rfl)) ?_);refine wpAny_newObj_type ?_ (by size_fits);simp only[raiseNew];refine wpAny_bind (wpAny_handled ?_)
 first | rw[show A.in1.handled=none from hh] | rw[hh]
 refine aa6 (abg (wpAny_throw ?_));exact hE _ _ (((Heap.SameBut.update ..).extBut.push _).push _) ⟨_,aa8 _ rfl,rfl⟩
theorem yN{q:Bool}{it t:Addr}{i:Nat}{its:Array Value}{x:Value}{Q:Value->Shared->Prop}(hit:gJ q s.heap it t i)(ht:jh q s.heap t its)(hx:its[i]?=some x)
  (hQ:∀h',gJ q h' it t (i + 1)->Heap.SameBut it s.heap h'->Q x {s with heap:=h'}):wpAny (model prog w) A (Builtin.SmallTypes.nextOf (.ref it)) Q E s:=by
 cases q with
 | true=>exact wpAny_nextOf_list_item hit ht hx hQ
 | false=>exact IA hit ht hx hQ
theorem IC{q:Bool}{it t:Addr}{i:Nat}{its:Array Value}{Q:Value->Shared->Prop}(hh:A.handled=none)(hit:gJ q s.heap it t i)(ht:jh q s.heap t its)(hx:its[i]?=none)
  (hE:∀h' e,Heap.ExtBut it s.heap h'->(∃o,h'.get? e=some o/\o.cls=.type "StopIteration")->E (.ref e) {s with heap:=h'}):wpAny (model prog w) A (Builtin.SmallTypes.nextOf (.ref it)) Q E s:=by
 cases q with
 | true=>exact wpAny_nextOf_list_end hh hit ht hx hE
 | false=>exact NC hh hit ht hx hE
variable {q1 q2:Bool} {z TI TO i1 i2 l1 l2:Addr} {k1 k2:Nat} {xs ys:Array Value} {x y a b:Value}
theorem FP{Q:Option Value->Shared->Prop}(D:ZipApart z TI TO i1 i2 l1 l2)(hz:IsZip s.heap z TI TO .none)(hTI:IsPair s.heap TI (.ref i1) (.ref i2))(hTO:IsPair s.heap TO a b)
  (h1:gJ q1 s.heap i1 l1 k1) (h2:gJ q2 s.heap i2 l2 k2) (ND:jh q1 s.heap l1 xs) (EJ:jh q2 s.heap l2 ys) (hx:xs[k1]?=some x) (hy:ys[k2]?=some y)
  (hQ:∀h',IsZip h' z TI TO (rawInt s.heap.objs.size)->IsPair h' TO x y->gJ q1 h' i1 l1 (k1 + 1)->gJ q2 h' i2 l2 (k2 + 1)->IsPair h' s.heap.objs.size x y ->
   (∀c o,c≠z->c≠TO->c≠i1->c≠i2->s.heap.get? c=some o->h'.get? c=some o)->Q (some (.ref s.heap.objs.size)) {s with heap:=h'}):wpAny (model prog w) A (pyNext (.ref z)) Q E s:=by
 have hT:s.TypeIs (.ref z) "zip":=⟨_,hz,rfl⟩;unfold pyNext;refine wpAny_bind (wpAny_attempt (wpAny_callSpecial?_slot (name:=Str.ofString "__next__") hT F.slot_zip_next (wpAny_call_entry F.slot_zip_next hT F.entry_zip_next ?_ (F.args_zip_next_1 _))));show wpAny _ _ (field (.ref z) 2 >>= _) _ _ _;refine wpAny_bind (wpAny_field hz rfl (x:=.bool false) rfl ?_);show wpAny _ _ (field (.ref z) 3 >>= _) _ _ _;refine wpAny_bind (wpAny_field hz rfl (x:=.ref TI) rfl (wpAny_bind (wpAny_seqItems hTI rfl ?_)));show wpAny _ _ (Builtin.SmallTypes.ownedTupleIsFree (.ref z) >>= _) _ _ _;refine wpAny_bind ?_;unfold Builtin.SmallTypes.ownedTupleIsFree;refine wpAny_bind (wpAny_field hz rfl (x:=.none) rfl (wpAny_pure ?_));simp only[if_true];refine wpAny_bind (wpAny_rule (wpAny_bind (wpAny_field hz rfl (x:=.ref TO) rfl (wpAny_bind (wpAny_setField_rec hz (by simp) λu1 Qm b1=>?_)))))
 replace Qm:IsZip u1 z TI TO .ellipsis:=Qm
 refine wpAny_bind ?_;simp only[List.zipIdx_cons,List.zipIdx_nil,List.forIn_cons,List.forIn_nil];refine wpAny_bind (wpAny_bind (wpAny_onRaise ?_));show wpAny _ _ (Builtin.SmallTypes.nextOf (.ref i1) >>= _) _ _ _;refine wpAny_bind (yN (h1.at λo e=>b1.extBut _ o D.i1z e) (ND.at λo e=>b1.extBut _ o D.l1z e) hx λu2 TR b2=>wpAny_pure ?_);have ID:IsPair u2 TO a b:=b2.extBut _ _ D.TOi1 (b1.extBut _ _ D.TOz hTO);refine wpAny_bind (wpAny_seqItems ID rfl (wpAny_bind (wpAny_updateSeq_pair ID λu3 NF b3=>?_)))
 replace NF:IsPair u3 TO x b:=NF
 refine aa6 (wpAny_letGo (abg (aa6 (aa6 (wpAny_onRaise ?_)))));show wpAny _ _ (Builtin.SmallTypes.nextOf (.ref i2) >>= _) _ _ _;refine aa6 (yN (h2.at λo e=>b3.extBut _ o D.TOi2.symm (b2.extBut _ o D.i12.symm (b1.extBut _ o D.i2z e))) (EJ.at λo e=>b3.extBut _ o D.l2TO (b2.extBut _ o D.l2i1 (b1.extBut _ o D.l2z e))) hy λu4 h24 b4=>abg ?_);have UM:IsPair u4 TO x b:=b4.extBut _ _ D.TOi2 NF;refine aa6 (wpAny_seqItems UM rfl (aa6 (wpAny_updateSeq_pair UM λu5 NG b5=>?_)))
 replace NG:IsPair u5 TO x y:=NG
 refine aa6 (wpAny_letGo (abg (abg ?_)));refine aa6 (wpAny_seqItems NG rfl (aa6 (wpAny_newTuple ?_)));have hsz:u5.objs.size=s.heap.objs.size:=by rw[b5.1,b4.1,b3.1,b2.1,b1.1]
 have hz5:IsZip u5 z TI TO .ellipsis:=b5.extBut _ _ D.TOz.symm (b4.extBut _ _ D.i2z.symm (b3.extBut _ _ D.TOz.symm (b2.extBut _ _ D.i1z.symm Qm)));have FQ:∀c o,c≠z->c≠TO->c≠i1->c≠i2->s.heap.get? c=some o->u5.get? c=some o:=λc o c1 c2 c3 c4 e=>b5.extBut _ _ c2 (b4.extBut _ _ c4 (b3.extBut _ _ c2 (b2.extBut _ _ c3 (b1.extBut _ _ c1 e))))
 have h15:gJ q1 u5 i1 l1 (k1 + 1):=TR.at λo e=>b5.extBut _ o D.TOi1.symm (b4.extBut _ o D.i12 (b3.extBut _ o D.TOi1.symm e))
 have h25:gJ q2 u5 i2 l2 (k2 + 1):=h24.at λo e=>b5.extBut _ o D.TOi2.symm e
 have hzl:z < u5.objs.size:=Heap.lt_size hz5;show wpAny _ _ (Builtin.SmallTypes.ownedTupleHandOut (.ref z) (.ref u5.objs.size) >>= _) _ _ _;refine wpAny_bind ?_;unfold Builtin.SmallTypes.ownedTupleHandOut;have hz6:IsZip (u5.push {cls:=.type "tuple",data:=.seq #[x,y]}) z TI TO .ellipsis:=Heap.get?_push_of_some _ hz5;refine wpAny_bind (wpAny_setField_rec hz6 (by simp) λu7 XU b7=>?_)
 replace XU:IsZip u7 z TI TO (rawInt u5.objs.size):=XU
 refine wpAny_setField_rec XU (by simp) λu8 WK b8=>?_
 replace WK:IsZip u8 z TI TO (rawInt u5.objs.size):=WK
 have up:∀c o,c≠z->u5.get? c=some o->u8.get? c=some o:=λc o c1 e=>b8.extBut _ _ c1 (b7.extBut _ _ c1 (aaa _ e))
 have hT8:IsPair u8 u5.objs.size x y:=b8.extBut _ _ (ab5 hzl) (b7.extBut _ _ (ab5 hzl) (aa8 _ rfl));rw[hsz]at WK hT8;refine abg ⟨_,rfl,abg ?_⟩;show Q (some (.ref u5.objs.size)) _;rw[hsz];exact hQ u8 WK (up _ _ D.TOz NG) (h15.at λo e=>up _ o D.i1z e) (h25.at λo e=>up _ o D.i2z e) hT8 λc o c1 c2 c3 c4 e=>up c o c1 (FQ c o c1 c2 c3 c4 e)
theorem IE{Q:Option Value->Shared->Prop}(hh:A.handled=none)(D:ZipApart z TI TO i1 i2 l1 l2)(hz:IsZip s.heap z TI TO .none)(hTI:IsPair s.heap TI (.ref i1) (.ref i2))(hTO:IsPair s.heap TO a b)
  (h1:gJ q1 s.heap i1 l1 k1) (h2:gJ q2 s.heap i2 l2 k2) (ND:jh q1 s.heap l1 xs) (EJ:jh q2 s.heap l2 ys) (hend:xs[k1]?=none∨ys[k2]?=none)
  (hQ:∀h',(∀c o,c≠z->c≠TO->c≠i1->c≠i2->s.heap.get? c=some o->h'.get? c=some o)->Q none {s with heap:=h'}):wpAny (model prog w) A (pyNext (.ref z)) Q E s:=by
 have hT:s.TypeIs (.ref z) "zip":=⟨_,hz,rfl⟩;have fin:∀(h':Heap) (e:Addr),(∀c o,c≠z->c≠TO->c≠i1->c≠i2->s.heap.get? c=some o->h'.get? c=some o)->(∃o,h'.get? e=some o/\o.cls=.type "StopIteration") ->
   wpAny (model prog w) A (do let b ← isInstance (.ref e) (.type "StopIteration");if b=true then pure none else throw (.ref e)) Q E {s with heap:=h'}:=λh' e hk ⟨o,ho,hc⟩ =>
  aa6 (wpAny_isInstance (T:="StopIteration") (b:=true) ⟨o,ho,hc⟩ isSubtype_stop (abg (hQ _ hk)))
 unfold pyNext;refine wpAny_bind (wpAny_attempt (wpAny_callSpecial?_slot (name:=Str.ofString "__next__") hT F.slot_zip_next (wpAny_call_entry F.slot_zip_next hT F.entry_zip_next ?_ (F.args_zip_next_1 _))));show wpAny _ _ (field (.ref z) 2 >>= _) _ _ _;refine wpAny_bind (wpAny_field hz rfl (x:=.bool false) rfl ?_);show wpAny _ _ (field (.ref z) 3 >>= _) _ _ _;refine wpAny_bind (wpAny_field hz rfl (x:=.ref TI) rfl (wpAny_bind (wpAny_seqItems hTI rfl ?_)));show wpAny _ _ (Builtin.SmallTypes.ownedTupleIsFree (.ref z) >>= _) _ _ _;refine wpAny_bind ?_;unfold Builtin.SmallTypes.ownedTupleIsFree;refine wpAny_bind (wpAny_field hz rfl (x:=.none) rfl (wpAny_pure ?_));simp only[if_true];refine wpAny_bind (wpAny_rule (wpAny_bind (wpAny_field hz rfl (x:=.ref TO) rfl (wpAny_bind (wpAny_setField_rec hz (by simp) λu1 Qm b1=>?_)))))
 replace Qm:IsZip u1 z TI TO .ellipsis:=Qm
 refine wpAny_bind ?_;simp only[List.zipIdx_cons,List.zipIdx_nil,List.forIn_cons,List.forIn_nil];refine wpAny_bind (wpAny_bind (wpAny_onRaise ?_));show wpAny _ _ (Builtin.SmallTypes.nextOf (.ref i1) >>= _) _ _ _
 cases hx:xs[k1]? with
 | none =>
  refine wpAny_bind (IC hh (h1.at λo e=>b1.extBut _ o D.i1z e) (ND.at λo e=>b1.extBut _ o D.l1z e) hx λu2 e b2 he=>?_);obtain⟨oe,hoe,hce⟩:=he;have hz2:IsZip u2 z TI TO .ellipsis:=b2 _ _ D.i1z.symm Qm;have hez:e≠z:=λx=>by subst x;rw[hz2]at hoe;cases hoe;simp at hce
  exact wpAny_setField_rec hz2 (by simp) λu3 _ b3=>fin u3 e (λc o c1 _ c3 _ x=>b3.extBut _ _ c1 (b2 _ _ c3 (b1.extBut _ _ c1 x))) ⟨oe,b3.extBut _ _ hez hoe,hce⟩
 | some x =>
  have hy:ys[k2]?=none:=by rcases hend with h | h;rw[hx]at h;cases h;exact h
  refine wpAny_bind (yN (h1.at λo e=>b1.extBut _ o D.i1z e) (ND.at λo e=>b1.extBut _ o D.l1z e) hx λu2 TR b2=>wpAny_pure ?_);have ID:IsPair u2 TO a b:=b2.extBut _ _ D.TOi1 (b1.extBut _ _ D.TOz hTO);refine wpAny_bind (wpAny_seqItems ID rfl (wpAny_bind (wpAny_updateSeq_pair ID λu3 NF b3=>?_)));refine wpAny_bind (wpAny_letGo (wpAny_pure (wpAny_bind (wpAny_bind (wpAny_onRaise ?_)))));show wpAny _ _ (Builtin.SmallTypes.nextOf (.ref i2) >>= _) _ _ _;refine wpAny_bind (IC hh (h2.at λo e=>b3.extBut _ o D.TOi2.symm (b2.extBut _ o D.i12.symm (b1.extBut _ o D.i2z e))) (EJ.at λo e=>b3.extBut _ o D.l2TO (b2.extBut _ o D.l2i1 (b1.extBut _ o D.l2z e))) hy λu4 e b4 he=>?_);obtain⟨oe,hoe,hce⟩:=he;have hz4:IsZip u4 z TI TO .ellipsis:=b4 _ _ D.i2z.symm (b3.extBut _ _ D.TOz.symm (b2.extBut _ _ D.i1z.symm Qm));have hez:e≠z:=λx=>by subst x;rw[hz4]at hoe;cases hoe;simp at hce
  exact wpAny_setField_rec hz4 (by simp) λu5 _ b5=>fin u5 e (λc o c1 c2 c3 c4 x=>b5.extBut _ _ c1 (b4 _ _ c4 (b3.extBut _ _ c2 (b2.extBut _ _ c3 (b1.extBut _ _ c1 x))))) ⟨oe,b5.extBut _ _ hez hoe,hce⟩
theorem An{q:Bool}{l:Addr}{its:Array Value}{Q:Value->Shared->Prop}(hl:jh q s.heap l its)(hQ:Q (.ref s.heap.objs.size) {s with heap:=s.heap.push {cls:=.type (UL q),data:=.fields #[.ref l,.int 0 0]}}):
  wpAny (model prog w) A (pyIter (.ref l)) Q E s:=by
 cases q with
 | true=>exact acw hl hQ
 | false=>exact wpAny_pyIter_tuple hl hQ
theorem Qn{q:Bool}{h:Heap}{it l:Addr}(e:h.get? it=some {cls:=.type (UL q),data:=.fields #[.ref l,.int 0 0]}):gJ q h it l 0:=by
 cases q<;>exact⟨_,e,rfl,rfl⟩
end
def WL(q1:Bool)(h:Heap)(l1:Addr):Heap:=h.push {cls:=.type (UL q1),data:=.fields #[.ref l1,.int 0 0]}
def UN(q1 q2:Bool)(h:Heap)(l1 l2:Addr):Heap:=(WL q1 h l1).push {cls:=.type (UL q2),data:=.fields #[.ref l2,.int 0 0]}
def UO(q1 q2:Bool)(h:Heap)(l1 l2:Addr):Heap:=(UN q1 q2 h l1 l2).push {cls:=.type "tuple",data:=.seq #[.ref h.objs.size,.ref (WL q1 h l1).objs.size]}
def UP(q1 q2:Bool)(h:Heap)(l1 l2:Addr):Heap:=(UO q1 q2 h l1 l2).push {cls:=.type "tuple",data:=.seq #[.none,.none]}
def TU(q1 q2:Bool)(h:Heap)(l1 l2:Addr):Heap:=(UP q1 q2 h l1 l2).push {cls:=.type "zip",data:=.fields #[.none,.bool false,.bool false,.ref (UN q1 q2 h l1 l2).objs.size,.ref (UO q1 q2 h l1 l2).objs.size]}
theorem C1(q1 q2:Bool)(l1 l2:Addr)(xs ys:Array Value):
  Meets (Builtin.«zip.__new__» ⟨[.type "zip",.ref l1,.ref l2],[]⟩) (λ_ R s=>jh q1 s.heap l1 xs/\jh q2 s.heap l2 ys/\R (.ok (.ret (.ref (UP q1 q2 s.heap l1 l2).objs.size))) {s with heap:=TU q1 q2 s.heap l1 l2}) :=
 .of_wp λprog w A R s h=>by
  obtain⟨hp,g,d,tk,os⟩:=s;obtain⟨ND,EJ,h⟩:=h;have hsub:=sub_zip;have hL1:jh q1 (Shared.heap ⟨hp,g,d,tk,os⟩) l1 xs:=ND;have hL2:jh q2 (Shared.heap ⟨hp.push {cls:=.type (UL q1),data:=.fields #[.ref l1,.int 0 0]},g,d,tk,os⟩) l2 ys:=jh.at EJ λo e=>aaa _ e
  wp_walk using An hL1,An hL2
  exact⟨_,rfl,h⟩
section
variable {prog:Program} {w:World} {A:Around} {E:Value->Shared->Prop} {s:Shared} {q1 q2:Bool}
theorem FR{l1 l2:Addr}{xs ys:Array Value}{Q:Value->Shared->Prop}(ND:jh q1 s.heap l1 xs)(EJ:jh q2 s.heap l2 ys)
  (h:∀h',IsZip h' (s.heap.objs.size + 4) (s.heap.objs.size + 2) (s.heap.objs.size + 3) .none->IsPair h' (s.heap.objs.size + 2) (.ref s.heap.objs.size) (.ref (s.heap.objs.size + 1)) ->
   IsPair h' (s.heap.objs.size + 3) .none .none->gJ q1 h' s.heap.objs.size l1 0->gJ q2 h' (s.heap.objs.size + 1) l2 0->(∀c o,s.heap.get? c=some o->h'.get? c=some o)->Q (.ref (s.heap.objs.size + 4)) {s with heap:=h'}) :
  wpAny (model prog w) A (call (.type "zip") [.ref l1,.ref l2]) Q E s:=by
 refine callType_new F.called_zip (by decide) (F.typeCall_zip_2 _ _) (F.newCall_zip_2 _ _) (λobj=>F.args_object_init_3 obj _ _) F.entry_zip_new (C1 q1 q2 l1 l2 xs ys) ⟨ND,EJ,?_⟩;have z1:(WL q1 s.heap l1).objs.size=s.heap.objs.size + 1:=Heap.size_push ..;have z2:(UN q1 q2 s.heap l1 l2).objs.size=s.heap.objs.size + 2:=by unfold UN;rw[Heap.size_push,z1]
 have z3:(UO q1 q2 s.heap l1 l2).objs.size=s.heap.objs.size + 3:=by unfold UO;rw[Heap.size_push,z2]
 have z4:(UP q1 q2 s.heap l1 l2).objs.size=s.heap.objs.size + 4:=by unfold UP;rw[Heap.size_push,z3]
 have g5:(TU q1 q2 s.heap l1 l2).get? (UP q1 q2 s.heap l1 l2).objs.size=some _:=aa8 _ rfl;have g4:(TU q1 q2 s.heap l1 l2).get? (UO q1 q2 s.heap l1 l2).objs.size=some _:=aaa _ (aa8 _ rfl);have g3:(TU q1 q2 s.heap l1 l2).get? (UN q1 q2 s.heap l1 l2).objs.size=some _:=aaa _ (aaa _ (aa8 _ rfl));have g2:(TU q1 q2 s.heap l1 l2).get? (WL q1 s.heap l1).objs.size=some _:=aaa _ (aaa _ (aaa _ (aa8 _ rfl)));have g1:(TU q1 q2 s.heap l1 l2).get? s.heap.objs.size=some _:=aaa _ (aaa _ (aaa _ (aaa _ (aa8 _ rfl))));show _/\_;rw[z2,z3,z4]at g5;rw[z1,z2]at g3;rw[z3]at g4;rw[z1]at g2;rw[z4];exact⟨⟨_,g5,rfl⟩,h _ g5 g3 g4 (Qn g1) (Qn g2) λc o x=>aaa _ (aaa _ (aaa _ (aaa _ (aaa _ x))))⟩
end
def Hy(q:Bool)(K:ay)(H:Hp)(a:Addr)(xs:List V):Prop:=match q with | true=>bg K H a xs | false=>a8 K H a xs
theorem Hy.heap{X:Cx}{pins:List (Addr×Obj)}{σ:St}{H:Hp}{s:Shared}{q:Bool}{a:Addr}{xs:List V}(I:Inv X pins σ H s)(h:Hy q X.K H a xs):∃its:List Value,Vals xs its/\jh q s.heap a its.toArray:=by
 cases q with
 | true=>obtain⟨its,r,p,_⟩:=I.list h;exact⟨its,r,p.isList⟩
 | false=>obtain⟨its,r,p,_⟩:=I.tuple h;exact⟨its,r,p⟩
theorem jh.lt{q:Bool}{h:Heap}{a:Addr}{its:Array Value}(x:jh q h a its):a < h.objs.size:=by
 cases q<;>(obtain⟨o,ho,r⟩:=x;exact aaY ho)
theorem gJ.lt{q:Bool}{h:Heap}{it a:Addr}{i:Nat}(x:gJ q h it a i):it < h.objs.size:=by
 obtain⟨o,ho,_⟩:=x.obj;exact aaY ho
def UQ(q1 q2:Bool)(K:ay)(l1 l2:Addr)(xs ys:List V):It :=
 ⟨λi H=>i < xs.length/\i < ys.length/\Hy q1 K H l1 xs/\Hy q2 K H l2 ys,
  λi H x H'=>∃T u v,H T=none/\x=.ref T/\H'=upd H T (.tup [u,v])/\xs[i]?=some u/\ys[i]?=some v,
  λi H=>(xs.length<=i∨ys.length<=i)/\Hy q1 K H l1 xs/\Hy q2 K H l2 ys⟩
theorem IF{P:Program}{w:World}{K:ay}{elts:List Expr}{kx}{pos:Pos}{q1 q2:Bool}{z TI TO i1 i2 l1 l2:Addr}(xs ys:List V)(D:ZipApart z TI TO i1 i2 l1 l2):
  Turn P w K (.Tuple elts kx pos) (UQ q1 q2 K l1 l2 xs ys) [z,TI,TO,i1,i2] z (λi h=>IsZip h z TI TO .none/\IsPair h TI (.ref i1) (.ref i2)/\(∃a b,IsPair h TO a b)/\gJ q1 h i1 l1 i/\gJ q2 h i2 l2 i) where
 mem:=by simp
 obj:=λi h st b hb=>by
  obtain⟨hz,hTI,⟨a,b',hTO⟩,h1,h2⟩:=st;simp at hb;rcases hb with e | e | e | e | e
  ·subst e;exact⟨_,hz,λv z=>by cases z⟩
  ·subst e;exact⟨_,hTI,λv z=>by cases z⟩
  ·subst e;exact⟨_,hTO,λv z=>by cases z⟩
  ·subst e;exact h1.obj
  ·subst e;exact h2.obj
 keep:=λi h h' st k=>by
  obtain⟨hz,hTI,⟨a,b',hTO⟩,h1,h2⟩:=st;exact⟨k z (by simp) _ hz,k TI (by simp) _ hTI,⟨a,b',k TO (by simp) _ hTO⟩,h1.at λo e=>k i1 (by simp) o e,h2.at λo e=>k i2 (by simp) o e⟩
 item:=by
  intro X hP hw hK hc i pins s σ H E I hf st hg;subst hP hw hK;obtain⟨g1,g2,s1,s2⟩:=hg;obtain⟨hz,hTI,⟨a,b',hTO⟩,h1,h2⟩:=st;obtain⟨us,r1,p1⟩:=s1.heap I;obtain⟨vs,r2,p2⟩:=s2.heap I;obtain⟨u,hu,ru⟩:=r1.get (dN g1);obtain⟨v,hv,rv⟩:=r2.get (dN g2);refine FP (x:=u) (y:=v) D hz hTI hTO h1 h2 p1 p2 (by simpa using hu) (by simpa using hv) λh' a1 a2 a3 a4 a5 hk=>?_
  refine⟨_,rfl,wpAny_letOwnedTupleGo_zip a1 λh'' b1 sb=>?_⟩;have nT:∀{c o},s.heap.get? c=some o->c≠s.heap.objs.size:=λe=>aa5 (aaY e)
  have hT:IsPair h'' s.heap.objs.size u v:=sb.extBut _ _ (nT hz).symm a5
  have kk:∀c o,c∉[z,TI,TO,i1,i2]->s.heap.get? c=some o->h''.get? c=some o:=λc o hc e=>by
   simp at hc;exact sb.extBut _ _ hc.1 (hk c o hc.1 hc.2.2.1 hc.2.2.2.1 hc.2.2.2.2 e)
  refine⟨.ref s.heap.objs.size,upd H s.heap.objs.size (.tup [xs[i],ys[i]]),I.NA hf kk (aaZ _) ⟨by show 2<=sizeLine;decide,[u,v],.cons ru (.cons rv .nil),_,hT,rfl,_,rfl⟩,rfl,⟨_,_,_,I.fresh,rfl,rfl,dN g1,dN g2⟩,?_,λb hb=>?_⟩
  ·exact⟨b1,sb.extBut _ _ D.TIz (hk _ _ D.TIz D.TITO D.TIi1 D.TIi2 hTI),⟨_,_,sb.extBut _ _ D.TOz a2⟩,a3.at λo e=>sb.extBut _ o D.i1z e,a4.at λo e=>sb.extBut _ o D.i2z e⟩
  ·rw[uN ?_]
   ·exact(hf b hb).1
   ·simp at hb;rcases hb with e | e | e | e | e
    ·subst e;exact nT hz
    ·subst e;exact nT hTI
    ·subst e;exact nT hTO
    ·subst e;exact aa5 h1.lt
    ·subst e;exact aa5 h2.lt
 done:=by
  intro X hP hw hK hc i pins s σ H E I hf st hg;subst hP hw hK;obtain⟨g1,s1,s2⟩:=hg;obtain⟨hz,hTI,⟨a,b',hTO⟩,h1,h2⟩:=st;obtain⟨us,r1,p1⟩:=s1.heap I;obtain⟨vs,r2,p2⟩:=s2.heap I;have e1:=r1.length;have e2:=r2.length;refine IE (I.ok.hd hc) D hz hTI hTO h1 h2 p1 p2 ?_ λh' hk=>⟨rfl,I.NB (t':=s.toks) hf λc o hc e=>?_⟩
  ·rcases g1 with g | g
   ·exact .inl (by simp;omega)
   ·exact .inr (by simp;omega)
  ·simp at hc;exact hk c o hc.1 hc.2.2.1 hc.2.2.2.1 hc.2.2.2.2 e
 self:=λ_ _ _ _ _ st h=>wpAny_pyIter_zip st.1 h
section
variable {X:Cx}
def XW(q1 q2:Bool)(K:ay)(ta:TA):TI:=λσ H R=>ta σ H λvs H1=>∃l1 l2 xs ys,vs=[.ref l1,.ref l2]/\Hy q1 K H1 l1 xs/\Hy q2 K H1 l2 ys/\R (UQ q1 q2 K l1 l2 xs ys) H1
theorem Rp(q1 q2:Bool){elts:List Expr}{kx}{tpos:Pos}{a b:Expr}{ta:TA}{p pos:Pos}(hg:Gl X "zip")(hm:X.mg "zip"=none)(ha:PA X [a,b] ta)(hs:starEach [a,b] X.env=[(false,eval a X.env),(false,eval b X.env)]:=by rfl)(Uv:starEach [b] X.env=[(false,eval b X.env)]:=by rfl):
  PI X (.Tuple elts kx tpos) (.Call (.Name "zip" p) [a,b] [] pos) (XW q1 q2 X.K ta):=by
 intro pins s σ H R I h;refine Call_ (uU I hg hm Rf (ab1 (cg (ha pos pins s σ H _ I h) λus s1 ⟨vs,H1,I1,r1,q1⟩=>?_) (by rw[hs,Uv]) (by rw[Uv];rfl)));obtain⟨l1,l2,xs,ys,rfl,s1',s2',q⟩:=q1;obtain⟨u1,u2,rfl,XS,XT⟩:=vals2 r1;cases XS;cases XT;obtain⟨us1,r1,p1⟩:=s1'.heap I1;obtain⟨vs1,r2,p2⟩:=s2'.heap I1;have n1:=p1.lt;have n2:=p2.lt;refine FR p1 p2 λh' hz hTI hTO h1 h2 kk=>?_
 refine wpAny_pyIter_zip hz ?_;refine⟨s1.heap.objs.size + 4,[s1.heap.objs.size + 4,s1.heap.objs.size + 2,s1.heap.objs.size + 3,s1.heap.objs.size,s1.heap.objs.size + 1],_,_,H1,rfl,I1.kept (t':=s1.toks) kk,IF xs ys ⟨?_,?_,?_,?_,?_,?_,?_,?_,?_,?_,?_,?_,?_,?_,?_,?_,?_,?_⟩,⟨hz,hTI,⟨_,_,hTO⟩,h1,h2⟩,?_,q⟩
 all_goals first | exact aa5 (Nat.add_lt_add_left (by decide) _) | exact ab5 (Nat.add_lt_add_left (by decide) _) | exact aa5 (acM (by decide)) | exact ab5 (acM (by decide)) | exact aa5 (aa0 n1 (Nat.le_add_right _ _)) | exact aa5 (aa0 n2 (Nat.le_add_right _ _)) | exact aa5 n1 | exact aa5 n2 | skip
 intro c hb
 have hb':s1.heap.objs.size<=c:=by
  simp at hb;rcases hb with e | e | e | e | e<;>(rw[e];first | exact Nat.le_refl _ | exact Nat.le_add_right _ _)
 exact I1.Na hb' (I1.hok.fresh hb')
end
theorem NH{q1 q2:Bool}{K:ay}{l1 l2:Addr}{xs ys:List V}{g:TG}{tb:TS}{D:Ends}{σ:St}{H:Hp}(n:Nat)(Pv:Nat->St->Hp->Prop)(hx:n<=xs.length)(hy:n<=ys.length)(he:xs.length<=n∨ys.length<=n)
  (h0:Pv 0 σ H) (hl:∀i σ H,i<=n->Pv i σ H->Hy q1 K H l1 xs/\Hy q2 K H l2 ys)
  (hs:∀i u v σ H T,xs[i]?=some u->ys[i]?=some v->i < n->Pv i σ H->H T=none->g (.ref T) σ (upd H T (.tup [u,v])) λσ2 H2=>tb {D with nx:=Pv (i + 1),ct:=Pv (i + 1),bk:=D.nx} σ2 H2) (hd:∀σ H,Pv n σ H->D.nx σ H) :
  ∃W:Nat->Nat->St->Hp->Prop,(∃m,W 0 m σ H)/\∀i m σ H,W i m σ H ->
   ((UQ q1 q2 K l1 l2 xs ys).stop i H/\D.nx σ H)∨((UQ q1 q2 K l1 l2 xs ys).go i H/\∃N:St->Hp->Prop,(∀σ' H',N σ' H'->∃m',m' < m/\W (i + 1) m' σ' H')/\∀x H',(UQ q1 q2 K l1 l2 xs ys).yld i H x H'->g x σ H' λσ2 H2=>tb {D with nx:=N,ct:=N,bk:=D.nx} σ2 H2):=by
 refine⟨λi m σ H=>m=n - i/\i<=n/\Pv i σ H,⟨n,by simp,Nat.zero_le _,h0⟩,?_⟩;rintro i m σ H ⟨rfl,hi,p⟩;obtain⟨p3,p4⟩:=hl i σ H hi p;by_cases hlt:i < n
 ·refine .inr ⟨⟨by omega,by omega,p3,p4⟩,Pv (i + 1),λσ' H' p'=>⟨n - (i + 1),by omega,rfl,hlt,p'⟩,λx H' y=>?_⟩;obtain⟨T,u,v,t1,e1,e2,t2,t3⟩:=y;subst e1 e2;exact hs i u v σ _ T t2 t3 hlt p t1
 ·have e:i=n:=by omega
  subst e;exact .inl ⟨⟨he,p3,p4⟩,hd σ H p⟩
theorem oY{H:Hp}{p:Addr}(h:H p=none)(o:HO):aA H (upd H p o):=λb u q=>by rw[uN (nN q h)];exact q
section
variable {prog:Program} {w:World} {A:Around} {E:Value->Shared->Prop} {s:Shared}
end
section
variable {X:Cx}
def Qo(K:ay):R2:=λx y H Q=>∃a b xs ys,x=.ref a/\y=.ref b/\a8 K H a xs/\a8 K H b ys/\xs.length + ys.length<=sizeLine/\∀p H',aA H H'->a8 K H' p (xs++ys)->Q (.ref p) H'
theorem NI:iE X (binaryOp .Add) (Qo X.K):=by
 intro pins s σ H x y v u Q I rx ry h;obtain⟨a,b,xs,ys,rfl,rfl,ha,hb,hz,q⟩:=h;by_cases hx:xs=[]
 ·subst hx;cases rx;cases ry;obtain⟨its,r1,p1,_⟩:=I.tuple ha;obtain⟨qs,r2,p2,_⟩:=I.tuple hb;cases r1;obtain⟨⟨c1,d1,e1,Iw⟩,ho,hc,n,hd⟩:=id p1;obtain⟨⟨c2,d2,e2,Q0⟩,Mt,Q3,n2,hd2⟩:=id p2;simp only at hc hd Q3 hd2;subst hc hd Q3 hd2;exact concat_meets ⟨_,ho,rfl⟩ ⟨_,Mt,rfl⟩ noFill_tuple_add seq_tuple_add PySem.F.slot_tuple_add PySem.F.entry_tuple_add (PySem.F.args_tuple_add_2 _ _)
   (tuple_addW0 a b _ qs.toArray n n2 d1 d2 Iw Q0 (by simp)) ⟨ho,Mt,⟨.ref b,H,I,rfl,q b H (aA.refl _) hb⟩⟩
 ·exact Nm pins s σ H _ _ v u Q I rx ry ⟨a,b,xs,ys,rfl,rfl,ha,hb,hx,hz,λe=>q a H (aA.refl _) (by rw[e,abV];exact ha),λ_ p hp=>q p _ (oY hp _) (a8.of uS)⟩
end
structure FT(P:Program)(w:World)(fs:List Env)(H H':Hp)(h0 B:Heap)(a:Addr)(cls a0:Value)(h:Heap):Prop where
 keep:∀b o,h0.get? b=some o->H b=none->b∉aT fs->B.get? b=some o
 there:∀b o,h0.get? b=some o->b∉aT fs->∃o',B.get? b=some o'
 slot:∀b o,h0.get? b=some o->b∈aT fs->∃sl,h.get? b=some {o with slots:=sl}
 free:∀b o,h0.get? b=some o->H b=none->H' b=none
 tups:∀b xs,H b=some (.tup xs)->H' b=some (.tup xs)
 eT:∀b o u,H b=some (.rK o u)->H' b=some (.rK o u)
 tbls:∀b ps,H b=some (.tbl ps)->∃more,H' b=some (.tbl (ps++more))
 hok:sP P w H' B
 fly:Heap.FlyingW B fs a cls a0 h
section
variable {P:Program} {w:World} {fs:List Env} {H H':Hp} {h0 B h h':Heap} {a:Addr} {cls a0:Value}
theorem FT.un(F:FT P w fs H H' h0 B a cls a0 h):Un (aT fs) [] H H' h0 h where
 keep:=λb o e n hb _=>F.fly.1 b o (F.keep b o e n hb)
 slot:=λb o e _ hb _=>F.slot b o e hb
 free:=λb o e n _=>F.free b o e n
 there:=λb o e _=>by
  by_cases hb:b∈aT fs
  ·obtain⟨sl,q⟩:=F.slot b o e hb;exact⟨_,q⟩
  ·obtain⟨o',q⟩:=F.there b o e hb;exact⟨o',F.fly.1 b o' q⟩
 tups:=F.tups
 eT:=F.eT
 tbls:=F.tbls
theorem FT.UR(F:FT P w fs H H' h0 B a cls a0 h):sP P w H' h:=F.hok.kept F.fly.1
theorem FT.new(F:FT P w fs H H' h0 B a cls a0 h):H' a=none:=by
 cases q:H' a with
 | none=>rfl
 | some u =>
  have:=(F.hok a u q).lt;have z:=F.fly.2.1
  exact absurd z (by
   intro z
   have e:∃o,B.get? a=some o:=by
    have ok:=F.hok a u q
    cases u with
    | lst xs=>obtain⟨_,_,_,_,e⟩:=ok;exact⟨_,e⟩
    | tup xs=>obtain⟨_,_,_,o,e,_⟩:=ok;exact⟨_,e⟩
    | dK kvs=>obtain⟨_,_,_,_,o,_,_,e,_⟩:=ok;exact⟨_,e⟩
    | dT kvs=>obtain⟨_,_,_,_,o,_,_,e,_⟩:=ok;exact⟨_,e⟩
    | set S n=>obtain⟨o,_,_,_,e,_⟩:=ok;exact⟨_,e⟩
    | ins C dx fs=>obtain⟨_,_,_,e,_⟩:=ok;exact⟨_,e⟩
    | own y=>exact ok
    | xd fs=>obtain⟨_,⟨o,_,_,e,_⟩,_⟩:=ok;exact⟨_,e⟩
    | rng lo hi=>obtain⟨_,_,_,e⟩:=ok;exact⟨_,e⟩
    | rK ob u=>obtain⟨e,_⟩:=ok;exact⟨_,e⟩
    | tbl ps=>exact⟨_,ok⟩
    | met f y=>exact⟨_,ok⟩
    | ext φ=>obtain⟨_,e,_⟩:=ok;exact e
   obtain⟨o,e⟩:=e;rw[z]at e;cases e)
theorem FT.on(F:FT P w fs H H' h0 B a cls a0 h)(fl:Heap.FlyingW B fs a cls a0 h')(u:h.UpToSlots h'):FT P w fs H H' h0 B a cls a0 h' :=
 ⟨F.keep,F.there,λb o e hb=>by
  obtain⟨sl,q⟩:=F.slot b o e hb;obtain⟨_,o',ho',hn⟩:=F.fly.2.2.1.mem hb;rw[q]at ho';have e1:=abc ho';obtain⟨sl',q'⟩:=u b _ q (by rw[e1];exact hn);exact⟨sl',q'⟩,F.free,F.tups,F.eT,F.tbls,F.hok,fl⟩
end
def Rz(X:Cx)(E:XK):Prop:=∀(pins:List (Addr×Obj)) (σ:St) (H:Hp) (s:Shared) (h':Heap) (e C:Addr) (vs:List Value),Inv X pins σ H s->Heap.MadeExcOf s.heap h' e (.ref C) vs->E (.ref C) none H->X.xe (.ref e) {s with heap:=h'}
section
variable {P:Program} {w:World} {K:ay} {mg:Str->Option Value} {base:Heap} {N:List Str} {qual:Str} {scope:Scope} {f:Addr} {cd:Value} {A:Around} {outer:List Env} {s₀:Shared} {H₀:Hp} {E:XK}
theorem cA{env:Env}{l:List Env}{L b:Addr}(hf:env.frame=some L):b∈aT (env::l)↔b=L∨b∈aT l:=by
 unfold aT;rw[List.filterMap_cons,hf];exact List.mem_cons
end
theorem FU{K:ay}{h:Heap}{C:Addr}{bmB:List Value}{newId:String}(X:K.In h)(q:PySem.W.excIn K C bmB newId=true):
  ∃bm N nm qn bs hd sn sub ab col dd k0 k1 k2 k3 k5 mN,h.get? C=some (excClassObj nm qn C N bs bm hd sn sub ab col dd k0 k1 k2 k3 k5 newId)/\h.Ns N mN/\mN "__init__"=none/\OwnTail h bmB bm:=by
 unfold PySem.W.excIn at q;split at q
 ·rename_i dd cd sl ho;split at q
  ·rename_i C' bm k0 k1 k2 k3 n k5 hm hs;simp only[Bool.and_eq_true,beq_iff_eq,Bool.not_eq_true']at q;obtain⟨⟨⟨⟨⟨rfl,rfl⟩,hdel⟩,ht⟩,hok⟩,hni⟩:=q;obtain⟨nm,bs,mro,ns,qn,hd,sn,sub,ab,col,del⟩:=cd;dsimp only at hm hdel hok hni;subst hm hdel
   have hsl:sl=#[k0,k1,k2,k3,some (.builtin n),k5]:=by
    obtain⟨l⟩:=sl;simp only at hs;rw[hs]
   subst hsl;exact⟨bm,ns,nm,qn,bs,hd,sn,sub,ab,col,dd,k0,k1,k2,k3,k5,_,X _ _ ho,.of_isNs (PySem.W.isNs_of_in X hok),PySem.W.nsMap_none_of_in X hok hni,PySem.W.tail_of_in X ht⟩
  ·cases q
 ·cases q
def yO:List Value:=[.type "ValueError",.type "Exception",.type "BaseException",.type "object"]
section
variable {X:Cx} {x:Str} {C:Addr} {E:XK} {np cpos pos:Pos}
def Rq(C:Addr)(E:XK):TS:=λ_ _ H=>E (.ref C) none H
theorem xR(hz:Rz X E)(hg:Gl X x)(hm:X.mg x=some (.ref C))(q:PySem.W.excIn X.K C yO "ValueError.__new__"=true)(hc:X.calm=true)(hd:(x == ("__debug__" : Str))=false:=by decide)(hpl:backTo cpos (starEach [] X.env)=[]:=by rfl):
  PS X (.Raise (some (.Call (.Name x np) [] [] cpos)) none pos) (Rq C E):=by
 intro pins s σ H D I h;obtain⟨bm,N,nm,qn,bs,hd',sn,sub,ab,col,dd,k0,k1,k2,k3,k5,mN,hC,hn,hi,T⟩:=FU I.uk q;refine wpAny_Raise_call_subU (C:=C) (mN:=mN) (nm:=nm) (q:=qn) (N:=N) (bs:=bs) (bm:=bm) (hdct:=hd') (sn:=sn) (sub:=sub) (ab:=ab) (col:=col) (dd:=dd) (k0:=k0) (k1:=k1) (k2:=k2) (k3:=k3) (k5:=k5) F.excBase_ValueError (bmB:=yO) (by decide) F.excBase_ValueError (T.hasType (X:="BaseException") (b:=true) (by decide)) (I.ok.hd hc) (by rw[hpl];rfl) hi ?_;refine iF I hg hm ⟨rfl,?_⟩ hd;rw[hpl];refine PyProof.Rows.evalArgs_none ⟨rfl,by decide,hC,hn,T,λh' e hx=>?_⟩;exact hz pins σ H s h' e C [] I hx h
end
def ExcAt(C a:Addr):Heap->Prop:=λh=>∃o vs,h.get? a=some o/\o.cls=.ref C/\o.data=.fields vs
theorem excMatches_K{K:ay}{M:Model}{A:Around}{E:Value->Shared->Prop}{h:Heap}{g:Array GenState}{d:Drawn}{t:Nat}{os:OsState}{a C CW:Addr}{oe:Obj}{Q:Bool->Shared->Prop}(X:K.In h)(he:h.get? a=some oe)(hcls:oe.cls=.ref C)
  (q:PySem.W.ktsIn K CW "BaseException"=true) (m:PySem.W.mroIn K C (.ref CW)=some true) (hq:Q true ⟨h,g,d,t,os⟩):wpAny M A (excMatches (.ref a) (.ref CW)) Q E ⟨h,g,d,t,os⟩:=by
 obtain⟨nm,qn,N,bs,bm,hdct,sn,sub,ab,col,dd,k0,k1,k2,k3,k5,newId,hC,hbase,_⟩:=PySem.W.kts_cls X q;have hcB:(Value.ref CW::bm).contains (.type "BaseException")=true:=by rw[List.contains_cons,hbase,Bool.or_true]
 have f:=tc_notTuple;have L:=PySem.W.looks_mroIn (M:=M) X m;unfold excMatches
 repeat (first | (with_reducible refine ab0 he ?_;rw[hcls]) | with_reducible refine ab0 hC ?_ | (with_reducible refine wpAny_isSubtype_exc hC ?_;rw[hcB]) | with_reducible refine L.at ?_ | wp_step)
 exact hq
abbrev Cx.hand(X:Cx)(a:Addr)(E:Value->Shared->Prop):Cx:={X with A:=X.A.mark (some (.ref a)),calm:=false,xe:=E}
section
variable {X:Cx} {pins:List (Addr×Obj)} {σ:St} {H:Hp} {s:Shared}
theorem Inv.hand(I:Inv X pins σ H s)(a:Addr)(E:Value->Shared->Prop):Inv (X.hand a E) pins σ H s :=
 ⟨⟨I.ok.mod,I.ok.kind,I.ok.glob,I.ok.blt,I.ok.above,I.ok.inj,I.ok.has,I.ok.cab,(λz=>nomatch (show false=true from z)),I.ok.frames,I.ok.stk,I.ok.exf,I.ok.bs,I.ok.bsz,I.ok.noex,I.ok.exfs,I.ok.rL,I.ok.frf⟩,I.os,I.bare,I.base,I.loc,I.cell,I.free,I.freeC,I.pin,I.hok,I.len⟩
theorem Inv.kW{a:Addr}{E:Value->Shared->Prop}(ok:X.Ok)(I:Inv (X.hand a E) pins σ H s):Inv X pins σ H s:=⟨ok,I.os,I.bare,I.base,I.loc,I.cell,I.free,I.freeC,I.pin,I.hok,I.len⟩
theorem Inv.adopt{a:Addr}{φ:Heap->Prop}(I:Inv X pins σ H s)(hn:H a=none)(h1:X.s₀.heap.get? a=none)(hL:a≠X.env.locals)(hfs:a∉X.fs)(hc:∀x c,X.env.cells.lookup x=some c->c≠a)(hp:∀p∈X.pn++pins,p.1≠a)
  (ok:φ s.heap/\(∃o,s.heap.get? a=some o)/\∀u v:Heap,φ u->(∀o,u.get? a=some o->v.get? a=some o)->φ v):Inv X pins σ (upd H a (.ext φ)) s:=by
 refine⟨I.ok,I.os,I.bare,⟨I.base.keep,I.base.slot,λb o e n hx=>?_,I.base.there,λb xs e=>?_,λb o u e=>?_,λb ps e=>?_⟩,I.loc,I.cell,?_,λx c e=>?_,λp hq=>?_,λb u e=>?_,I.len⟩
 ·rw[uN (λz=>by rw[z,h1]at e;cases e)];exact I.base.free b o e n hx
 ·have e':=I.base.tups b xs e;rw[uN (nN e' hn)];exact e'
 ·have e':=I.base.eT b o u e;rw[uN (nN e' hn)];exact e'
 ·obtain⟨m,e'⟩:=I.base.tbls b ps e;exact⟨m,by rw[uN (nN e' hn)];exact e'⟩
 ·rw[uN (aci hL)];exact I.free
 ·rw[uN (hc x c e)];exact I.freeC x c e
 ·obtain⟨q1,q2,q3⟩:=I.pin p hq;exact⟨q1,by rw[uN (hp p hq)];exact q2,q3⟩
 ·by_cases hb:b=a
  ·subst hb;rw[uS]at e;cases e;exact ok
  ·rw[uN hb]at e;exact(I.hok b u e).wX (λ_ _ _ q=>q) (λc q=>by rw[uN (nN q hn)];exact q) λc xs q=>by rw[uN (nN q hn)];exact q
theorem EM{M:Model}{A:Around}{E:Value->Shared->Prop}{i:Nat}{n:Str}{pos:Pos}{Q:Unit->Shared->Prop}(I:Inv X pins σ H s)(hN:X.N.Nodup)(hi:X.N[i]?=some n)(hk:X.env.kindOf n=some .local)
  (h:∀s',Inv X pins (σ.set i none) H s'->Q () s'):wpAny M A (do bindName X.env n .none;unbindBehindTheSuite X.env n pos) Q E s:=by
 obtain⟨m,hn,hl⟩:=id I.loc;have hcls:(X.env.scope.kind == .class||(X.env.scope.kind == .module&&X.env.locals != X.env.globals))=false:=by rw[I.ok.kind];rfl
 have hiσ:i < σ.length:=by rw[I.len];exact(dD hi).1
 obtain⟨oL,_,_,hoL,_⟩:=id hn;refine wpAny_nameGoes_keeps hk hn hcls λh' v hn' hs=>?_
 refine h _ ⟨I.ok,I.os,I.bare,⟨λb o e n hb hx=>?_,λb o e n hb hx=>?_,I.base.free,λb o e hx=>?_,I.base.tups,I.base.eT,I.base.tbls⟩,⟨_,hn',λj y v' e1 e2 e3=>?_⟩,λy c e=>?_,I.free,I.freeC,λp hp=>?_,λb ob e=>?_,by simpa using I.len⟩
 ·exact(hs.2 b (aa5 (aa0 (aaY e) I.ok.above))).trans (I.base.keep b o e n hb hx)
 ·obtain⟨sl,e1⟩:=I.base.slot b o e n hb hx;exact⟨sl,(hs.2 b (aa5 (aa0 (aaY e) I.ok.above))).trans e1⟩
 ·obtain⟨o',e1⟩:=I.base.there b o e hx;exact⟨o',(hs.2 b (aa5 (aa0 (aaY e) I.ok.above))).trans e1⟩
 ·by_cases hj:j=i
  ·subst hj;rw[abA hiσ]at e2;cases e2
  ·rw[aby (aci hj)]at e2;obtain⟨u',r',q⟩:=hl j y v' e1 e2 e3;refine⟨u',r',?_⟩;rcases q with⟨k,e⟩ | ⟨k,c,e,z⟩
   ·refine .inl ⟨k,?_⟩;have:y≠n:=λe=>hj (uT hN e1 (e ▸ hi))
    simp[this,e]
   ·exact .inr ⟨k,c,e,z.sameBut hs (I.M0 y c e)⟩
 ·obtain⟨w',z⟩:=I.cell y c e;exact⟨w',z.sameBut hs (I.M0 y c e)⟩
 ·obtain⟨e,n,ne,nf,d⟩:=I.pin p hp;exact⟨(hs.2 p.1 ne).trans e,n,ne,nf,d⟩
 ·refine(I.hok b ob e).wX (λc w' hc q=>(hs.2 c ?_).trans q) (λ_ q=>q) λ_ _ q=>q
  rintro rfl;rcases hc with rfl | hc
  ·rw[I.free]at e;cases e
  ·rw[I.free]at hc;cases hc
end
section
variable {X:Cx} {CW:Addr} {cx n:Str} {i:Nat} {b₀:Stmt} {suite:List Stmt} {np hpos pos:Pos} {tb:TS}
end
open PySem PySem.Spec PyProof.Rows PySem.W Builtin.Getset_descriptor
structure KX(K:Frag)(C:Addr):Prop where
 ga:findIn K (.ref C) "__getattribute__"=some (some (.builtin "BaseException.__getattribute__"))
 gh:findIn K (.ref C) "__getattr__"=some none
 cl:findIn K (.ref C) "__class__"=some (some (.builtin "object.__class__"))
 mb:mroIn K C (.type "BaseException")=some true
 mo:mroIn K C (.type "object")=some true
section
variable {prog:Program} {w:World} {A:Around} {E:Value->Shared->Prop} {K:Frag} {a C:Addr} {o:Obj} {h:Heap} {g:Array GenState} {d:Drawn} {t:Nat} {os:OsState}
theorem IG{R:Result->Shared->Prop}(X:K.In h)(k:KX K C)(hx:h.get? a=some o)(hc:o.cls=.ref C)(hq:R (.ok (.ret (.ref C))) ⟨h,g,d,t,os⟩):
  codeAny (model prog w) A (.call (.builtin "getset_descriptor.__get__") ⟨[.builtin "object.__class__",.ref a,.ref C],[]⟩) R ⟨h,g,d,t,os⟩:=by
 have L0:Looks (model prog w) h (typeOf (.ref a)) (.ref C):=hc ▸ (Looks.ld hx).andThen .now;have L1:=looks_mroIn (M:=model prog w) X k.mo;refine codeAny_call_builtin KF.slot_gs.plain KF.entry_gs (KF.slot_gs.check _ _ _ _ _ _ _ _ KF.type_class (KF.args_gs _ _ _) ?_);unfold Builtin.«getset_descriptor.__get__» descrGet;rw[dga_obj];refine wpAny_bind (wpAny_pure ?_);unfold descrGetter descrCheckInstance descrNameAndClass isInstance;simp only[KF.owner_class]
 repeat lk
 refine⟨Code.quiet_builtin _ (by decide +kernel),codeAny_builtin KF.entry_class ?_⟩;unfold Builtin.«object.__class__» shownTypeOf
 repeat lk
 exact hq
theorem IH{tk:Tok}{Q:Fin->Shared->Prop}(X:K.In h)(k:KX K C)(hx:h.get? a=some o)(hc:o.cls=.ref C)(hq:Q (.done (.ret (.ref C))) ⟨h,g,d,t,os⟩):
  wpAny (model prog w) A (Builtin.«object.__getattribute__» ⟨[.ref a,.str "__class__" tk],[]⟩) Q E ⟨h,g,d,t,os⟩:=by
 have L0:Looks (model prog w) h (typeOf (.ref a)) (.ref C):=hc ▸ (Looks.ld hx).andThen .now;have L1:=looks_findIn (M:=model prog w) X k.cl;have hT5:(⟨h,g,d,t,os⟩:Shared).TypeIs (.builtin "object.__class__") "getset_descriptor":=F.typeOf_object_class;have f5:=F.typeOf_object_class;have f6:=F.slot_gs_get.lookup;have f7:=F.slot_gs_set.lookup
 repeat (any_goals (first | assumption | with_reducible refine L1.at ?_ | (with_reducible refine ab0 hx ?_;rw[hc]) | wp_step))
 refine IG X k hx hc ?_
 repeat (any_goals (first | assumption | wp_step))
theorem II{M:Model}{nameV:Value}{Q:Unit->Shared->Prop}(X:K.In h)(k:KX K C)(hx:h.get? a=some o)(hc:o.cls=.ref C)(hq:Q () ⟨h,g,d,t,os⟩):wpAny M A (checkBuiltinCall "BaseException.__getattribute__" ⟨[.ref a,nameV],[]⟩) Q E ⟨h,g,d,t,os⟩:=by
 have L1:=looks_mroIn (M:=M) X k.mb;have hk:builtinKind "BaseException.__getattribute__"=some .slot:=by decide +kernel
 have hsplit:splitId "BaseException.__getattribute__"=some ("BaseException","__getattribute__"):=by decide +kernel
 have ha:=F.args_bexc_ga (.ref a) nameV;simp only[checkBuiltinCall,hk,hsplit];refine wpAny_bind ?_;unfold isInstance
 repeat (first | (with_reducible refine ab0 hx ?_;rw[hc]) | with_reducible refine L1.at ?_ | wp_step)
 exact hq
theorem NJ{tk:Tok}{Q:Value->Shared->Prop}(X:K.In h)(k:KX K C)(hx:h.get? a=some o)(hc:o.cls=.ref C)(hq:Q (.ref C) ⟨h,g,d,t,os⟩):
  wpAny (model prog w) A (getAttrBy (.ref a) (.str "__class__" tk) false false) Q E ⟨h,g,d,t,os⟩:=by
 have L1:=looks_findIn (M:=model prog w) X k.ga;have L2:=looks_findIn (M:=model prog w) X k.gh;have f3:=F.excAttr_ValueError.ga.bind (.ref a);have hx0:(false&&onTheHeap (Value.builtin "BaseException.__getattribute__"))=false:=rfl;have XX:(Value.builtin "BaseException.__getattribute__" == Value.builtin "object.__getattribute__")=false:=by decide +kernel
 have WM:(onTheHeap (Value.ref C)&&Value.builtin "BaseException.__getattribute__" == Value.builtin "object.__getattribute__")=false:=by rw[XX];rfl
 repeat (any_goals (first | assumption | (with_reducible refine ab0 hx ?_;rw[hc]) | with_reducible refine L1.at ?_ | with_reducible refine L2.at ?_ | wp_step))
 refine codeAny_call_builtin F.excAttr_ValueError.ga.plain F.entry_bexc_ga (II X k hx hc (IH X k hx hc ?_))
 repeat (any_goals (first | assumption | wp_step))
theorem FV{Q:Option Value->Shared->Prop}(X:K.In h)(k:KX K C)(hx:h.get? a=some o)(hc:o.cls=.ref C)(hq:Q (some (.ref C)) ⟨h,g,d,t + 1,os⟩):wpAny (model prog w) A (getAttr? (.ref a) "__class__") Q E ⟨h,g,d,t,os⟩:=by
 unfold getAttr? getAttrBy?
 repeat (any_goals (first | assumption | with_reducible apply NJ X k hx hc | wp_step))
end
theorem IJ{K:Frag}{a C:Addr}{cd:ClassData}(k:KX K C)(hC:clsIn K C=some cd):KitX K (.ref a) (.ref C) (ExcAt C a) where
 ty:=λ_ _ _ ⟨o,_,h1,h2,_⟩=>h2 ▸ (Looks.ld h1).andThen .now
 it:=λ_ _ X _=>by
  unfold clsIn at hC;split at hC
  ·rename_i c' d' cd' sl' ho;intro A' Q' E' s' kk q;unfold isType loadHead;exact wpAny_bind (wpAny_loadPart (kk _ _ (X _ _ ho)) (wpAny_pure q))
  ·cases hC
 ne:=λh tp dd its n sl X e=>by
  refine acx.mpr λq=>?_
  have z:=beq_iff_eq.mp q;cases z;unfold clsIn at hC;split at hC
  ·rename_i c' d' cd' sl' ho;have:=X _ _ ho;rw[e]at this;cases this
  ·cases hC
 ca:=λ{_ _ _ _ _ s} X p q=>by
  obtain⟨o,vs,h1,h2,_⟩:=p;obtain⟨h,g,d,t,os⟩:=s;exact FV X k h1 h2 q
section
variable {X:Cx}
end
def IK(_i j:Int):Prop:=j≠0/\j.natAbs < 18446744073709551616
theorem IK.ok{i j:Int}(hc:IK i j):Builtin.divisionGoesByPylong i j=false:=by
 refine PyProof.noPylong_of_log2 ?_;have z:j.natAbs≠0:=λz=>hc.1 (Int.natAbs_eq_zero.mp z)
 exact aa0 ((Nat.log2_lt z).mpr (show j.natAbs < 2 ^ 64 from hc.2)) (by decide)
theorem rQ:fillsNumberSlot (.type "tuple") "mul"=pure false :=
 PySem.fillsNumberSlot_seq (id:="tuple.__mul__") (r:=some (.builtin "tuple.__rmul__")) F.slot_tuple_mul.lookup (by decide +kernel) F.slot_tuple_rmul.lookup (by decide +kernel)
theorem yP:seqRepeat? (.type "tuple")=pure (some (.builtin "tuple.__mul__")):=by
 unfold seqRepeat?;rw[PySem.seqSlot_of (T:="tuple") (name:="__mul__") (id:="tuple.__mul__") F.slot_tuple_mul.lookup (by decide +kernel),PySem.seqSlot_of (T:="tuple") (name:="__rmul__") (id:="tuple.__rmul__") F.slot_tuple_rmul.lookup (by decide +kernel)];rfl
theorem yQ(a:Int)(t:Tok)(l:Addr)(items:Array Value)(n:Nat)(d:Option Addr)(sl:Array (Option Value)):
  Meets (Builtin.«int.__rmul__» ⟨[.int a t,.ref l],[]⟩) (λ_ R s=>s.heap.get? l=some {cls:=.type "tuple",dict:=d,data:=.seq items n,slots:=sl}/\R (.ok (.ret Value.notImplemented)) s) :=
 .of_wp λprog w A R s h=>by obtain⟨hp,g,dd,tk,os⟩:=s;obtain⟨hl,h⟩:=h;wp_walk;exact⟨_,rfl,h⟩
theorem Ao(l:Addr)(items:Array Value)(n:Nat)(x:Int)(u:Tok)(d:Option Addr)(sl:Array (Option Value))(h1:x=1):
  Meets (Builtin.«tuple.__mul__» ⟨[.ref l,.int x u],[]⟩) (λ_ R s=>s.heap.get? l=some {cls:=.type "tuple",dict:=d,data:=.seq items n,slots:=sl}/\R (.ok (.ret (.ref l))) s) :=
 .of_wp λprog w A R s h=>by obtain⟨hp,g,dd,tk,os⟩:=s;obtain⟨hl,h⟩:=h;subst h1;wp_walk;exact⟨_,rfl,h⟩
theorem yR(l:Addr)(items:Array Value)(n:Nat)(x:Int)(u:Tok)(d:Option Addr)(sl:Array (Option Value))(c1:(decide (x < -(2 ^ 63))||decide (x ≥ 2 ^ 63))=false)(c2:(items.isEmpty||x == 1)=false)(c3:(decide (x<=0)||items.isEmpty)=true):
  Meets (Builtin.«tuple.__mul__» ⟨[.ref l,.int x u],[]⟩) (λ_ R s=>s.heap.get? l=some {cls:=.type "tuple",dict:=d,data:=.seq items n,slots:=sl}/\R (.ok (.ret (.ref s.heap.objs.size))) {s with heap:=s.heap.push {cls:=Value.type "tuple",data:=Data.seq #[]},toks:=s.toks}) :=
 .of_wp λprog w A R s h=>by
  obtain⟨hp,g,dd,tk,os⟩:=s;obtain⟨hl,h⟩:=h
  wp_walk;refine acn (aa9 (by rw[c1];decide)) ?_;wp_walk;exact⟨_,rfl,h⟩
theorem yS(l:Addr)(items:Array Value)(n:Nat)(x:Int)(u:Tok)(d:Option Addr)(sl:Array (Option Value))(c1:(decide (x < -(2 ^ 63))||decide (x ≥ 2 ^ 63))=false)(c2:(items.isEmpty||x == 1)=false)(c3:(decide (x<=0)||items.isEmpty)=false)(c4:¬ (items.size:Int) * x > (2 ^ 63 - 1) / 8)(c5:Builtin.Tuple.tupleTooMany ((items.size:Int) * x)=false)
  (hs:(List.foldl (λx1 x2=>x1++x2) #[] (List.replicate x.toNat items)).size<=sizeLine) :
  Meets (Builtin.«tuple.__mul__» ⟨[.ref l,.int x u],[]⟩) (λ_ R s=>s.heap.get? l=some {cls:=.type "tuple",dict:=d,data:=.seq items n,slots:=sl}/\R (.ok (.ret (.ref s.heap.objs.size))) {s with heap:=s.heap.push {cls:=Value.type "tuple",data:=Data.seq (List.foldl (λx1 x2=>x1++x2) #[] (List.replicate x.toNat items))},toks:=s.toks}) :=
 .of_wp λprog w A R s h=>by
  obtain⟨hp,g,dd,tk,os⟩:=s;obtain⟨hl,h⟩:=h
  wp_walk;refine acn (aa9 (by rw[c1];decide)) ?_;wp_walk;refine acn (aa9 c4) ?_;wp_walk;exact⟨_,rfl,h⟩
section
variable {X:Cx}
def Qp(K:ay):R2:=λx y H Q=>∃a xs k,x=.ref a/\y=.int k/\a8 K H a xs/\xs≠[]/\-9223372036854775808<=k/\k < 9223372036854775808/\xs.length * k.toNat<=sizeLine/\∀p H',aA H H'->a8 K H' p (List.replicate k.toNat xs).flatten->Q (.ref p) H'
theorem NK:iE X (binaryOp .Mult) (Qp X.K):=by
 intro pins s σ H x y v u Q I rx ry h;obtain⟨a,xs,k,rfl,rfl,ha,hx,h1,h2,hz,q⟩:=h;cases rx;obtain⟨t,rfl⟩:=ry;obtain⟨its,r1,p1,hsz⟩:=I.tuple ha;obtain⟨⟨c1,d1,e1,Iw⟩,ho,hc,n,hd⟩:=id p1;simp only at hc hd;subst hc hd;have hlen:its.toArray.size=xs.length:=by rw[List.size_toArray];exact r1.length.symm
 have b1:(decide (k < -(2 ^ 63))||decide (k ≥ 2 ^ 63))=false:=by simp;omega
 have go:wpAny (model X.prog X.w) X.A (call (.builtin "tuple.__mul__") [.ref a,.int k t]) (EP X pins σ Q) X.xe s:=by
  by_cases TV:k=1
  ·refine ab2 F.slot_tuple_mul ⟨_,ho,rfl⟩ F.entry_tuple_mul (F.args_tuple_mul_2 _ _) (Ao a its.toArray n k t d1 Iw TV) ⟨ho,?_⟩;refine⟨.ref a,H,I,rfl,q a H (aA.refl _) ?_⟩;subst TV;show a8 X.K H a (xs++[]);rw[abV];exact ha
  ·have hne:¬ its.toArray.isEmpty=true:=by
    intro z;apply hx;rw[Array.isEmpty_iff_size_eq_zero,hlen]at z;exact acN.mp z
   have b2:(its.toArray.isEmpty||k == 1)=false:=by
    refine acx.mpr ?_;show ¬ _;rw[Bool.or_eq_true];rintro(z | z)
    ·exact hne z
    ·exact TV (by simpa using z)
   by_cases WN:k<=0
   ·refine call_meets F.slot_tuple_mul ⟨_,ho,rfl⟩ F.entry_tuple_mul (F.args_tuple_mul_2 _ _) (yR a its.toArray n k t d1 Iw b1 b2 (by simp[WN])) ⟨ho,?_⟩;refine⟨.ref s.heap.objs.size,_,I.laid (t':=s.toks) (o:=.tup []) (λb ob q=>Heap.get?_push_of_some _ q) (Nat.le_refl _) ⟨by simp,[],.nil,IsTup.new _ _⟩,rfl,q _ _ (oY (I.hok.fresh (Nat.le_refl _)) _) (a8.of ?_)⟩;rw[show k.toNat=0 by omega];exact uS
   ·have b3:(decide (k<=0)||its.toArray.isEmpty)=false:=by
     refine acx.mpr ?_;show ¬ _;rw[Bool.or_eq_true];rintro(z | z)
     ·exact WN (abo z)
     ·exact hne z
    have hprod:(its.toArray.size:Int) * k=((xs.length * k.toNat:Nat):Int):=by
     rw[hlen,Int.natCast_mul,show((k.toNat:Nat):Int)=k by omega]
    have hcap:(sizeLine:Nat)<=(2 ^ 63 - 1) / 8:=by decide
    have hfold:List.foldl (λx1 x2=>x1++x2) #[] (List.replicate k.toNat its.toArray)=(List.replicate k.toNat its).flatten.toArray:=by
     have:=foldl_rep its k.toNat [];rw[acQ]at this;exact this
    have hfl:(List.replicate k.toNat its).flatten.length=k.toNat * its.length:=len_rep its k.toNat;have hitl:its.length=xs.length:=by rw[← hlen,abe]
    refine call_meets F.slot_tuple_mul ⟨_,ho,rfl⟩ F.entry_tuple_mul (F.args_tuple_mul_2 _ _) (yS a its.toArray n k t d1 Iw b1 b2 b3 (by rw[hprod];clear hprod;generalize xs.length * k.toNat=N at hz;omega) (by unfold Builtin.Tuple.tupleTooMany;rw[hprod];clear hprod;generalize xs.length * k.toNat=N at hz;exact decide_eq_false (by omega)) (by rw[hfold,List.size_toArray,hfl,hitl,Nat.mul_comm];exact hz)) ⟨ho,?_⟩;rw[hfold];refine⟨.ref s.heap.objs.size,_,I.laid (t':=s.toks) (o:=.tup (List.replicate k.toNat xs).flatten) (λb ob q=>Heap.get?_push_of_some _ q) (Nat.le_refl _) ⟨by rw[len_rep,Nat.mul_comm];exact hz,_,r1.rep k.toNat,IsTup.new _ _⟩,rfl,q _ _ (oY (I.hok.fresh (Nat.le_refl _)) _) (a8.of uS)⟩
 exact ab4 (T:="tuple") (U:="int") (by decide) ⟨_,ho,rfl⟩ (λs'=>ab8 s' k t) rQ acR abX yP acC.lookup
  (ab2 abX (ab8 s k t) acD (acv _ _) (yQ k t a its.toArray n d1 Iw) ⟨ho,rfl,⟨_,ho,rfl⟩,go⟩)
end
open PySem PySem.Spec PyProof.Rows PySem.W PySem.Builtin PySem.Builtin.ObjectAttr
def IL(K:Frag)(C:Addr)(bmB:List Value)(newId:String):Bool:=match K.lookup C with
 | some ⟨.type "type",_,.cls cd,sl⟩=>(match cd.mro,sl.toList with
  | .ref C'::bm,[_,_,_,_,some (.builtin n),_]=>C' == C&&n == newId&&!cd.hasDel&&tailIn K bmB bm&&nsOkIn K cd.ns&&cd.hasDict
  | _,_=>false)
 | _=>false
section
variable {prog:Program} {w:World} {A:Around} {E:Value->Shared->Prop} {K:Frag} {h:Heap} {g:Array GenState} {d:Drawn} {t:Nat} {os:OsState}
variable {nm q:Str} {C N:Addr} {bs bm bmB:List Value} {hdct:Bool} {sn:List Str} {sub:List Value} {ab:Bool} {col:Option Bool} {dd:Option Addr} {k0 k1 k2 k3 k5:Option Value} {B Bn newId nid initId inN:String} {bmN:List Value}
end
section
variable {prog:Program} {w:World} {A:Around} {K:Frag} {s:Shared} {x C:Addr} {R:Result->Shared->Prop}
end
section
variable {prog:Program} {w:World} {A:Around} {E:Value->Shared->Prop} {h:Heap} {g:Array GenState} {d:Drawn} {t:Nat} {os:OsState}
variable {nm q:Str} {C N x:Addr} {bs bm:List Value} {sn:List Str} {sub:List Value} {ab:Bool} {col:Option Bool} {dd:Option Addr} {k0 k1 k2 k3 k5:Option Value} {newId:String} {name:Str} {v:Value}
end
def XP(C e:Addr)(dx:Option Addr):Heap->Prop:=λh=>∃t0,h.get? e=some {cls:=.ref C,dict:=dx,data:=.fields #[.ref t0,.none,.none,.none,.bool false,.none]}
def XD(dx:Addr)(fs:List (Str×V)):Heap->Prop:=λh=>∃mA,h.Ns1 dx mA/\(∀f,uR (fs.lookup f) (mA f))/\Within mA (fs.map (·.1))
structure KXs(K:Frag)(C:Addr):Prop where
 sa:findIn K (.ref C) "__setattr__"=some (some (.builtin "object.__setattr__"))
 ex:IL K C yO "ValueError.__new__"=true
 mo:mroIn K C (.type "object")=some true
section
variable {X:Cx} {C a:Addr} {pins:List (Addr×Obj)} {σ:St} {H:Hp} {s:Shared} {A:Around} {E:Value->Shared->Prop} {f:Str}
end
section
variable {X:Cx} {o e value:Expr} {f:Str} {pos pos' tpos:Pos} {ta tv:TE}
end
section
variable {prog:Program} {w:World} {A:Around} {E:Value->Shared->Prop} {K:Frag} {a C:Addr} {o:Obj} {od:Option Obj} {h:Heap} {g:Array GenState} {d:Drawn} {t:Nat} {os:OsState} {name:Str} {v:Value}
end
structure MkX(K:Frag)(C f:Addr):Prop where
 ex:IL K C yO "ValueError.__new__"=true
 init:findIn K (.ref C) "__init__"=some (some (.ref f))
 fn:isFn K (.ref f)=true
 kp:keepIn K (.ref C)=true
section
variable {X:Cx} {CX:zY} {k:Nat} {f C:Addr} {fd:FuncData} {ps:List Str} {sp:Sp} {dvs:List V} {ds:List Value} {E:XK} {x m:Str} {p pos apos:Pos} {e o:Expr} {es:List Expr} {ta:TE} {t:TA}
def US(K:Frag):List V->Hp->VK->Prop:=λvs H Q=>∃a C c D b φ,vs=[.ref a,c]/\H a=some (.ext φ)/\(∀h,φ h->ExcAt C a h)/\KX K C/\hasDictIn K C=true/\RelV c D/\kitOne K (.ref C) D=some b/\Q (.bl b) H
theorem xS:fB X (.builtin "isinstance") (US X.K):=by
 intro pins s σ H xs us Q I r h;obtain⟨a,C,c,D,b,φ,rfl,hH,hφ,hk,hcl,rc,e,q⟩:=h;obtain⟨u,w',rfl,rx,rw'⟩:=vals2 r;cases rx
 have hD:w'=D:=by
  cases c<;>simp[RelV]at rc rw'<;>first | (rw[rw',rc]) | (obtain⟨t1,e1⟩:=rc;obtain⟨t2,e2⟩:=rw';subst e1;subst e2;exact absurd e (by simp[kitOne,kitCls]))
 subst hD;obtain⟨cd,hcd,_⟩:=any_some hcl;obtain⟨p,_,_⟩:=I.hok a _ hH;exact PySem.W.kia_one (IJ hk hcd) I.uk (hφ _ p) e (λz=>nomatch z) λtk=>⟨.bl b,H,I.tok tk,rfl,q⟩
end
def inner(s:Stmt):Stmt:=match s with
 | .ClassDef _ _ _ b _ _ _ _ _ _ _=>b.headD (.Pass ⟨0,0,0,0⟩)
 | _=>.Pass ⟨0,0,0,0⟩
def Rr(K:Frag)(fs:List Str):Sp:=λvs H Q _=>∃a C ys,vs=.ref a::ys/\ys.length=fs.length/\KXs K C/\(∀f∈fs,cH K C f)/\H a=some (.ext (XP C a none)) /\
 ∀dx,H dx=none->dx≠a->Q .non (upd (upd H dx (.ext (XD dx (fs.zip ys)))) a (.ext (XP C a (some dx))))
structure ac1(P:Program)(w:World)(K:Frag)(mg:Str->Option Value)(base:Heap)(C:Addr)(fs:List Str):Prop where
 s:KXs K C
 no:∀f∈fs,cH K C f
 le:fs.length<=1000
 ini:∃f fd,MkX K C f/\bh P w K mg base aU 1 f fd ("self"::fs) (Rr K fs)/\Binds K fd ("self"::fs) []
section
variable {X:Cx} {C:Addr} {fs:List Str} {x:Str} {p pos:Pos} {e:Expr} {es:List Expr} {t:TA}
end
open PySem PySem.Spec PyProof.Rows PySem.W
def Dk(h h':Heap):Prop:=∀b o,h.get? b=some o->∃o',h'.get? b=some o'/\o'.dict=o.dict
theorem Dk.refl(h:Heap):Dk h h:=λ_ o e=>⟨o,e,rfl⟩
theorem Dk.trans{h1 h2 h3:Heap}(x:Dk h1 h2)(y:Dk h2 h3):Dk h1 h3:=λb o e =>
 let ⟨o1,e1,d1⟩:=x b o e;let ⟨o2,e2,d2⟩:=y b o1 e1;⟨o2,e2,d2.trans d1⟩
def KD{α:Type}(t:Sem α):Prop:=∀(M:Model) (Γ:PySem.Ctx) (Q:α->Pos->Shared->Prop) (E:Value->Pos->Shared->Prop) (p:Pos) (s:Shared),
 Sem.wp M Γ t Q E p s->Sem.wp M Γ t (λa p' s'=>Q a p' s'/\Dk s.heap s'.heap) (λe p' s'=>E e p' s'/\Dk s.heap s'.heap) p s
section
variable {α β:Type}
theorem bD(a:α):KD (pure a:Sem α):=λ_ _ _ _ _ s h=>⟨h,Dk.refl s.heap⟩
theorem du(m:String):KD (Sem.unsupported m:Sem α):=λ_ _ _ _ _ _ h=>False.elim (by simpa using h)
theorem aV{t:Sem α}{f:α->Sem β}(h1:KD t)(h2:∀a,KD (f a)):KD (t >>= f):=by
 intro M Γ Q E p s h;rw[Sem.wp_bind']at h ⊢;refine Sem.wp_mono M Γ t (λa p1 s1 z=>?_) (λ_ _ _ z=>z) p s (h1 M Γ _ _ p s h);exact Sem.wp_mono M Γ (f a) (λ_ _ _ y=>⟨y.1,z.2.trans y.2⟩) (λ_ _ _ y=>⟨y.1,z.2.trans y.2⟩) p1 s1 (h2 a M Γ _ _ p1 s1 z.1)
theorem yT(a:Addr)(part:Option Value):KD (loadPart a part):=λM Γ Q E p s h=>by
 unfold loadPart at h ⊢;rw[Sem.wp_load]at h ⊢;obtain⟨o,e,q⟩:=h;exact⟨o,e,q,Dk.refl _⟩
theorem FW{h:Heap}{a:Addr}{f:Obj->Obj}(hf:∀o:Obj,(f o).dict=o.dict/\(o.isFreed=false->(f o).isFreed=false)):Dk h (h.update a f):=λb o e=>by
 by_cases hb:a=b
 ·subst hb;exact⟨_,Heap.get?_update_self f e ((hf o).2 (Heap.get?_some_iff.mp e).2),(hf o).1⟩
 ·exact⟨o,(ace h f hb).trans e,rfl⟩
theorem xT(a:Addr)(part:Option Value){f:Obj->Obj}(hf:∀o:Obj,(f o).dict=o.dict/\(o.isFreed=false->(f o).isFreed=false)):KD (updatePart a part f):=λM Γ Q E p s h=>by
 unfold updatePart at h ⊢;rw[Sem.wp_update]at h ⊢;exact⟨h.1,h.2,FW hf⟩
theorem Ap(o:Obj):KD (alloc o):=λM Γ Q E p s h=>by
 unfold alloc at h ⊢;rw[Sem.wp_alloc]at h ⊢;exact⟨h,λb ob e=>⟨ob,Heap.get?_push_of_some _ e,rfl⟩⟩
theorem vn:KD stack:=λM Γ Q E p s h=>⟨h,Dk.refl _⟩
end
theorem kY{α:Type}{t:Sem α}(k:KD t){M:Model}{A:Around}{E:Value->Shared->Prop}{Q:α->Shared->Prop}{s:Shared}(h:wpAny M A t Q E s):wpAny M A t (λa s'=>Q a s'/\Dk s.heap s'.heap) E s:=λΓ p hΓ =>
 Sem.wp_mono M Γ t (λ_ _ _ y=>y) (λ_ _ _ y=>y.1) p s (k M Γ _ _ p s (h Γ p hΓ))
theorem qx(v:Value)(i:Nat):KD (field v i):=by
 unfold field fieldsOf;refine aV ?_ λvs=>?_
 ·split
  ·refine aV (yT _ _) λo=>?_
   split
   ·exact bD _
   ·exact du _
  ·exact du _
 ·first
  | (split<;>first | exact bD _ | exact du _)
theorem IM(g:Array Value->Array Value)(o:Obj):(Obj.mapFields g o).dict=o.dict/\(o.isFreed=false->(Obj.mapFields g o).isFreed=false):=by
 obtain⟨c,d,dt,sl⟩:=o;cases dt<;>exact⟨rfl,λz=>z⟩
theorem iH(v:Value)(i:Nat)(x:Value):KD (setField v i x):=by
 unfold setField updateField;split
 ·refine aV (yT _ _) λo=>?_
  split
  ·split
   ·exact xT _ _ (IM _)
   ·exact du _
  ·exact du _
 ·exact du _
theorem jF(e:Value)(f:Option Addr):KD (setFlight e f):=by
 unfold setFlight;refine aV (qx _ _) λtb=>?_
 split
 ·exact iH _ _ _
 ·exact bD _
theorem FX(env:Env)(outer:List Env):KD (behindIsImport env outer):=by
 unfold behindIsImport;split
 ·exact bD _
 ·split
  ·exact bD _
  ·exact aV (qx _ _) λ_=>bD _
theorem IP:KD underTheClaimsCaller:=by
 unfold underTheClaimsCaller;exact aV vn λ_=>bD _
theorem NL(env:Env)(b:Bool)(l:List Env):KD (keptBack env b l):=by
 unfold keptBack;split
 ·split
  ·exact bD _
  ·exact aV IP λ_=>bD _
 ·exact bD _
theorem Aq:∀l:List Env,KD (readyFrames l)
 | []=>bD _
 | env::outer=>by
  unfold readyFrames;split
  ·refine aV (yT _ _) λo=>?_
   split
   ·exact bD _
   ·refine aV (FX _ _) λb=>aV (NL _ _ _) λv=>aV (xT _ _ λo=>⟨rfl,λz=>by obtain⟨c,d,dt,sl⟩:=o;cases dt<;>exact z⟩) λ_=>Aq outer
  ·exact du _
theorem vo(l:List Env):KD (frameObject l):=by
 unfold frameObject;split
 ·exact bD _
 ·exact aV (Aq _) λ_=>bD _
theorem yU:KD frameEnvs:=by
 unfold frameEnvs;exact aV vn λ_=>bD _
theorem vp(env:Env):KD (PySem.frameOf env):=by
 unfold PySem.frameOf;refine aV yU λl=>aV (vo _) λr=>?_
 split
 ·exact bD _
 ·exact du _
theorem Ar(f:Addr)(b:Bool):KD (entryPlaceOf f b):=by
 unfold entryPlaceOf;refine aV vn λl=>?_
 split
 ·exact bD _
 ·exact bD _
theorem sU(a b c d e:Value)(pl:List Value):KD (EntryCells.newEntry a b c d e pl):=by
 unfold EntryCells.newEntry newFields newObj newObjAsIs;generalize ([a,b,c,d,e]++if pl.isEmpty=true then List.replicate 6 Value.none else pl).toArray=ws;dsimp only;split
 ·exact aV (du _) λ_=>aV (Ap _) λ_=>bD _
 ·exact aV (Ap _) λ_=>bD _
theorem EN(e:Value)(env:Env):KD (noteFrame e env):=by
 unfold noteFrame;split
 ·refine aV (qx _ _) λhd=>?_
  dsimp only;split
  ·refine aV (qx _ _) λx=>?_
   split
   ·exact bD _
   ·exact aV (iH _ _ _) λ_=>aV (vp _) λ_=>aV (Ar _ _) λ_=>aV (sU _ _ _ _ _ _) λ_=>iH _ _ _
  ·exact aV (vp _) λ_=>aV (Ar _ _) λ_=>aV (sU _ _ _ _ _ _) λ_=>iH _ _ _
 ·exact du _
theorem vq(env:Env)(e:Value):KD (leaving env e):=aV (EN e env) λ_=>jF e none
def oZ(h:Heap)(a:Addr)(dd:Option Addr):Prop:=∃o,h.get? a=some o/\o.dict=dd
theorem oZ.dk{h h':Heap}{a:Addr}{dd:Option Addr}(d:oZ h a dd)(k:Dk h h'):oZ h' a dd :=
 let ⟨o,e,q⟩:=d;let ⟨o',e',q'⟩:=k a o e;⟨o',e',q'.trans q⟩
def pb(P:Program)(w:World):zY:=λouter H s E e s'=>∃(a C t:Addr) (H':Hp) (B:Heap) (dd:Option Addr),e=.ref a/\s'.os=s.os/\AllBare s'.gens/\FT P w outer H H' s.heap B a (.ref C) (.ref t) s'.heap/\oZ s'.heap a dd/\E (.ref C) dd H'
def del(H:Hp)(a:Addr):Hp:=λb=>if b=a then none else H b
section
variable {P:Program} {w:World} {K:ay} {mg:Str->Option Value} {base:Heap} {N:List Str} {qual:Str} {scope:Scope} {f:Addr} {cd:Value} {A:Around} {outer:List Env} {s₀:Shared} {H₀:Hp} {E:XK}
theorem IQ:Rz (vf (pb P w) P w K mg base N qual scope f cd A outer s₀ H₀ E) E:=by
 intro pins σ H s h' e C vs I hx hE
 let env:=envOfC qual scope s₀.heap.objs.size f cd
 have hf:env.frame=some s₀.heap.objs.size:=rfl;have hst:=I.stack;have hin:∀v∈(env::outer),∀b,v.frame=some b->b∈aT (env::outer):=λv hv b hb=>acq.mpr ⟨v,hv,hb⟩
 have hBs:(hideAll s.heap (aT (env::outer))).StaysIn s.heap:=λb o q=>of_hideAll _ q
 have hFF:s.heap.FunFrames (hideAll s.heap (aT (env::outer))) (env::outer):=funFrames_hide hst hin;obtain⟨tx,hxt,_⟩:=hx.there;show wpAny _ _ (leaving env (.ref e)) _ _ _;have lib:=wpAny_leaves_madeW (M:=model P w) (A:=(vf (pb P w) P w K mg base N qual scope f cd A outer s₀ H₀ E).A) (E:=λ_ _=>False) (s:={s with heap:=h'})
  (Q:=λ_ s'=>∃h2 t,s'={s with heap:=h2}/\Heap.FlyingW (hideAll s.heap (aT (env::outer))) outer e (.ref C) (.ref t) h2/\h'.UpToSlots h2) (I.ok.frames) hf hBs hFF hx λh2 t x1 _ _ x4=>⟨h2,t,rfl,x1,x4⟩
 refine abn (kY (vq env (.ref e)) lib) (λ_ s' z=>?_) λ_ _ z=>z.elim
 obtain⟨⟨h2,t,rfl,x1,x4⟩,dk⟩:=z
 have ni:∀b o,s₀.heap.get? b=some o->b∉aT outer->b∉aT (env::outer):=λb o q nb hb=>by
  rcases (cA hf).mp hb with z | z
  ·exact absurd (aaY q) (by rw[z];exact abC _)
  ·exact nb z
 refine⟨e,C,t,H,_,none,rfl,I.os,I.bare,⟨λb o q n nb=>?_,λb o q nb=>?_,λb o q hb=>?_,λb o q n=>I.base.free b o q n (by intro z;cases z),I.base.tups,I.base.eT,I.base.tbls,λb u q=>?_,x1⟩,oZ.dk ⟨_,hxt,rfl⟩ dk,hE⟩
 ·exact hideAll_get _ (I.base.keep b o q n nb (by intro z;cases z)) (ni b o q nb)
 ·obtain⟨o',q'⟩:=I.base.there b o q (by intro z;cases z);exact⟨o',hideAll_get _ q' (ni b o q nb)⟩
 ·obtain⟨sl,q'⟩:=I.base.slot b o q (I.ok.frf b hb) hb (by intro z;cases z);obtain⟨_,o',ho',hn⟩:=hst.mem ((cA hf).mpr (.inr hb));rw[q']at ho';have e1:=abc ho';obtain⟨sl',q2⟩:=x4 b _ (hx.keeps b _ q') (by rw[e1];exact hn);exact⟨sl',q2⟩
 ·have nf:∀c v,H c=some v->c∉aT (env::outer):=λc v q hb=>by
   have:=I.yx c hb;rw[this]at q;cases q
  refine(I.hok b u q).wX (λc v hc q'=>hideAll_get _ q' ?_) (λ_ q'=>q') λ_ _ q'=>q'
  rcases hc with z | z
  ·rw[z];exact nf b u q
  ·exact nf c _ z
theorem yV:Passes (pb P w) (vf (pb P w) P w K mg base N qual scope f cd A outer s₀ H₀ E) E:=by
 intro pins σ H s e s' I hc;obtain⟨a,C,t,H',B,dd,rfl,ho,hb,F,hdd,hE⟩:=hc
 let env:=envOfC qual scope s₀.heap.objs.size f cd
 have hf:env.frame=some s₀.heap.objs.size:=rfl;have F':FT P w (env::outer) H H' s.heap B a (.ref C) (.ref t) s'.heap:=F;show wpAny _ _ (leaving env (.ref a)) _ _ _;have lib:=wpAny_leaves_onW (M:=model P w) (A:=(vf (pb P w) P w K mg base N qual scope f cd A outer s₀ H₀ E).A) (E:=λ_ _=>False) (s:=s')
  (Q:=λ_ s2=>∃h2,s2={s' with heap:=h2}/\Heap.FlyingW B outer a (.ref C) (.ref t) h2/\s'.heap.UpToSlots h2) (I.ok.frames) hf F'.fly λh2 x1 x4=>⟨h2,rfl,x1,x4⟩
 refine abn (kY (vq env (.ref a)) lib) (λ_ s2 z=>?_) λ_ _ z=>z.elim
 obtain⟨⟨h2,rfl,x1,x4⟩,dk⟩:=z
 have ni:∀b o,s₀.heap.get? b=some o->b∉aT outer->b∉aT (env::outer):=λb o q nb hb=>by
  rcases (cA hf).mp hb with z | z
  ·exact absurd (aaY q) (by rw[z];exact abC _)
  ·exact nb z
 refine⟨a,C,t,H',B,dd,rfl,ho.trans I.os,hb,⟨λb o q n nb=>?_,λb o q nb=>?_,λb o q hb=>?_,λb o q n=>?_,λb xs q=>F'.tups b xs (I.base.tups b xs q),λb o u q=>F'.eT b o u (I.base.eT b o u q),λb ps q=>?_,F'.hok,x1⟩,hdd.dk dk,hE⟩
 ·exact F'.keep b o (I.base.keep b o q n nb (by intro z;cases z)) (I.base.free b o q n (by intro z;cases z)) (ni b o q nb)
 ·obtain⟨o',q'⟩:=I.base.there b o q (by intro z;cases z);exact F'.there b o' q' (ni b o q nb)
 ·obtain⟨sl,q'⟩:=I.base.slot b o q (I.ok.frf b hb) hb (by intro z;cases z);obtain⟨Q0,q2⟩:=F'.slot b _ q' ((cA hf).mpr (.inr hb));obtain⟨_,o',ho',hn⟩:=F'.fly.2.2.1.mem ((cA hf).mpr (.inr hb));rw[q2]at ho';have e1:=abc ho';obtain⟨sl',q3⟩:=x4 b _ q2 (by rw[e1];exact hn);exact⟨sl',q3⟩
 ·obtain⟨o',q'⟩:=I.base.there b o q (by intro z;cases z);exact F'.free b o' q' (I.base.free b o q n (by intro z;cases z))
 ·obtain⟨m1,e1⟩:=I.base.tbls b ps q;obtain⟨m2,e2⟩:=F'.tbls b _ e1;exact⟨m1++m2,by rw[e2,Array.append_assoc]⟩
theorem eO.WO{x qual:Str}{st:Stmt}{f:Addr}{fd:FuncData}{N ps:List Str}{k:Nat}{sp:Sp}(F:eO K x qual st f fd)(S:aB N ps (dS st))(len:∀vs H Q E,sp vs H Q E->vs.length=ps.length)
  (hbody:∀(cdv:Value) (A:Around) (outer:List Env) (s:Shared) (H:Hp) (vs:List V) (Q:VK) (E:XK),cG k (A.deeper (envOfC qual (dS st) s.heap.objs.size f cdv))->sp vs H Q E ->
   ∃t,sQ (vf (pb P w) P w K mg base N qual (dS st) f cdv A outer s H E) (dB st) t/\t {nx:=λ_ H'=>Q .non H',rt:=Q} (start N vs) H):bh P w K mg base (pb P w) (k + 1) f fd ps sp:=by
 obtain⟨oc,od,kV,doc,pm,an,cdv,ct,osl,rfl,lk,hcd⟩:=F.ex;exact Qi lk hcd S len λA outer s H vs Q E hr hsp=>hbody cdv A outer s H vs Q E hr hsp
end
theorem Rt{X:Cx}{x:Str}{k:Nat}{ps:List Str}{sp:Sp}{e:Expr}{es:List Expr}{t:TA}{p pos:Pos}{E:XK}(h:c9 X.prog X.w X.K X.mg X.base (pb X.prog X.w) x k ps sp)(hx:Passes (pb X.prog X.w) X E)(hr:cG k X.A)(hg:Gl X x)(ha:PA X (e::es) t)(hdb:(x == ("__debug__" : Str))=false:=by decide)
  (he:starEach (e::es) X.env=(false,eval e X.env)::starEach es X.env:=by rfl) (hpl:(backTo pos (starEach es X.env)).any (·.1)=false:=by rfl) :
  PE X (.Call (.Name x p) (e::es) [] pos) (EC sp [] E t):=by
 obtain⟨f,fd,F,b,kp,m⟩:=h.ex;exact ED F hr hg m kp b .nil hx ha hdb he hpl
section
variable {M:Model} {A:Around} {E:Value->Shared->Prop} {env:Env} {nm qn:Str} {C Nc:Addr} {bs bm:List Value} {hdct:Bool} {sn:List Str} {sub:List Value} {ab:Bool} {col:Option Bool} {dd:Option Addr} {k0 k1 k2 k3 k5:Option Value} {newId:String}
end
section
variable {X:Cx} {C:Addr} {fs:List Str} {x:Str} {np cpos pos:Pos} {e:Expr} {es:List Expr} {t:TA} {E:XK}
end
def Ru(C a:Addr)(dd:Option Addr):Heap->Prop:=λh=>∃o vs,h.get? a=some o/\o.cls=.ref C/\o.data=.fields vs/\o.dict=dd
theorem EO{C a:Addr}{dd:Option Addr}(h:Heap)(p:Ru C a dd h):ExcAt C a h:=let ⟨o,vs,q1,q2,q3,_⟩:=p;⟨o,vs,q1,q2,q3⟩
def As(K:ay)(CW:Addr)(i:Nat)(tb:TS)(D:Ends)(σ:St):XK:=λcls dd H2=>∃C,cls=.ref C/\PySem.W.mroIn K C (.ref CW)=some true /\
 ∀a,H2 a=none->tb {nx:=λσ' H'=>D.nx (σ'.set i none) H',rt:=D.rt,bk:=λσ' H'=>D.bk (σ'.set i none) H',ct:=λσ' H'=>D.ct (σ'.set i none) H'} (σ.set i (some (.ref a))) (upd H2 a (.ext (Ru C a dd)))
section
variable {X:Cx} {CW:Addr} {cx n:Str} {i:Nat} {b₀:Stmt} {suite:List Stmt} {np hpos pos:Pos} {tb:TS}
theorem ER{pins:List (Addr×Obj)}{σ:St}{H:Hp}{s s1:Shared}{D:Ends}{e:Value}(hst:X.stack=X.env::X.outer)(hf:X.env.frame=some X.env.locals)(hg:Gl X cx)(hm:X.mg cx=some (.ref CW))(q:PySem.W.ktsIn X.K CW "BaseException"=true)
  (hN:X.N.Nodup) (hi:X.N[i]?=some n) (hk:X.env.kindOf n=some .local) (hs:∀a E,sQ (X.hand a E) (b₀::suite) tb) (hd:(cx == ("__debug__" : Str))=false) (hex:X.ex=[])
  (I:Inv X pins σ H s) (hc:pb X.prog X.w X.stack H s (As X.K CW i tb D σ) e s1) :
  wpAny (model X.prog X.w) X.A (noteFrame e X.env) (λ_ s₂=>wpAny (model X.prog X.w) X.A (setFlight e none) (λ_ s₃ =>
   wpAny (model X.prog X.w) X.A (handleBy e X.env [.ExceptHandler (some (.Name cx np)) (some n) (b₀::suite) hpos]) (SP X pins D) X.xe s₃) X.xe s₂) X.xe s1:=by
 obtain⟨a,C,t,H',B,dd,rfl,ho,hb,F,hdd,C',hC',hsub,hE⟩:=hc;cases hC';have hfr:X.A.frames=some (X.env::X.outer):=by rw[← hst];exact I.ok.frames
 have F0:FT X.prog X.w (X.env::X.outer) H H' s.heap B a (.ref C) (.ref t) s1.heap:=by rw[← hst];exact F
 have lib1:=wpAny_looks_onW (M:=model X.prog X.w) (A:=X.A) (E:=X.xe) (s:=s1) (Q:=λ_ s'=>∃h4,s'={s1 with heap:=h4}/\Heap.HeldW B (X.env::X.outer) a (.ref C) (.ref t) X.env.locals h4/\s1.heap.UpToSlots h4) hfr hf F0.fly λh4 Au Rv=>⟨h4,rfl,Au,Rv⟩
 refine abn (kY (EN (.ref a) X.env) lib1) (λ_ s4 z4=>?_) λ_ _ z=>z
 obtain⟨⟨h4,rfl,Au,Rv⟩,dk4⟩:=z4;have lib2:=wpAny_landsW (M:=model X.prog X.w) (A:=X.A) (E:=X.xe) (s:={s1 with heap:=h4}) (Q:=λ_ s'=>∃h5,s'={s1 with heap:=h5}/\Heap.FlyingW B (X.env::X.outer) a (.ref C) (.ref t) h5/\h4.UpToSlots h5) Au λh5 NM Rx=>⟨h5,rfl,NM,Rx⟩
 refine abn (kY (jF (.ref a) none) lib2) (λ_ s5 z5=>?_) λ_ _ z=>z
 obtain⟨⟨h5,rfl,NM,Rx⟩,dk5⟩:=z5;have hd5:oZ h5 a dd:=(hdd.dk dk4).dk dk5
 have inv:∀(h:Heap) (tk:Nat),Heap.FlyingW B (X.env::X.outer) a (.ref C) (.ref t) h->s1.heap.UpToSlots h->Inv X pins σ H' {s1 with heap:=h,toks:=tk}:=λh tk fl sm=>by
  have Fh:=F0.on fl sm;refine I.HL (ch:=[]) ho (by rw[hst];exact Fh.un) Fh.UR hb (λb z=>nomatch z)
 have I5:=inv h5 s1.toks NM (Rv.trans Rx);obtain⟨oe,vs,g1,g2,g3,g4⟩:=NM.first;refine wpAny_handleBy_cons (codeAny_handlers_test ?_) (by intro q;cases q);refine iF (X:=X.hand a λ_ _=>False) (I5.hand a _) hg hm ?_ hd;refine excMatches_K I5.uk g1 g2 q hsub (codeAny_handlers_suite_as ?_);have XY:∀A3:Around,wpAny (model X.prog X.w) A3 (setFlight (.ref a) none) (λ_ s'=>∃h6,s'={s1 with heap:=h6}/\Heap.FlyingW B (X.env::X.outer) a (.ref C) (.ref t) h6/\h5.UpToSlots h6) (λ_ _=>False) {s1 with heap:=h5}:=λA3=>lands_againW (s:={s1 with heap:=h5}) NM λh6 Qq UT=>⟨h6,rfl,Qq,UT⟩
 refine abn (kY (jF (.ref a) none) (XY _)) (λ_ s6 z6=>?_) λ_ _ z=>z.elim
 obtain⟨⟨h6,rfl,Qq,UT⟩,dk6⟩:=z6;obtain⟨od6,gd6,qd6⟩:oZ h6 a dd:=hd5.dk dk6;have I6:=inv h6 s1.toks Qq ((Rv.trans Rx).trans UT);obtain⟨oe,vs,g1,g2,g3,g4⟩:=Qq.first;have nH:H' a=none:=F0.new;have nB:B.get? a=none:=Qq.2.1
 have nf:a∉aT (X.env::X.outer):=λhm=>by
  obtain⟨_,o,ho',hn'⟩:=Qq.2.2.1.mem hm;rw[g1]at ho';cases ho';exact hn' _ g3
 have hL:a≠X.env.locals:=λz=>nf ((cA hf).mpr (.inl z))
 have hfs:a∉X.fs:=λz=>nf ((cA hf).mpr (.inr z))
 have old:∀b o,s.heap.get? b=some o->b≠a:=λb o e z=>by
  subst z;obtain⟨o',e'⟩:=F0.there b o e nf;rw[nB]at e';cases e'
 have h1:X.s₀.heap.get? a=none:=by
  cases e:X.s₀.heap.get? a with
  | none=>rfl
  | some o =>
   obtain⟨o',e'⟩:=I.base.there a o e (by rw[hex];exact λz=>nomatch z);exact absurd rfl (old a o' e')
 have hcc:∀x c,X.env.cells.lookup x=some c->c≠a:=λx c e z=>by
  obtain⟨v,o,ho',hd'⟩:=I6.cell x c e;have Mt:h6.get? c=some o:=ho';rw[z,g1]at Mt;cases Mt;rw[g3]at hd';cases hd'
 have hpp:∀p∈X.pn++pins,p.1≠a:=λp hp z=>by
  have:=(I.pin p hp).1;exact old _ _ this z
 have qd:oe.dict=dd:=by
  have z:h6.get? a=some oe:=g1;rw[gd6]at z;cases z;exact qd6
 have I7:=I6.adopt (φ:=Ru C a dd) nH h1 hL hfs hcc hpp ⟨⟨oe,vs,g1,g2,g3,qd⟩,⟨oe,g1⟩,λu v ⟨o,ws,q1,q2,q3,q4⟩ k=>⟨o,ws,k o q1,q2,q3,q4⟩⟩;refine rM I7 hN hi (.inl hk) (v:=.ref a) rfl (λs8 I8 _=>?_) (.inr hk);refine abn (hs a _ pins s8 _ _ _ (I8.hand a _) (hE a nH)) (λfl s9 h9=>?_) (λ_ _ z=>z)
 cases fl with
 | next =>
  obtain⟨σ',H9,I9,q9⟩:=h9;exact EM (I9.kW I.ok) hN hi hk λs' I'=>⟨_,H9,I',q9⟩
 | brk =>
  obtain⟨σ',H9,I9,q9⟩:=h9;exact EM (I9.kW I.ok) hN hi hk λs' I'=>⟨_,H9,I',q9⟩
 | cont =>
  obtain⟨σ',H9,I9,q9⟩:=h9;exact EM (I9.kW I.ok) hN hi hk λs' I'=>⟨_,H9,I',q9⟩
 | ret u =>
  obtain⟨v,σ',H9,I9,r9,q9⟩:=h9;exact EM (I9.kW I.ok) hN hi hk λs' I'=>⟨v,_,H9,I',r9,q9⟩
end
def UU(K:ay)(CW:Addr)(tb:TS)(D:Ends)(σ:St):XK:=λcls _ H2=>∃C,cls=.ref C/\PySem.W.mroIn K C (.ref CW)=some true/\tb D σ H2
section
variable {X:Cx} {CW:Addr} {cx:Str} {b₀:Stmt} {suite:List Stmt} {np hpos pos:Pos} {tb:TS}
theorem fq{pins:List (Addr×Obj)}{σ:St}{H:Hp}{s s1:Shared}{D:Ends}{e:Value}(hst:X.stack=X.env::X.outer)(hf:X.env.frame=some X.env.locals)(hg:Gl X cx)(hm:X.mg cx=some (.ref CW))(q:PySem.W.ktsIn X.K CW "BaseException"=true)
  (hs:∀a E,sQ (X.hand a E) (b₀::suite) tb) (hd:(cx == ("__debug__" : Str))=false)
  (I:Inv X pins σ H s) (hc:pb X.prog X.w X.stack H s (UU X.K CW tb D σ) e s1) :
  wpAny (model X.prog X.w) X.A (noteFrame e X.env) (λ_ s₂=>wpAny (model X.prog X.w) X.A (setFlight e none) (λ_ s₃ =>
   wpAny (model X.prog X.w) X.A (handleBy e X.env [.ExceptHandler (some (.Name cx np)) none (b₀::suite) hpos]) (SP X pins D) X.xe s₃) X.xe s₂) X.xe s1:=by
 obtain⟨a,C,t,H',B,dd,rfl,ho,hb,F,hdd,C',hC',hsub,hE⟩:=hc;cases hC';have hfr:X.A.frames=some (X.env::X.outer):=by rw[← hst];exact I.ok.frames
 have F0:FT X.prog X.w (X.env::X.outer) H H' s.heap B a (.ref C) (.ref t) s1.heap:=by rw[← hst];exact F
 refine wpAny_looks_onW hfr hf F0.fly λh4 Au Rv=>wpAny_landsW Au λh5 NM Rx=>?_
 have inv:∀(h:Heap) (tk:Nat),Heap.FlyingW B (X.env::X.outer) a (.ref C) (.ref t) h->s1.heap.UpToSlots h->Inv X pins σ H' {s1 with heap:=h,toks:=tk}:=λh tk fl sm=>by
  have Fh:=F0.on fl sm;refine I.HL (ch:=[]) ho (by rw[hst];exact Fh.un) Fh.UR hb (λb z=>nomatch z)
 have I5:=inv h5 s1.toks NM (Rv.trans Rx);obtain⟨oe,vs,g1,g2,g3,g4⟩:=NM.first;refine wpAny_handleBy_cons (codeAny_handlers_test ?_) (by intro q;cases q);refine iF (X:=X.hand a λ_ _=>False) (I5.hand a _) hg hm ?_ hd;refine excMatches_K I5.uk g1 g2 q hsub (codeAny_handlers_suite ?_);refine lands_againW NM λh6 Qq UT=>?_
 have I6:=inv h6 s1.toks Qq ((Rv.trans Rx).trans UT);refine abn (hs a _ pins _ _ _ _ (I6.hand a _) hE) (λfl s9 h9=>?_) (λ_ _ z=>z)
 cases fl with
 | next =>
  obtain⟨σ',H9,I9,q9⟩:=h9;exact⟨σ',H9,I9.kW I.ok,q9⟩
 | brk =>
  obtain⟨σ',H9,I9,q9⟩:=h9;exact⟨σ',H9,I9.kW I.ok,q9⟩
 | cont =>
  obtain⟨σ',H9,I9,q9⟩:=h9;exact⟨σ',H9,I9.kW I.ok,q9⟩
 | ret u =>
  obtain⟨v,σ',H9,I9,r9,q9⟩:=h9;exact⟨v,σ',H9,I9.kW I.ok,r9,q9⟩
end
section
variable {κ:Type} [DecidableEq κ]
end
section
variable {P:Program} {w:World} {H:Hp} {h:Heap} {a:Addr}
end
section
variable {X:Cx} {pins:List (Addr×Obj)} {σ:St} {H:Hp} {s:Shared} {a:Addr} {y v:V} {u r:Value} {o:Option V} {A:Around} {E:Value->Shared->Prop}
end
section
variable {X:Cx} {pins:List (Addr×Obj)} {σ:St} {H:Hp} {s:Shared} {a:Addr} {kvs:List (Key×V)} {k:Key} {u:Value} {A:Around} {E:Value->Shared->Prop}
end
section
variable {X:Cx} {o i e value:Expr} {pos pos' tpos:Pos} {td ty tv:TE}
end
section
variable {X:Cx} {pos:Pos}
end
structure bJ(P:Program)(w:World)(K:ay)(mg:Str->Option Value)(base:Heap)(CX:zY)(C:Addr)(m:Str)(k:Nat)(ps:List Str)(sp:Sp):Prop where
 ex:∃(f:Addr) (fd:FuncData),bh P w K mg base CX k f fd ps sp/\Binds K fd ps []/\Meth K C m f
 cl:FH K C
structure vv(P:Program)(w:World)(K:ay)(mg:Str->Option Value)(base:Heap)(CX:zY)(C:Addr)(x:Str)(k:Nat)(ps:List Str)(sp:Sp):Prop where
 ex:∃(f:Addr) (fd:FuncData),bh P w K mg base CX k f fd ps sp/\Binds K fd ps []/\Mk K C f/\mg x=some (.ref C)
section
variable {X:Cx} {x m:Str} {k:Nat} {ps:List Str} {sp:Sp} {o e:Expr} {es:List Expr} {ta:TE} {t:TA} {p pos apos:Pos} {C:Addr} {CX:zY} {E:XK} {pl:Sem Bool}
theorem jk(he:PE X o ta)(h:bJ X.prog X.w X.K X.mg X.base CX C m k ps sp)(hx:Passes CX X E)(hr:cG k X.A)(ha:PA X (e::es) t)
  (hst:starEach (e::es) X.env=(false,eval e X.env)::starEach es X.env:=by rfl) (hpl:(backTo pos (starEach es X.env)).any (·.1)=false:=by rfl)
  (ht:eval (.Call (.Attribute o m apos) (e::es) [] pos) X.env=(do
   let ov ← eval o X.env
   standAt apos.atName
   let (f,first) ← holding [ov] (getMethod ov m pl)
   callWith pos f first (backTo pos (starEach (e::es) X.env)) (backToKw pos (keywordEach [] X.env))):=by rfl) :
  PE X (.Call (.Attribute o m apos) (e::es) [] pos) (Ac C m sp [] E ta t):=by
 obtain⟨f,fd,F,b,M⟩:=h.ex;exact Ni he h.cl M F hr b .nil hx ha hst hpl ht
theorem yW(he:PE X o ta)(h:bJ X.prog X.w X.K X.mg X.base CX C m k ps sp)(hx:Passes CX X E)(hr:cG k X.A)
  (ht:eval (.Call (.Attribute o m apos) [] [] pos) X.env=(do
   let ov ← eval o X.env
   standAt apos.atName
   let (f,first) ← holding [ov] (getMethod ov m pl)
   callWith pos f first (backTo pos (starEach [] X.env)) (backToKw pos (keywordEach [] X.env))):=by rfl) :
  PE X (.Call (.Attribute o m apos) [] [] pos) (Ac C m sp [] E ta Ng):=by
 obtain⟨f,fd,F,b,M⟩:=h.ex;exact Ie he h.cl M F hr b .nil hx ht
theorem IS(h:vv X.prog X.w X.K X.mg X.base CX C x k ps sp)(hx:Passes CX X E)(hr:cG (k + 1) X.A)(hg:Gl X x)(ha:PA X (e::es) t)(hdb:(x == ("__debug__" : Str))=false:=by decide)
  (he:starEach (e::es) X.env=(false,eval e X.env)::starEach es X.env:=by rfl) (hpl:(backTo pos (starEach es X.env)).any (·.1)=false:=by rfl) :
  PE X (.Call (.Name x p) (e::es) [] pos) (Qh C sp [] E t):=by
 obtain⟨f,fd,F,b,M,m⟩:=h.ex;exact Nj M F hr hg m b .nil hx ha hdb he hpl
end
def xU(P:Addr->Prop)(H HX:Hp):Prop:=∀c o,¬ P c->H c=some o->HX c=some o
open Classical in
noncomputable def cutH (P:Addr->Prop) (H:Hp):Hp:=λc=>if P c then none else H c
theorem aY{P:Addr->Prop}{H:Hp}{c:Addr}{o:HO}:cutH P H c=some o↔¬ P c/\H c=some o:=by
 unfold cutH;by_cases h:P c
 ·rw[aa7 h];exact⟨(λz=>nomatch z),(λz=>absurd h z.1)⟩
 ·rw[aa4 h];exact⟨λz=>⟨h,z⟩,λz=>z.2⟩
theorem d9{P:Addr->Prop}{H:Hp}:aA (cutH P H) H:=λ_ _ e=>(aY.mp e).2
def aS(K:ay)(P:Addr->Prop)(H:Hp)(v:V)(d:PyData):Prop:=aR K (cutH P H) v d
theorem xU.refl{P:Addr->Prop}{H:Hp}:xU P H H:=λ_ _ _ e=>e
theorem xU.of{P:Addr->Prop}{H H':Hp}(s:aA H H'):xU P H H':=λc o _ e=>s c o e
theorem aS.now{K:ay}{P:Addr->Prop}{H:Hp}{v:V}{d:PyData}(h:aS K P H v d):aR K H v d:=aR.same d9 h
theorem nZ{P P':Addr->Prop}{H H':Hp}(s:∀c o,¬ P c->H c=some o->¬ P' c/\H' c=some o):aA (cutH P H) (cutH P' H'):=λc o e=>by
 obtain⟨h1,h2⟩:=aY.mp e;exact aY.mpr (s c o h1 h2)
theorem aS.sub{K:ay}{P P':Addr->Prop}{H:Hp}{v:V}{d:PyData}(h:aS K P H v d)(s:∀c,P' c->P c):aS K P' H v d:=aR.same (nZ λc o n e=>⟨λz=>n (s c z),e⟩) h
theorem aS.same{K:ay}{P:Addr->Prop}{H H':Hp}{v:V}{d:PyData}(h:aS K P H v d)(s:aA H H'):aS K P H' v d:=aR.same (nZ λc o n e=>⟨n,s c o e⟩) h
inductive DV where
 | dat (d:PyData) | ref (k:Nat)
def pd(o:HO):Prop:=(∃xs,o=.lst xs)∨(∃C dx fs,o=.ins C dx fs)∨∃φ,o=.ext φ
structure Ob where
 lies:ay->(Addr->Prop)->Hp->List Addr->Prop
 keep:∀K P H fp P' H',lies K P H fp->(∀c,P c->∃o,H c=some o/\pd o)->(∀a∈fp,∀o,H a=some o->H' a=some o)->aA (cutH P H) (cutH P' H')->lies K P' H' fp
 mu:∀K P H fp,lies K P H fp->∀a∈fp,∃o,H a=some o/\pd o
inductive Ce where
 | live (ds:List PyData) | froz (ds:List PyData) | deep (xs:List DV) | obj (o:Ob)
@[reducible] def Ce.lv:Ce->Bool
 | .froz _=>false
 | _=>true
abbrev cc:=List (Option DV)
abbrev aO:=List Ce
def Lv(al:List (List Addr))(st:aO):Addr->Prop:=λc=>∃(k:Nat) (fp:List Addr) (ce:Ce),al[k]?=some fp/\c∈fp/\st[k]?=some ce/\ce.lv=true
def Fb(G:Addr->Prop)(al:List (List Addr))(st:aO):Addr->Prop:=λc=>G c∨Lv al st c
def oE(K:ay)(P:Addr->Prop)(H:Hp)(al:List (List Addr))(v:V):DV->Prop
 | .dat d=>aS K P H v d
 | .ref k=>∃a r,al[k]?=some (a::r)/\v=.ref a
def dC{α:Type}(R:V->α->Prop)(ys:List V)(xs:List α):Prop:=ys.length=xs.length/\∀(i:Nat) y x,ys[i]?=some y->xs[i]?=some x->R y x
def Qr(K:ay)(P:Addr->Prop)(H:Hp)(al:List (List Addr))(fp:List Addr):Ce->Prop
 | .live xs=>∃a ys,fp=[a]/\H a=some (.lst ys)/\dC (aS K P H) ys xs
 | .froz ds=>∃a,fp=[a]/\aS K P H (.ref a) (.list ds)
 | .deep xs=>∃a ys,fp=[a]/\H a=some (.lst ys)/\dC (oE K P H al) ys xs
 | .obj o=>fp≠[]/\o.lies K P H fp
structure YK where
 Y:Hp->(Addr->Prop)->(Addr->Prop)->Prop
 up:∀H0 A0 G G',(∀c,G c->G' c)->Y H0 A0 G->Y H0 A0 G'
def y0:YK:=⟨λ_ _ _=>True,λ_ _ _ _ _ h=>h⟩
structure KF where
 K:ay
 y:YK
instance:CoeOut KF ay:=⟨KF.K⟩
@[reducible] def k0(K:ay):KF:=⟨K,y0⟩
@[reducible] def kf(X:Cx)(Y:YK):KF:=⟨X.K,Y⟩
structure DI(J:KF)(H0:Hp)(A0:Addr->Prop)(G:Addr->Prop)(al:List (List Addr))(H:Hp)(st:aO):Prop where
 len:al.length=st.length
 nd:al.flatten.Nodup
 ok:∀a∈al.flatten,∃o,H a=some o
 cel:∀(k:Nat) fp c,al[k]?=some fp->st[k]?=some c->Qr J (Fb G al st) H al fp c
 fr:xU A0 H0 H
 nw:∀a∈al.flatten,A0 a∨H0 a=none
 gd:∀a∈al.flatten,¬ G a
 gs:∀c,G c->∃o,H c=some o/\pd o
 lk:J.y.Y H0 A0 G
def ph(K:ay)(P:Addr->Prop)(H:Hp)(al:List (List Addr))(s:St)(env:cc):Prop:=s.length=env.length/\∀(i:Nat) dv,env[i]?=some (some dv)->∃v,s[i]?=some (some v)/\oE K P H al v dv
structure Ext(al:List (List Addr))(H:Hp)(st:aO)(al':List (List Addr))(H':Hp)(st':aO):Prop where
 keep:xU (Lv al st) H H'
 pre:∀(k:Nat) a r,al[k]?=some (a::r)->∃r',al'[k]?=some (a::r')
 nws:∀c∈al'.flatten,c∈al.flatten∨H c=none
 lv:∀c,Lv al' st' c->Lv al st c∨H c=none
theorem Ext.refl{al:List (List Addr)}{H:Hp}{st:aO}:Ext al H st al H st:=⟨.refl,λ_ _ r h=>⟨r,h⟩,λ_ h=>.inl h,λ_ h=>.inl h⟩
theorem Ext.free{al al':List (List Addr)}{H H':Hp}{st st':aO}(e:Ext al H st al' H' st'){c:Addr}(h:H' c=none)(hl:¬ Lv al st c):H c=none:=by
 cases q:H c with
 | none=>rfl
 | some o=>rw[e.keep c o hl q]at h;cases h
theorem vw{al:List (List Addr)}{k:Nat}{fp:List Addr}{a:Addr}(h:al[k]?=some fp)(ha:a∈fp):a∈al.flatten:=List.mem_flatten.mpr ⟨fp,abd h,ha⟩
theorem Lv.mem{al:List (List Addr)}{st:aO}{c:Addr}(h:Lv al st c):c∈al.flatten:=by
 obtain⟨k,fp,ce,h1,h2,_⟩:=h;exact vw h1 h2
theorem Av:∀{al:List (List Addr)},al.flatten.Nodup->∀{i j:Nat} {f g:List Addr} {a:Addr},al[i]?=some f->al[j]?=some g->a∈f->a∈g->i=j
 | [],_,i,j,f,g,a,h1,_,_,_=>by simp at h1
 | x::r,nd,i,j,f,g,a,h1,h2,m1,m2=>by
  rw[abz,acb]at nd
  cases i with
  | zero =>
   cases j with
   | zero=>rfl
   | succ j =>
    simp at h1 h2;subst h1;exact absurd rfl (nd.2.2 a m1 a (vw h2 m2))
  | succ i =>
   cases j with
   | zero =>
    simp at h1 h2;subst h2;exact absurd rfl (nd.2.2 a m2 a (vw h1 m1))
   | succ j =>
    simp at h1 h2;exact congrArg (· + 1) (Av nd.2.1 h1 h2 m1 m2)
section
variable {K:ay} {J:KF} {H0:Hp} {A0:Addr->Prop} {G:Addr->Prop} {al bF gB:List (List Addr)} {H H1 H2:Hp} {st aH cZ:aO}
theorem Ext.trans(I1:DI J H0 A0 G bF H1 aH)(a:Ext al H st bF H1 aH)(b:Ext bF H1 aH gB H2 cZ):Ext al H st gB H2 cZ:=by
 refine⟨λc o n e=>b.keep c o (λz=>?_) (a.keep c o n e),λk x r h=>?_,λc hc=>?_,λc hc=>?_⟩
 ·rcases a.lv c z with y | y
  ·exact n y
  ·rw[y]at e;cases e
 ·obtain⟨r1,h1⟩:=a.pre k x r h;exact b.pre k x r1 h1
 ·rcases b.nws c hc with z | z
  ·exact a.nws c z
  ·by_cases w:Lv al st c
   ·exact .inl w.mem
   ·exact .inr (a.free z w)
 ·rcases b.lv c hc with z | z
  ·exact a.lv c z
  ·by_cases w:Lv al st c
   ·exact .inl w
   ·exact .inr (a.free z w)
theorem n5{G1:Addr->Prop}(g:∀c,G1 c->G c∨H c=none)(e:Ext al H st bF H1 aH):aA (cutH (Fb G al st) H) (cutH (Fb G1 bF aH) H1):=nZ λc o n q=>by
 refine⟨λz=>?_,e.keep c o (λw=>n (.inr w)) q⟩;rcases z with z | z
 ·rcases g c z with w | w
  ·exact n (.inl w)
  ·rw[w]at q;cases q
 ·rcases e.lv c z with w | w
  ·exact n (.inr w)
  ·rw[w]at q;cases q
theorem aS.ox{G1:Addr->Prop}{v:V}{d:PyData}(h:aS K (Fb G al st) H v d)(g:∀c,G1 c->G c∨H c=none)(e:Ext al H st bF H1 aH):aS K (Fb G1 bF aH) H1 v d:=aR.same (n5 g e) h
theorem aS.ext{v:V}{d:PyData}(h:aS K (Fb G al st) H v d)(e:Ext al H st bF H1 aH):aS K (Fb G bF aH) H1 v d:=h.ox (λ_ z=>.inl z) e
theorem oE.d{P:Addr->Prop}{v:V}{d:PyData}(h:aS K P H v d):oE K P H al v (.dat d):=h
theorem oE.ox{G1:Addr->Prop}{v:V}{dv:DV}(h:oE K (Fb G al st) H al v dv)(g:∀c,G1 c->G c∨H c=none)(e:Ext al H st bF H1 aH):oE K (Fb G1 bF aH) H1 bF v dv:=by
 cases dv with
 | dat d=>exact aS.ox h g e
 | ref k =>
  obtain⟨a,r,h1,h2⟩:=h;obtain⟨r',h3⟩:=e.pre k a r h1;exact⟨a,r',h3,h2⟩
theorem oE.ext{v:V}{dv:DV}(h:oE K (Fb G al st) H al v dv)(e:Ext al H st bF H1 aH):oE K (Fb G bF aH) H1 bF v dv:=h.ox (λ_ z=>.inl z) e
theorem dC.imp{α:Type}{R R':V->α->Prop}{ys:List V}{xs:List α}(h:dC R ys xs)(f:∀y x,R y x->R' y x):dC R' ys xs:=⟨h.1,λi y x a b=>f y x (h.2 i y x a b)⟩
theorem dC.nil{α:Type}{R:V->α->Prop}:dC R [] []:=⟨rfl,λi y x h=>by simp at h⟩
theorem dC.cons{α:Type}{R:V->α->Prop}{y:V}{x:α}{ys:List V}{xs:List α}(h:R y x)(r:dC R ys xs):dC R (y::ys) (x::xs):=⟨by simp[r.1],λi a b h1 h2=>by
 cases i with
 | zero=>simp at h1 h2;subst h1;subst h2;exact h
 | succ i=>exact r.2 i a b (by simpa using h1) (by simpa using h2)⟩
theorem dC.append{α:Type}{R:V->α->Prop}{ys zs:List V}{xs us:List α}(h:dC R ys xs)(h':dC R zs us):dC R (ys++zs) (xs++us):=by
 refine⟨by simp[h.1,h'.1],λj z u hz hu=>?_⟩;by_cases hj:j < ys.length
 ·rw[aaX hj]at hz;rw[aaX (by rw[← h.1];exact hj)]at hu;exact h.2 j z u hz hu
 ·rw[aa3 (by omega)]at hz;rw[aa3 (by rw[← h.1];omega),← h.1]at hu;exact h'.2 _ z u hz hu
theorem dC.at{α:Type}{R:V->α->Prop}{ys:List V}{xs:List α}(h:dC R ys xs){i:Nat}{x:α}(hx:xs[i]?=some x):∃y,ys[i]?=some y/\R y x:=by
 have hi:i < ys.length:=by rw[h.1];exact(dD hx).1
 exact⟨ys[i],dN hi,h.2 i _ x (dN hi) hx⟩
theorem dC.map{α β:Type}{R:V->β->Prop}{f:α->β}{ys:List V}{xs:List α}(h:dC (λy x=>R y (f x)) ys xs):dC R ys (xs.map f):=by
 refine⟨by rw[aab];exact h.1,λi y x hy hx=>?_⟩;rw[aa1]at hx
 cases e:xs[i]? with
 | none=>rw[e]at hx;cases hx
 | some u=>rw[e]at hx;cases hx;exact h.2 i y u hy e
theorem ph.ox{G1:Addr->Prop}{s:St}{env:cc}(h:ph K (Fb G al st) H al s env)(g:∀c,G1 c->G c∨H c=none)(e:Ext al H st bF H1 aH):ph K (Fb G1 bF aH) H1 bF s env:=⟨h.1,λi dv hi=>by
 obtain⟨v,h1,h2⟩:=h.2 i dv hi;exact⟨v,h1,h2.ox g e⟩⟩
theorem ph.ext{s:St}{env:cc}(h:ph K (Fb G al st) H al s env)(e:Ext al H st bF H1 aH):ph K (Fb G bF aH) H1 bF s env:=h.ox (λ_ z=>.inl z) e
theorem ph.set{P:Addr->Prop}{s:St}{env:cc}{v:V}{dv:DV}(h:ph K P H al s env)(hv:oE K P H al v dv)(i:Nat):ph K P H al (s.set i (some v)) (env.set i (some dv)):=by
 refine⟨by rw[abF,abF];exact h.1,λj u hu=>?_⟩;rw[acy]at hu;by_cases hj:i=j
 ·subst hj;rw[aa7 rfl]at hu;split at hu
  ·rename_i hl;cases hu;exact⟨v,by rw[abA (by rw[h.1];exact hl)],hv⟩
  ·cases hu
 ·rw[aa4 hj]at hu;obtain⟨w,h1,h2⟩:=h.2 j u hu;exact⟨w,by rw[aby hj];exact h1,h2⟩
theorem aS.dE{P:Addr->Prop}{v:V}{ds:List PyData}(h:aS K P H v (.list ds)):∃(a:Addr) (ys:List V),v=.ref a/\bg K H a ys/\bg K (cutH P H) a ys/\dC (aS K P H) ys ds:=by
 have h:aR K (cutH P H) v (.list ds):=h
 cases h with
 | lst hS hl hi=>exact⟨_,_,rfl,d9.seq hS,hS,hl,hi⟩
theorem aS.cf{P:Addr->Prop}{v:V}{ds:List PyData}(h:aS K P H v (.tuple ds)):∃(a:Addr) (ys:List V),v=.ref a/\a8 K H a ys/\a8 K (cutH P H) a ys/\dC (aS K P H) ys ds:=by
 have h:aR K (cutH P H) v (.tuple ds):=h
 cases h with
 | tup hS hl hi=>exact⟨_,_,rfl,d9.tup hS,hS,hl,hi⟩
theorem aS.aQ{P:Addr->Prop}{v:V}{i:Int}(h:aS K P H v (.int i)):v=.int i:=by
 have h:aR K (cutH P H) v (.int i):=h;cases h;rfl
theorem aS.jG{P:Addr->Prop}{v:V}{i:Str}(h:aS K P H v (.str i)):v=.str i:=by
 have h:aR K (cutH P H) v (.str i):=h;cases h;rfl
theorem aS.xV{P:Addr->Prop}{v:V}{i:Bool}(h:aS K P H v (.bool i)):v=.bl i:=by
 have h:aR K (cutH P H) v (.bool i):=h;cases h;rfl
theorem aS.IT{P:Addr->Prop}{v:V}(h:aS K P H v .none):v=.non:=by
 have h:aR K (cutH P H) v .none:=h;cases h;rfl
theorem aS.lst{P:Addr->Prop}{a:Addr}{ys:List V}{ds:List PyData}(n:¬ P a)(h:H a=some (.lst ys))(r:dC (aS K P H) ys ds):aS K P H (.ref a) (.list ds):=aR.lst (bg.of (aY.mpr ⟨n,h⟩)) r.1 r.2
theorem aS.tup{P:Addr->Prop}{a:Addr}{ys:List V}{ds:List PyData}(n:¬ P a)(h:H a=some (.tup ys))(r:dC (aS K P H) ys ds):aS K P H (.ref a) (.tuple ds):=aR.tup (a8.of (aY.mpr ⟨n,h⟩)) r.1 r.2
theorem Ext.same(s:aA H H1):Ext al H st al H1 st:=⟨.of s,λ_ _ r h=>⟨r,h⟩,λ_ z=>.inl z,λ_ z=>.inl z⟩
theorem Ext.new{a:Addr}{o:HO}(h:H a=none):Ext al H st al (upd H a o) st:=.same λc p e=>by rw[uN (nN e h)];exact e
theorem Qr.ox{G1:Addr->Prop}{fp:List Addr}{c:Ce}(h:Qr K (Fb G al st) H al fp c)(g:∀c,G1 c->G c∨H c=none)(e:Ext al H st bF H1 aH)(hP:∀c,Fb G al st c->∃o,H c=some o/\pd o)(k:c.lv=true->∀a∈fp,∀o,H a=some o->H1 a=some o):Qr K (Fb G1 bF aH) H1 bF fp c:=by
 cases c with
 | live xs =>
  obtain⟨a,ys,h0,h1,h2⟩:=h;exact⟨a,ys,h0,k rfl a (by rw[h0];exact abi.mpr rfl) _ h1,h2.imp λy x z=>aS.ox z g e⟩
 | froz ds =>
  obtain⟨a,h0,h1⟩:=h;exact⟨a,h0,aS.ox h1 g e⟩
 | deep xs =>
  obtain⟨a,ys,h0,h1,h2⟩:=h;exact⟨a,ys,h0,k rfl a (by rw[h0];exact abi.mpr rfl) _ h1,h2.imp λy x z=>oE.ox z g e⟩
 | obj o=>exact⟨h.1,o.keep _ _ _ _ _ _ h.2 hP (k rfl) (n5 g e)⟩
theorem Qr.ext{fp:List Addr}{c:Ce}(h:Qr K (Fb G al st) H al fp c)(e:Ext al H st bF H1 aH)(hP:∀c,Fb G al st c->∃o,H c=some o/\pd o)(k:c.lv=true->∀a∈fp,∀o,H a=some o->H1 a=some o):Qr K (Fb G bF aH) H1 bF fp c:=h.ox (λ_ z=>.inl z) e hP k
theorem DI.w8(I:DI J H0 A0 G al H st){c:Addr}(h:Fb G al st c):∃o,H c=some o/\pd o:=by
 rcases h with h | ⟨k,fp,ce,h1,h2,h3,h4⟩
 ·exact I.gs c h
 ·have z:=I.cel k fp ce h1 h3
  cases ce with
  | live xs=>obtain⟨a,ys,rfl,g,_⟩:=z;rw[cj h2];exact⟨_,g,.inl ⟨_,rfl⟩⟩
  | froz ds=>cases h4
  | deep xs=>obtain⟨a,ys,rfl,g,_⟩:=z;rw[cj h2];exact⟨_,g,.inl ⟨_,rfl⟩⟩
  | obj o=>exact o.mu _ _ _ _ z.2 c h2
theorem DI.same(I:DI J H0 A0 G al H st)(s:aA H H1):DI J H0 A0 G al H1 st:=⟨I.len,I.nd,(λa ha=>by obtain⟨o,e⟩:=I.ok a ha;exact⟨o,s _ _ e⟩),(λk a c h1 h2=>(I.cel k a c h1 h2).ext (.same s) (λc hc=>I.w8 hc) λ_ a _ o e=>s _ _ e),(λc o n e=>s c o (I.fr c o n e)),I.nw,I.gd,(λc hc=>by obtain⟨o,e,m⟩:=I.gs c hc;exact⟨o,s _ _ e,m⟩),I.lk⟩
theorem DI.new(I:DI J H0 A0 G al H st){a:Addr}{o:HO}(h:H a=none):DI J H0 A0 G al (upd H a o) st:=I.same λc p e=>by rw[uN (nN e h)];exact e
theorem DI.Ry(I:DI J H0 A0 G al H st){a:Addr}(h:H a=none):¬ Fb G al st a:=by
 intro z;rcases z with z | z
 ·obtain⟨o,e,_⟩:=I.gs a z;rw[h]at e;cases e
 ·obtain⟨o,e⟩:=I.ok a z.mem;rw[h]at e;cases e
theorem DI.XZ(I':DI J H0 A0 G al H1 st){a:Addr}(h:H a=none)(s:aA H H1)(I:DI J H0 A0 G al H st):¬ Fb G al st a:=I.Ry h
theorem DI.n0(I:DI J H0 A0 G al H st){a:Addr}(h:H a=none):A0 a∨H0 a=none:=by
 cases q:H0 a with
 | none=>exact .inr rfl
 | some o =>
  by_cases w:A0 a
  ·exact .inl w
  ·rw[I.fr a o w q]at h;cases h
theorem DI.freeze(I:DI J H0 A0 G al H st){k:Nat}{fp:List Addr}{ds:List PyData}(ha:al[k]?=some fp)(hs:st[k]?=some (.live ds)):∃a,fp=[a]/\Ext al H st al H (st.set k (.froz ds))/\DI J H0 A0 G al H (st.set k (.froz ds))/\aS J (Fb G al (st.set k (.froz ds))) H (.ref a) (.list ds):=by
 have hk:=(dD hs).1
 have E:Ext al H st al H (st.set k (.froz ds)):=⟨.refl,λ_ _ r h=>⟨r,h⟩,λ_ z=>.inl z,λc ⟨j,f,ce,h1,h2,h3,h4⟩=>by
  by_cases e:k=j
  ·subst e;rw[abA hk]at h3;cases h3;cases h4
  ·rw[aby e]at h3;exact .inl ⟨j,f,ce,h1,h2,h3,h4⟩⟩
 obtain⟨a,ys,rfl,g1,g2⟩:=I.cel k fp _ ha hs
 have na:¬ Fb G al (st.set k (.froz ds)) a:=λz=>by
  rcases z with z | ⟨j,f,ce,h1,h2,h3,h4⟩
  ·exact I.gd a (vw ha (abi.mpr rfl)) z
  ·have:=Av I.nd ha h1 (abi.mpr rfl) h2;subst this;rw[abA hk]at h3;cases h3;cases h4
 have F:aS J (Fb G al (st.set k (.froz ds))) H (.ref a) (.list ds):=.lst na g1 (g2.imp λy x z=>aS.ext z E);refine⟨a,rfl,E,⟨by rw[abF];exact I.len,I.nd,I.ok,λj b c h1 h2=>?_,I.fr,I.nw,I.gd,I.gs,I.lk⟩,F⟩;by_cases e:k=j
 ·subst e;rw[abA hk]at h2;rw[ha]at h1;cases h1;cases h2;exact⟨a,rfl,F⟩
 ·rw[aby e]at h2;exact(I.cel j b c h1 h2).ext E (λc hc=>I.w8 hc) λ_ _ _ o q=>q
theorem DI.more(I:DI J H0 A0 G al H st){fp:List Addr}{c:Ce}(fr:∀a∈fp,H a=none)(nd:fp.Nodup)(s:aA H H1)(ok:∀a∈fp,∃o,H1 a=some o)(hc:Qr J (Fb G (al++[fp]) (st++[c])) H1 (al++[fp]) fp c):Ext al H st (al++[fp]) H1 (st++[c])/\DI J H0 A0 G (al++[fp]) H1 (st++[c]):=by
 have nal:∀a∈fp,a∉al.flatten:=λa ha z=>by obtain⟨o,e⟩:=I.ok a z;rw[fr a ha]at e;cases e
 have mem:∀c∈(al++[fp]).flatten,c∈al.flatten∨c∈fp:=λc hc=>by
  rw[List.flatten_append,acW]at hc;exact abw.mp hc
 have E:Ext al H st (al++[fp]) H1 (st++[c]):=⟨.of s,λk a r h=>⟨r,by rw[aaX (dD h).1];exact h⟩,λc hc=>by
   rcases mem c hc with z | z
   ·exact .inl z
   ·exact .inr (fr c z),λc ⟨j,f,ce,h1,h2,h3,h4⟩=>by
  by_cases e:j < al.length
  ·rw[aaX e]at h1;rw[aaX (by rw[← I.len];exact e)]at h3;exact .inl ⟨j,f,ce,h1,h2,h3,h4⟩
  ·rw[aa3 (by omega)]at h1;have:=abd h1;rw[cj this]at h2;exact .inr (fr c h2)⟩
 refine⟨E,⟨by simp[I.len],?_,λc hc=>?_,λj b c' h1 h2=>?_,λc o n e=>s c o (I.fr c o n e),λc hc=>?_,λc hc=>?_,λc hc=>?_,I.lk⟩⟩
 ·rw[List.flatten_append,acW,acb];exact⟨I.nd,nd,λx hx y hy z=>nal y hy (z ▸ hx)⟩
 ·rcases mem c hc with z | z
  ·obtain⟨o,e⟩:=I.ok c z;exact⟨o,s _ _ e⟩
  ·exact ok c z
 ·by_cases e:j < al.length
  ·rw[aaX e]at h1;rw[aaX (by rw[← I.len];exact e)]at h2;exact(I.cel j b c' h1 h2).ext E (λc hc=>I.w8 hc) λ_ _ _ o q=>s _ _ q
  ·have hj:j=al.length:=by have:=(dD h1).1;simp at this;omega
   subst hj;rw[aa3 (aaZ _),abP]at h1;rw[I.len,aa3 (aaZ _),abP]at h2;cases h1;cases h2;exact hc
 ·rcases mem c hc with z | z
  ·exact I.nw c z
  ·exact I.n0 (fr c z)
 ·rcases mem c hc with z | z
  ·exact I.gd c z
  ·exact λw=>I.Ry (fr c z) (.inl w)
 ·obtain⟨o,e,m⟩:=I.gs c hc;exact⟨o,s _ _ e,m⟩
theorem DI.yX(I:DI J H0 A0 G al H st){p:Addr}{xs:List V}(h:a8 J H p xs):a8 J (cutH (Fb G al st) H) p xs:=by
 have n:∀o,H p=some o->¬ pd o->¬ Fb G al st p:=λo e m z=>by
  obtain⟨o',e',m'⟩:=I.w8 z;rw[e]at e';cases e';exact m m'
 rcases h with(h | ⟨o,h⟩) | h
 ·exact .inl (.inl (aY.mpr ⟨n _ h (λm=>by rcases m with⟨ys,m⟩ | ⟨C,dx,fs,m⟩ | ⟨φ,m⟩<;>cases m),h⟩))
 ·exact .inl (.inr ⟨o,aY.mpr ⟨n _ h (λm=>by rcases m with⟨ys,m⟩ | ⟨C,dx,fs,m⟩ | ⟨φ,m⟩<;>cases m),h⟩⟩)
 ·exact .inr h
end
abbrev DC:=DV->aO->Prop
abbrev DX:=cc->aO->DC->Prop
abbrev uI:=cc->aO->(List DV->aO->Prop)->Prop
abbrev DT:=cc->aO->(Bool->aO->Prop)->Prop
abbrev NN:=DV->DV->aO->DC->Prop
abbrev X0:=List DV->aO->DC->Prop
def Kn(J:KF)(H0:Hp)(A0:Addr->Prop)(G:Addr->Prop)(al:List (List Addr))(H:Hp)(st:aO)(Q:DC)(R:VK):Prop:=∀dv st' al' v H',Ext al H st al' H' st'->DI J H0 A0 G al' H' st'->oE J (Fb G al' st') H' al' v dv->Q dv st'->R v H'
def UW(J:KF)(H0:Hp)(A0:Addr->Prop)(G:Addr->Prop)(al:List (List Addr))(H:Hp)(st:aO)(Q:Bool->aO->Prop)(R:Bool->Hp->Prop):Prop:=∀b st' al' H',Ext al H st al' H' st'->DI J H0 A0 G al' H' st'->Q b st'->R b H'
def KnL(J:KF)(H0:Hp)(A0:Addr->Prop)(G:Addr->Prop)(al:List (List Addr))(H:Hp)(st:aO)(Q:List DV->aO->Prop)(R:List V->Hp->Prop):Prop:=∀dvs st' al' vs H',Ext al H st al' H' st'->DI J H0 A0 G al' H' st'->dC (oE J (Fb G al' st') H' al') vs dvs->Q dvs st'->R vs H'
def AE(J:KF)(t:TE)(e:DX):Prop:=∀(H0:Hp) (A0:Addr->Prop) (G:Addr->Prop) (al:List (List Addr)) (H:Hp) (st:aO) (s:St) (env:cc) (Q:DC) (R:VK),DI J H0 A0 G al H st->ph J (Fb G al st) H al s env->e env st Q->Kn J H0 A0 G al H st Q R->t s H R
def AT(J:KF)(t:TT)(e:DT):Prop:=∀(H0:Hp) (A0:Addr->Prop) (G:Addr->Prop) (al:List (List Addr)) (H:Hp) (st:aO) (s:St) (env:cc) (Q:Bool->aO->Prop) (R:Bool->Hp->Prop),DI J H0 A0 G al H st->ph J (Fb G al st) H al s env->e env st Q->UW J H0 A0 G al H st Q R->t s H R
def AA(J:KF)(t:TA)(n:Nat)(e:uI):Prop:=∀(H0:Hp) (A0:Addr->Prop) (G:Addr->Prop) (al:List (List Addr)) (H:Hp) (st:aO) (s:St) (env:cc) (Q:List DV->aO->Prop) (R:List V->Hp->Prop),DI J H0 A0 G al H st->ph J (Fb G al st) H al s env->e env st Q->KnL J H0 A0 G al H st (λl s=>l.length=n/\Q l s) R->t s H R
def AO(J:KF)(r:R2)(o:NN):Prop:=∀(H0:Hp) (A0:Addr->Prop) (G:Addr->Prop) (al:List (List Addr)) (H:Hp) (st:aO) (x y:V) (dx dy:DV) (Q:DC) (R:VK),DI J H0 A0 G al H st->oE J (Fb G al st) H al x dx->oE J (Fb G al st) H al y dy->o dx dy st Q->Kn J H0 A0 G al H st Q R->r x y H R
def AB(J:KF)(r:List V->Hp->VK->Prop)(o:X0):Prop:=∀(H0:Hp) (A0:Addr->Prop) (G:Addr->Prop) (al:List (List Addr)) (H:Hp) (st:aO) (vs:List V) (ds:List DV) (Q:DC) (R:VK),DI J H0 A0 G al H st->dC (oE J (Fb G al st) H al) vs ds->o ds st Q->Kn J H0 A0 G al H st Q R->r vs H R
structure cv(X:Cx)(Y:YK)(e:Expr)(d:DX):Prop where
 h:∃t,PE X e t/\AE (kf X Y) t d
structure xW(X:Cx)(Y:YK)(e:Expr)(d:DT):Prop where
 h:∃t,PT X e t/\AT (kf X Y) t d
structure FY(X:Cx)(Y:YK)(e:Expr)(d:DT):Prop where
 h:∃t,PW X e t/\AT (kf X Y) t d
structure Aw(X:Cx)(Y:YK)(es:List Expr)(n:Nat)(d:uI):Prop where
 h:∃t,PA X es t/\AA (kf X Y) t n d
section
variable {K:ay} {J:KF} {H0:Hp} {A0:Addr->Prop} {G:Addr->Prop} {al bF gB:List (List Addr)} {H H1 H2:Hp} {st aH cZ:aO} {Q:DC} {R:VK}
theorem Kn.here(k:Kn J H0 A0 G al H st Q R)(I:DI J H0 A0 G al H st){v:V}{dv:DV}(h:oE J (Fb G al st) H al v dv)(q:Q dv st):R v H:=k dv st al v H .refl I h q
theorem Kn.laid(k:Kn J H0 A0 G al H st Q R)(I:DI J H0 A0 G al H st){v:V}{dv:DV}(s:aA H H1)(h:oE J (Fb G al st) H1 al v dv)(q:Q dv st):R v H1:=k dv st al v H1 (.same s) (I.same s) h q
theorem Kn.go(k:Kn J H0 A0 G al H st Q R)(I:DI J H0 A0 G bF H1 aH)(e:Ext al H st bF H1 aH):Kn J H0 A0 G bF H1 aH Q R:=λdv st' al' v H' e' I' h q=>k dv st' al' v H' (e.trans I e') I' h q
theorem UW.go{Q:Bool->aO->Prop}{R:Bool->Hp->Prop}(k:UW J H0 A0 G al H st Q R)(I:DI J H0 A0 G bF H1 aH)(e:Ext al H st bF H1 aH):UW J H0 A0 G bF H1 aH Q R:=λdv st' al' H' e' I' q=>k dv st' al' H' (e.trans I e') I' q
theorem gn{a:Addr}{o:HO}(h:H a=none):aA H (upd H a o):=λc p e=>by rw[uN (nN e h)];exact e
end
@[reducible] def IU(i:Nat)(env:cc)(st:aO)(Q:DC):Prop:=match env[i]? with
 | some (some dv)=>Q dv st
 | _=>False
@[reducible] def eC(d:PyData)(_:cc)(st:aO)(Q:DC):Prop:=Q (.dat d) st
section
variable {X:Cx} {Y:YK} {a b c e:Expr} {es:List Expr} {pos:Pos} {ea eb ec:DX}
theorem RA{J:KF}{i:Nat}:AE J (QS i) (IU i):=λH0 A0 G al H st s env Q R I E h k=>by
 unfold IU at h;split at h
 ·rename_i dv hd;obtain⟨v,h1,h2⟩:=E.2 i dv hd;exact⟨v,h1,k.here I h2 h⟩
 ·exact h.elim
theorem NO{J:KF}{v:V}{d:PyData}(h:∀H,aR J H v d):AE J (tC v) (eC d):=λH0 A0 G al H st s env Q R I E q k=>k.here I (.d (h _)) q
theorem aq(i:Nat){x:Str}(hN:X.N[i]?=some x:=by rfl)(hv:WC X.env.scope x:=by first | exact aaW rfl | exact acY (aaW rfl) | exact acY (acY rfl))(hd:(x == ("__debug__" : Str))=false:=by decide)
  (hcd:(x == ("__classdict__" : Str))=false:=by decide):cv X Y (.Name x pos) (IU i):=⟨_,HM hN hv hd hcd,RA⟩
theorem aJ{i j}:cv X Y (.Constant (.int i) j pos) (eC (.int i)):=⟨_,pI,NO λ_=>.int i⟩
theorem Ax{i j}:cv X Y (.Constant (.bool i) j pos) (eC (.bool i)):=⟨_,z9,NO λ_=>.bl i⟩
theorem eV{j}:cv X Y (.Constant .none j pos) (eC .none):=⟨_,dW,NO λ_=>.non⟩
theorem bK{i j}:cv X Y (.Constant (.str i) j pos) (eC (.str i)):=⟨_,ba,NO λ_=>.str i⟩
@[reducible] def zZ(o:NN)(ea eb:DX)(env:cc)(st:aO)(Q:DC):Prop:=ea env st λx aH=>eb env aH λy cZ=>o x y cZ Q
theorem ES{J:KF}{r:R2}{o:NN}{ta tb:TE}(ho:AO J r o)(ha:AE J ta ea)(hb:AE J tb eb):AE J (Us r ta tb) (zZ o ea eb):=λH0 A0 G al H st s env Q R I E h k=>by
 refine ha H0 A0 G al H st s env _ _ I E h λx aH bF v H1 e1 I1 d1 q1=>?_
 refine hb H0 A0 G bF H1 aH s env _ _ I1 (E.ext e1) q1 λy cZ gB u H2 e2 I2 d2 q2=>?_
 exact ho H0 A0 G gB H2 cZ v u x y Q R I2 (d1.ext e2) d2 q2 (k.go I2 (e1.trans I1 e2))
theorem Ay{op:Operator}{r:R2}{o:NN}(ho:iE X (binaryOp op) r)(ao:AO (kf X Y) r o)(ha:cv X Y a ea)(hb:cv X Y b eb):cv X Y (.BinOp a op b pos) (zZ o ea eb):=by
 obtain⟨ta,p1,a1⟩:=ha.h;obtain⟨tb,p2,a2⟩:=hb.h;exact⟨_,a9 ho p1 p2,ES ao a1 a2⟩
theorem RB{op:CmpOp}{r:R2}{o:NN}(ho:iE X (compareOp op) r)(ao:AO (kf X Y) r o)(ha:cv X Y a ea)(hb:cv X Y b eb)(hm:behindInMarks op b=false):cv X Y (.Compare a [op] [b] pos) (zZ o ea eb):=by
 obtain⟨ta,p1,a1⟩:=ha.h;obtain⟨tb,p2,a2⟩:=hb.h;exact⟨_,nX ho p1 p2 hm,ES ao a1 a2⟩
theorem pj{f:Value->Value->Sem Value}{r r':R2}(h:iE X f r)(h':iE X f r'):iE X f (λx y H Q=>r x y H Q∨r' x y H Q):=λpins s σ H x y v u Q I rx ry q=>by
 rcases q with q | q
 ·exact h pins s σ H x y v u Q I rx ry q
 ·exact h' pins s σ H x y v u Q I rx ry q
@[reducible] def oI(C:Int->Int->Prop)(g:Int->Int->PyData)(x y:DV)(st:aO)(Q:DC):Prop:=match x,y with
 | .dat (.int i),.dat (.int j)=>C i j/\Q (.dat (g i j)) st
 | _,_=>False
@[reducible] def RC(g:Int->Int->PyData)(x y:DV)(st:aO)(Q:DC):Prop:=match x,y with
 | .dat (.int i),.dat (.int j)=>Q (.dat (g i j)) st
 | _,_=>False
theorem UX{J:KF}{C:Int->Int->Prop}{g:Int->Int->V}{d:Int->Int->PyData}(h:∀i j H,aR J H (g i j) (d i j)):AO J (rI C g) (oI C d):=λH0 A0 G al H st x y dx dy Q R I a b q k=>by
 unfold oI at q;split at q
 ·rw[aS.aQ a,aS.aQ b];exact⟨_,_,rfl,rfl,q.1,k.here I (.d (h _ _ _)) q.2⟩
 ·exact q.elim
theorem Az{J:KF}{g:Int->Int->V}{d:Int->Int->PyData}(h:∀i j H,aR J H (g i j) (d i j)):AO J (HV g) (RC d):=λH0 A0 G al H st x y dx dy Q R I a b q k=>by
 unfold RC at q;split at q
 ·rw[aS.aQ a,aS.aQ b];exact⟨_,_,rfl,rfl,k.here I (.d (h _ _ _)) q⟩
 ·exact q.elim
end
@[reducible] def kJ(st:aO):DV->Option (List PyData)
 | .dat (.list ds)=>some ds
 | .ref k=>match st[k]? with
  | some (.live ds)=>some ds
  | some (.froz ds)=>some ds
  | _=>none
 | _=>none
@[reducible] def sV(st:aO):DV->Option PyData
 | .dat d=>some d
 | .ref k=>match st[k]? with
  | some (.live ds)=>some (.list ds)
  | some (.froz ds)=>some (.list ds)
  | _=>none
section
variable {K:ay} {J:KF} {H0:Hp} {A0:Addr->Prop} {G:Addr->Prop} {al bF gB:List (List Addr)} {H H1 H2:Hp} {st aH cZ:aO} {Q:DC} {R:VK}
theorem FZ{k:Nat}{ds:List PyData}(e:kJ st (.ref k)=some ds):st[k]?=some (.live ds)∨st[k]?=some (.froz ds):=by
 have e:(match st[k]? with | some (.live ds)=>some ds | some (.froz ds)=>some ds | _=>none)=some ds:=e
 revert e
 cases st[k]? with
 | none=>intro e;cases e
 | some c=>cases c with
  | live xs=>intro e;cases e;exact .inl rfl
  | froz xs=>intro e;cases e;exact .inr rfl
  | deep xs=>intro e;cases e
  | obj o=>intro e;cases e
theorem Ga{k:Nat}{d:PyData}(e:sV st (.ref k)=some d):∃ds,kJ st (.ref k)=some ds/\d=.list ds:=by
 have e:(match st[k]? with | some (.live ds)=>some (PyData.list ds) | some (.froz ds)=>some (.list ds) | _=>none)=some d:=e;show ∃ds,(match st[k]? with | some (.live ds)=>some ds | some (.froz ds)=>some ds | _=>none)=some ds/\d=.list ds
 revert e
 cases st[k]? with
 | none=>intro e;cases e
 | some c=>cases c with
  | live xs=>intro e;cases e;exact⟨_,rfl,rfl⟩
  | froz xs=>intro e;cases e;exact⟨_,rfl,rfl⟩
  | deep xs=>intro e;cases e
  | obj o=>intro e;cases e
theorem oE.TX(I:DI J H0 A0 G al H st){v:V}{x:DV}{ds:List PyData}(h:oE J (Fb G al st) H al v x)(e:kJ st x=some ds):∃(a:Addr) (ys:List V),v=.ref a/\bg J H a ys/\dC (aS J (Fb G al st) H) ys ds:=by
 cases x with
 | dat d =>
  cases d with
  | list xs=>cases e;obtain⟨a,ys,h1,h2,_,h3⟩:=aS.dE h;exact⟨a,ys,h1,h2,h3⟩
  | _=>cases e
 | ref k =>
  obtain⟨a,r,h1,h2⟩:=h;rcases FZ e with hs | hs
  ·obtain⟨a',ys,e0,g1,g2⟩:=I.cel k _ _ h1 hs;cases e0;exact⟨a,ys,h2,bg.of g1,g2⟩
  ·obtain⟨a',e0,g0⟩:=I.cel k _ _ h1 hs;cases e0;obtain⟨b,ys,g1,g2,_,g3⟩:=aS.dE g0;cases g1;exact⟨a,ys,h2,g2,g3⟩
theorem oE.UY(I:DI J H0 A0 G al H st){v:V}{x:DV}{d:PyData}(h:oE J (Fb G al st) H al v x)(e:sV st x=some d):aR J H v d:=by
 cases x with
 | dat d'=>cases e;exact aS.now h
 | ref k =>
  obtain⟨ds,e1,rfl⟩:=Ga e;obtain⟨a,ys,rfl,h2,h3⟩:=h.TX I e1;exact .lst h2 h3.1 λi x d a b=>(h3.2 i x d a b).now
@[reducible] def rK:DV->aO->(PyData->aO->Prop)->Prop
 | .dat d,st,Q=>Q d st
 | .ref k,st,Q=>match st[k]? with
  | some (.froz ds)=>Q (.list ds) st
  | some (.live ds)=>Q (.list ds) (st.set k (.froz ds))
  | _=>False
@[reducible] def eT:List DV->aO->(List PyData->aO->Prop)->Prop
 | [],st,Q=>Q [] st
 | x::r,st,Q=>rK x st λd aH=>eT r aH λds cZ=>Q (d::ds) cZ
theorem yY(I:DI J H0 A0 G al H st){v:V}{x:DV}{Q:PyData->aO->Prop}(h:oE J (Fb G al st) H al v x)(q:rK x st Q):∃d aH,Ext al H st al H aH/\DI J H0 A0 G al H aH/\aS J (Fb G al aH) H v d/\Q d aH:=by
 cases x with
 | dat d=>exact⟨d,st,.refl,I,h,q⟩
 | ref k =>
  obtain⟨a,r,h1,rfl⟩:=h;unfold rK at q;dsimp only at q;split at q
  ·rename_i ds hs;obtain⟨a',e0,g0⟩:=I.cel k _ _ h1 hs;cases e0;exact⟨_,st,.refl,I,g0,q⟩
  ·rename_i ds hs;obtain⟨a',e0,E,I',F⟩:=I.freeze h1 hs;cases e0;exact⟨_,_,E,I',F,q⟩
  ·exact q.elim
theorem qy:∀{xs:List DV} {st:aO} {vs:List V} {Q:List PyData->aO->Prop},DI J H0 A0 G al H st->dC (oE J (Fb G al st) H al) vs xs->eT xs st Q->∃ds aH,Ext al H st al H aH/\DI J H0 A0 G al H aH/\dC (aS J (Fb G al aH) H) vs ds/\Q ds aH
 | [],st,vs,Q,I,h,q=>by
  have:=h.1
  cases vs with
  | nil=>exact⟨[],st,.refl,I,.nil,q⟩
  | cons v r=>simp at this
 | x::xs,st,vs,Q,I,h,q=>by
  have:=h.1
  cases vs with
  | nil=>simp at this
  | cons v r =>
   obtain⟨d,aH,E1,I1,F1,q1⟩:=yY I (h.2 0 v x rfl rfl) q;have h':dC (oE J (Fb G al aH) H al) r xs:=⟨by simpa using this,λi y z a b=>(h.2 (i + 1) y z (by simpa using a) (by simpa using b)).ext E1⟩;obtain⟨ds,cZ,E2,I2,F2,q2⟩:=qy I1 h' q1;exact⟨d::ds,cZ,E1.trans I1 E2,I2,.cons (F1.ext E2) F2,q2⟩
end
section
variable {X:Cx} {Y:YK} {a b c e:Expr} {es:List Expr} {pos:Pos} {ea eb ec:DX} {K:ay} {J:KF}
@[reducible] def NP(_:cc)(st:aO)(Q:List DV->aO->Prop):Prop:=Q [] st
@[reducible] def ET(ea:DX)(r:uI)(env:cc)(st:aO)(Q:List DV->aO->Prop):Prop:=ea env st λx aH=>r env aH λxs cZ=>Q (x::xs) cZ
theorem RD:AA J Ng 0 NP:=λH0 A0 G al H st s env Q R I E h k=>k [] st al [] H .refl I .nil ⟨rfl,h⟩
theorem NQ{ta:TE}{tr:TA}{n:Nat}{r:uI}(ha:AE J ta ea)(hr:AA J tr n r):AA J (Qg ta tr) (n + 1) (ET ea r):=λH0 A0 G al H st s env Q R I E h k=>by
 refine ha H0 A0 G al H st s env _ _ I E h λx aH bF v H1 e1 I1 d1 q1=>?_
 refine hr H0 A0 G bF H1 aH s env _ _ I1 (E.ext e1) q1 λxs cZ gB vs H2 e2 I2 d2 q2=>?_
 exact k (x::xs) cZ gB (v::vs) H2 (e1.trans I1 e2) I2 (.cons (d1.ext e2) d2) ⟨by simp[q2.1],q2.2⟩
theorem aw:Aw X Y [] 0 NP:=⟨_,pN,RD⟩
theorem ah{n:Nat}{r:uI}(ha:cv X Y e ea)(hr:Aw X Y es n r)(hs:starEach (e::es) X.env=(false,eval e X.env)::starEach es X.env:=by rfl):Aw X Y (e::es) (n + 1) (ET ea r):=by
 obtain⟨ta,p1,a1⟩:=ha.h;obtain⟨tb,p2,a2⟩:=hr.h;exact⟨_,pK p1 p2 hs,NQ a1 a2⟩
@[reducible] def NR(t:uI)(env:cc)(st:aO)(Q:DC):Prop:=t env st λxs aH=>eT xs aH λds cZ=>Q (.dat (.tuple ds)) cZ
@[reducible] def NS(t:uI)(env:cc)(st:aO)(Q:DC):Prop:=t env st λxs aH=>eT xs aH λds cZ=>Q (.dat (.list ds)) cZ
theorem RE{t:TA}{n:Nat}{d:uI}(hn:n<=sizeLine)(h:AA J t n d):AE J (Ux t) (NR d):=λH0 A0 G al H st s env Q R I E q k=>by
 refine h H0 A0 G al H st s env _ _ I E q λxs aH bF vs H1 e1 I1 d1 q1=>?_
 obtain⟨ds,cZ,E2,I2,F2,q2⟩:=qy I1 d1 q1.2;refine⟨by rw[d1.1,q1.1];exact hn,λp hp=>?_⟩;have k2:=k.go I2 (e1.trans I1 E2);exact k2.laid I2 (gn hp) (.d (aS.tup (I2.Ry hp) uS (F2.imp λy x z=>z.same (gn hp)))) q2
theorem RF{t:TA}{n:Nat}{d:uI}(hn:n<=sizeLine)(h:AA J t n d):AE J (Uy t) (NS d):=λH0 A0 G al H st s env Q R I E q k=>by
 refine h H0 A0 G al H st s env _ _ I E q λxs aH bF vs H1 e1 I1 d1 q1=>?_
 obtain⟨ds,cZ,E2,I2,F2,q2⟩:=qy I1 d1 q1.2;refine⟨by rw[d1.1,q1.1];exact hn,λp hp=>?_⟩;have k2:=k.go I2 (e1.trans I1 E2);exact k2.laid I2 (gn hp) (.d (aS.lst (I2.Ry hp) uS (F2.imp λy x z=>z.same (gn hp)))) q2
theorem Kn.list{H0:Hp}{A0:Addr->Prop}{G:Addr->Prop}{al:List (List Addr)}{H:Hp}{st:aO}{Q:DC}{R:VK}(k:Kn J H0 A0 G al H st Q R)(I:DI J H0 A0 G al H st){p:Addr}{ys:List V}{ds:List PyData}(hp:H p=none)(F:dC (aS J (Fb G al st) H) ys ds)(q:Q (.dat (.list ds)) st):R (.ref p) (upd H p (.lst ys)) :=
 k.laid I (gn hp) (.d (aS.lst (I.Ry hp) uS (F.imp λy x z=>z.same (gn hp)))) q
theorem bf{k n:Nat}{d:uI}(h:Aw X Y es n d)(hn:n<=sizeLine:=by decide):cv X Y (.Tuple es k pos) (NR d):=by
 obtain⟨t,p,a⟩:=h.h;exact⟨_,c8 p,RE hn a⟩
theorem da{n:Nat}{d:uI}(h:Aw X Y es n d)(hn:n<=sizeLine:=by decide):cv X Y (.List es pos) (NS d):=by
 obtain⟨t,p,a⟩:=h.h;exact⟨_,cK p,RF hn a⟩
end
theorem pk{n:Nat}(h:n<=1000000):n<=sizeLine:=abj h (by decide)
section
variable {X:Cx} {Y:YK} {a b c e:Expr} {es:List Expr} {pos:Pos} {ea eb ec:DX} {K:ay} {J:KF}
@[reducible] def IV(x y:DV)(st:aO)(Q:DC):Prop:=match x,y with
 | .dat (.int i),.dat (.int j)=>Q (.dat (.int (i + j))) st
 | .dat (.str i),.dat (.str j)=>i.length + j.length<=1000000/\Q (.dat (.str (i++j))) st
 | .dat (.tuple i),.dat (.tuple j)=>i.length + j.length<=1000000/\Q (.dat (.tuple (i++j))) st
 | x,y=>match kJ st x,kJ st y with
  | some i,some j=>i.length + j.length<=1000000/\Q (.dat (.list (i++j))) st
  | _,_=>False
@[reducible] def IW(K:ay):R2:=λx y H Q=>HV (λi j=>.int (i + j)) x y H Q∨((∃i j,x=.str i/\y=.str j/\i.length + j.length<=sizeLine/\Q (.str (i++j)) H)∨(Qo K x y H Q∨Qk K x y H Q))
theorem NT:iE X (binaryOp .Add) (IW X.K):=pj kS (pj CK (pj NI yL))
theorem dC.len{α:Type}{R:V->α->Prop}{ys:List V}{xs:List α}(h:dC R ys xs):ys.length=xs.length:=h.1
theorem RG:AO J (IW J) IV:=λH0 A0 G al H st x y dx dy Q R I h1 h2 q k=>by
 have lists:(match kJ st dx,kJ st dy with
  | some i,some j=>i.length + j.length<=1000000/\Q (.dat (.list (i++j))) st
  | _,_=>False)->IW J x y H R:=λq=>by
  split at q
  ·rename_i i j e1 e2;obtain⟨a,ys,rfl,g1,g2⟩:=h1.TX I e1;obtain⟨b,zs,rfl,g3,g4⟩:=h2.TX I e2;exact .inr (.inr (.inr ⟨a,b,ys,zs,rfl,rfl,g1,g3,by rw[g2.len,g4.len];exact pk q.1,λp hp=>k.list I hp (g2.append g4) q.2⟩))
  ·exact q.elim
 unfold IV at q;split at q
 ·rw[aS.aQ h1,aS.aQ h2];exact .inl ⟨_,_,rfl,rfl,k.here I (.d (.int _)) q⟩
 ·rw[aS.jG h1,aS.jG h2];exact .inr (.inl ⟨_,_,rfl,rfl,pk q.1,k.here I (.d (.str _)) q.2⟩)
 ·obtain⟨a,ys,rfl,g1,_,g2⟩:=aS.cf h1;obtain⟨b,zs,rfl,g3,_,g4⟩:=aS.cf h2;refine .inr (.inr (.inl ⟨a,b,ys,zs,rfl,rfl,g1,g3,by rw[g2.len,g4.len];exact pk q.1,λp H' s hp=>k.laid I s (.d ?_) q.2⟩));have g:=(g2.append g4).imp λy x z=>z.same s
  exact aR.tup ((I.same s).yX hp) g.1 g.2
 ·exact lists q
theorem gK(ha:cv X Y a ea)(hb:cv X Y b eb):cv X Y (.BinOp a .Add b pos) (zZ IV ea eb):=Ay NT RG ha hb
theorem IX(ha:cv X Y a ea)(hb:cv X Y b eb):cv X Y (.BinOp a .Sub b pos) (zZ (RC λi j=>.int (i - j)) ea eb):=Ay gH (Az λ_ _ _=>.int _) ha hb
def Qs(j:Int):Prop:=0 < j/\j < 18446744073709551616
theorem IY:iE X (binaryOp .FloorDiv) (rI (λ_ j=>Qs j) λi j=>.int (i / j)):=TM λi j _ _ _ _ _ hc q=>by
 have h1:(0:Int) < j:=hc.1;have h2:j < 18446744073709551616:=hc.2;exact floordiv_int (by omega) (by rw[acs i (by omega)];exact q) (.inl (IK.ok (i:=i) ⟨by omega,by omega⟩))
theorem n6(ha:cv X Y a ea)(hb:cv X Y b eb):cv X Y (.BinOp a .FloorDiv b pos) (zZ (oI (λ_ j=>Qs j) λi j=>.int (i / j)) ea eb):=Ay IY (UX λ_ _ _=>.int _) ha hb
theorem iQ(ha:cv X Y a ea)(hb:cv X Y b eb):cv X Y (.BinOp a .Mod b pos) (zZ (oI (λ_ j=>0 < j) λi j=>.int (i % j)) ea eb):=Ay fM (UX λ_ _ _=>.int _) ha hb
@[reducible] def RH(ea:DX)(env:cc)(st:aO)(Q:DC):Prop:=ea env st λx aH=>match x with
 | .dat (.int i)=>Q (.dat (.int (-i))) aH
 | _=>False
theorem IZ(ha:cv X Y a ea):cv X Y (.UnaryOp .USub a pos) (RH ea):=by
 obtain⟨ta,p1,a1⟩:=ha.h;refine⟨_,vb oV p1,λH0 A0 G al H st s env Q R I E h k=>a1 H0 A0 G al H st s env _ _ I E h λx aH bF v H1 e1 I1 d1 q1=>?_⟩;split at q1
 ·rw[aS.aQ d1];exact⟨_,rfl,(k.go I1 e1).here I1 (.d (.int _)) q1⟩
 ·exact q1.elim
@[reducible] def yZ(n:Bool->Bool)(x y:DV)(st:aO)(Q:DC):Prop:=match x,y with
 | .dat (.int i),.dat (.int j)=>Q (.dat (.bool (n (decide (i=j))))) st
 | .dat (.str i),.dat (.str j)=>Q (.dat (.bool (n (decide (i=j))))) st
 | x,y=>match sV st x,sV st y with
  | some i,some j=>(PySem.SeqAt.shaped i=true/\PySem.SeqAt.shaped j=true)/\Q (.dat (.bool (n (PyData.eqv i j)))) st
  | _,_=>False
@[reducible] def X1(K:ay):R2:=λx y H Q=>rEq x y H Q∨Ri K x y H Q
@[reducible] def X2(K:ay):R2:=λx y H Q=>rNe x y H Q∨UG K x y H Q
theorem UZ{i j:Int}:decide (V.int i=V.int j)=decide (i=j):=abQ.mpr ⟨V.int.inj,λh=>by rw[h]⟩
theorem U0{i j:Str}:decide (V.str i=V.str j)=decide (i=j):=abQ.mpr ⟨V.str.inj,λh=>by rw[h]⟩
theorem Qt:AO J (X1 J) (yZ id):=λH0 A0 G al H st x y dx dy Q R I h1 h2 q k=>by
 unfold yZ at q;split at q
 ·rw[aS.aQ h1,aS.aQ h2];exact .inl ⟨rfl,k.here I (.d (.bl _)) (by rw[UZ];exact q)⟩
 ·rw[aS.jG h1,aS.jG h2];exact .inl ⟨rfl,k.here I (.d (.bl _)) (by rw[U0];exact q)⟩
 ·split at q
  ·rename_i i j e1 e2;exact .inr ⟨i,j,h1.UY I e1,h2.UY I e2,q.1.1,q.1.2,k.here I (.d (.bl _)) q.2⟩
  ·exact q.elim
theorem U1:AO J (X2 J) (yZ not):=λH0 A0 G al H st x y dx dy Q R I h1 h2 q k=>by
 unfold yZ at q;split at q
 ·rw[aS.aQ h1,aS.aQ h2];exact .inl ⟨rfl,k.here I (.d (.bl _)) (by rw[UZ];exact q)⟩
 ·rw[aS.jG h1,aS.jG h2];exact .inl ⟨rfl,k.here I (.d (.bl _)) (by rw[U0];exact q)⟩
 ·split at q
  ·rename_i i j e1 e2;exact .inr ⟨i,j,h1.UY I e1,h2.UY I e2,q.1.1,q.1.2,k.here I (.d (.bl _)) q.2⟩
  ·exact q.elim
theorem Qu(hu:X.A.units + 64 < cLine)(ha:cv X Y a ea)(hb:cv X Y b eb):cv X Y (.Compare a [.Eq] [b] pos) (zZ (yZ id) ea eb):=RB (pj cm (CY hu)) Qt ha hb (aP _)
@[reducible] def EU:DV->Bool
 | .dat .none=>true
 | _=>false
@[reducible] def Ja(n:Bool->Bool)(x y:DV)(st:aO)(Q:DC):Prop:=match y with
 | .dat .none=>Q (.dat (.bool (n (EU x)))) st
 | _=>False
theorem Jb{H:Hp}{P:Addr->Prop}{al:List (List Addr)}{v:V}{x:DV}(h:oE K P H al v x):decide (v=.non)=EU x:=by
 cases x with
 | ref k=>obtain⟨a,r,_,rfl⟩:=h;rfl
 | dat d =>
  cases d with
  | none=>rw[aS.IT h];rfl
  | bool b=>rw[aS.xV h];rfl
  | int i=>rw[aS.aQ h];rfl
  | str i=>rw[aS.jG h];rfl
  | list ds=>obtain⟨a,ys,rfl,_⟩:=aS.dE h;rfl
  | tuple ds=>obtain⟨a,ys,rfl,_⟩:=aS.cf h;rfl
  | dict kv=>have h:aR K (cutH P H) v (.dict kv):=h;cases h
end
section
variable {X:Cx} {Y:YK} {a b c e:Expr} {es:List Expr} {pos:Pos} {ea eb ec:DX} {K:ay} {J:KF}
theorem dC.um{α:Type}{R:V->α->Prop}{ys:List V}{xs:List α}(h:dC R ys xs){i:Int}{x:α}(hx:um xs i=some x):∃y,L2.um ys i=some y/\R y x:=by
 unfold L2.um at hx ⊢;rw[h.1]
 cases q:Hw xs.length i with
 | none=>rw[q]at hx;cases hx
 | some j =>
  rw[q]at hx;exact h.at hx
@[reducible] def qz(st:aO):DV->Option (List PyData)
 | .dat (.tuple ds)=>some ds
 | x=>kJ st x
theorem oE.U4{H0:Hp}{A0:Addr->Prop}{G:Addr->Prop}{al:List (List Addr)}{H:Hp}{st:aO}(I:DI J H0 A0 G al H st){v:V}{x:DV}{ds:List PyData}(h:oE J (Fb G al st) H al v x)(e:qz st x=some ds):∃(a:Addr) (ys:List V),v=.ref a/\(bg J H a ys∨a8 J H a ys)/\dC (aS J (Fb G al st) H) ys ds:=by
 unfold qz at e;split at e
 ·cases e;obtain⟨a,ys,h1,h2,_,h3⟩:=aS.cf h;exact⟨a,ys,h1,.inr h2,h3⟩
 ·obtain⟨a,ys,h1,h2,h3⟩:=h.TX I e;exact⟨a,ys,h1,.inl h2,h3⟩
@[reducible] def U5(x y:DV)(st:aO)(Q:DC):Prop:=match x,y with
 | .dat (.str z),.dat (.int i)=>z.length<=1000000/\∃c,L2.um z.cps.toList i=some c/\Q (.dat (.str ⟨#[c]⟩)) st
 | x,.dat (.int i)=>match qz st x with
  | some ds=>∃d,L2.um ds i=some d/\Q (.dat d) st
  | none=>False
 | _,_=>False
theorem U6:AO J (rIx J) U5:=λH0 A0 G al H st x y dx dy Q R I h1 h2 q k=>by
 unfold U5 at q;split at q
 ·obtain⟨q1,c,q2,q3⟩:=q;rw[aS.jG h1,aS.aQ h2];exact .inr (.inr ⟨_,_,c,rfl,rfl,pk q1,q2,k.here I (.d (.str _)) q3⟩)
 ·split at q
  ·rename_i ds e;obtain⟨d,q1,q2⟩:=q;rw[aS.aQ h2];obtain⟨a,ys,rfl,g1,g2⟩:=h1.U4 I e;obtain⟨z,g3,g4⟩:=g2.um q1;rcases g1 with g1 | g1
   ·exact .inl ⟨a,ys,_,z,rfl,rfl,g1,g3,k.here I (.d g4) q2⟩
   ·exact .inr (.inl ⟨a,ys,_,z,rfl,rfl,g1,g3,k.here I (.d g4) q2⟩)
  ·exact q.elim
 ·exact q.elim
theorem vx(ha:cv X Y a ea)(hb:cv X Y b eb)(hs:yH b):cv X Y (.Subscript a b pos) (zZ U5 ea eb):=by
 obtain⟨ta,p1,a1⟩:=ha.h;obtain⟨tb,p2,a2⟩:=hb.h;exact⟨_,aC Ih p1 p2 hs,ES U6 a1 a2⟩
abbrev DO:=cc->aO->(Option Int->aO->Prop)->Prop
structure DPx(X:Cx)(Y:YK)(e:Option Expr)(d:DO):Prop where
 h:∃t,PO X e t/\∀(H0:Hp) (A0:Addr->Prop) (G:Addr->Prop) (al:List (List Addr)) (H:Hp) (st:aO) (s:St) (env:cc) (Q:Option Int->aO->Prop) (R:Option Int->Hp->Prop),DI (kf X Y) H0 A0 G al H st->ph X.K (Fb G al st) H al s env->d env st Q ->
  (∀i st' al' H',Ext al H st al' H' st'->DI (kf X Y) H0 A0 G al' H' st'->Q i st'->R i H')->t s H R
@[reducible] def Jc(ea:DX)(env:cc)(st:aO)(Q:Bool->aO->Prop):Prop:=ea env st λx aH=>match x with
 | .dat (.bool b)=>Q b aH
 | _=>False
@[reducible] def EV(t u:DT)(env:cc)(st:aO)(Q:Bool->aO->Prop):Prop:=t env st λb aH=>if b=true then u env aH Q else Q false aH
@[reducible] def NU(t u:DT)(env:cc)(st:aO)(Q:Bool->aO->Prop):Prop:=t env st λb aH=>if b=true then Q true aH else u env aH Q
@[reducible] def Jd(t:DT)(env:cc)(st:aO)(Q:Bool->aO->Prop):Prop:=t env st λb aH=>Q (!b) aH
theorem C2{t:TE}{e:DX}(h:AE J t e):AT J (Ia t) (Jc e):=λH0 A0 G al H st s env Q R I E q k=>h H0 A0 G al H st s env _ _ I E q λx aH bF v H1 e1 I1 d1 q1=>by
 split at q1
 ·rw[aS.xV d1];exact⟨_,rfl,k _ _ _ _ e1 I1 q1⟩
 ·exact q1.elim
theorem vy{op:CmpOp}{r:R2}{o:NN}(ho:iE X (compareOp op) r)(ao:AO (kf X Y) r o)(ha:cv X Y a ea)(hb:cv X Y b eb)(hm:behindInMarks op b=false):xW X Y (.Compare a [op] [b] pos) (Jc (zZ o ea eb)):=by
 obtain⟨ta,p1,a1⟩:=ha.h;obtain⟨tb,p2,a2⟩:=hb.h;exact⟨_,tR ho p1 p2 hm,C2 (ES ao a1 a2)⟩
theorem Qv(ha:cv X Y a ea)(hb:cv X Y b eb):xW X Y (.Compare a [.Lt] [b] pos) (Jc (zZ (RC λi j=>.bool (decide (i < j))) ea eb)):=vy xG (Az λ_ _ _=>.bl _) ha hb (aP _)
theorem U7(ha:cv X Y a ea)(hb:cv X Y b eb):xW X Y (.Compare a [.GtE] [b] pos) (Jc (zZ (RC λi j=>.bool (decide (j<=i))) ea eb)):=vy Uu (Az λ_ _ _=>.bl _) ha hb (aP _)
theorem AD(hu:X.A.units + 64 < cLine)(ha:cv X Y a ea)(hb:cv X Y b eb):xW X Y (.Compare a [.Eq] [b] pos) (Jc (zZ (yZ id) ea eb)):=vy (pj cm (CY hu)) Qt ha hb (aP _)
theorem xX(hu:X.A.units + 64 < cLine)(ha:cv X Y a ea)(hb:cv X Y b eb):xW X Y (.Compare a [.NotEq] [b] pos) (Jc (zZ (yZ not) ea eb)):=vy (pj Qf (Rj hu)) U1 ha hb (aP _)
theorem RI:AO J (λx y H Q=>y=.non/\Q (.bl (decide (x=.non))) H) (Ja id):=λH0 A0 G al H st x y dx dy Q R I h1 h2 q k=>by
 unfold Ja at q;split at q
 ·exact⟨aS.IT h2,k.here I (.d (.bl _)) (by rw[Jb h1];exact q)⟩
 ·exact q.elim
theorem C3(ha:cv X Y a ea)(hb:cv X Y b eb):xW X Y (.Compare a [.Is] [b] pos) (Jc (zZ (Ja id) ea eb)):=vy vc RI ha hb (aP _)
theorem pq(ha:cv X Y a ea)(he:∀whole,isTrue a X.env whole=(do let v ← whole;standAt a.pos;holding [v] (truthy v)):=by intro _;rfl):xW X Y a (Jc ea):=by
 obtain⟨ta,p1,a1⟩:=ha.h;exact⟨_,yy p1 he,C2 a1⟩
variable {rest:List Expr} {ta tb:DT}
theorem C4(ha:xW X Y a ta):xW X Y (.UnaryOp .Not a pos) (Jd ta):=by
 obtain⟨t,p1,a1⟩:=ha.h;exact⟨_,yz p1,λH0 A0 G al H st s env Q R I E q k=>a1 H0 A0 G al H st s env _ _ I E q λb aH bF H1 e1 I1 q1=>k _ _ _ _ e1 I1 q1⟩
theorem NV(ha:xW X Y a ta):FY X Y (.BoolOp .And [a] pos) ta:=by
 obtain⟨t,p1,a1⟩:=ha.h;exact⟨_,pw_and1 p1,a1⟩
theorem y3(ha:xW X Y a ta):FY X Y (.BoolOp .Or [a] pos) ta:=by
 obtain⟨t,p1,a1⟩:=ha.h;exact⟨_,pw_or1 p1,a1⟩
theorem RJ{t u:TT}(h1:AT J t ta)(h2:AT J u tb):AT J (Ug t u) (EV ta tb):=λH0 A0 G al H st s env Q R I E q k=>h1 H0 A0 G al H st s env _ _ I E q λb aH bF H1 e1 I1 q1=>by
 cases b with
 | true=>exact dY (h2 H0 A0 G bF H1 aH s env _ _ I1 (E.ext e1) (by rw[aa7 rfl]at q1;exact q1) (k.go I1 e1))
 | false=>exact cu (k _ _ _ _ e1 I1 (by rw[aa4 aac]at q1;exact q1))
theorem U8{t u:TT}(h1:AT J t ta)(h2:AT J u tb):AT J (tOr t u) (NU ta tb):=λH0 A0 G al H st s env Q R I E q k=>h1 H0 A0 G al H st s env _ _ I E q λb aH bF H1 e1 I1 q1=>by
 cases b with
 | false=>exact cu (h2 H0 A0 G bF H1 aH s env _ _ I1 (E.ext e1) (by rw[aa4 aac]at q1;exact q1) (k.go I1 e1))
 | true=>exact dY (k _ _ _ _ e1 I1 (by rw[aa7 rfl]at q1;exact q1))
theorem RK(ha:xW X Y a ta)(hb:FY X Y (.BoolOp .And (b::rest) pos) tb):FY X Y (.BoolOp .And (a::b::rest) pos) (EV ta tb):=by
 obtain⟨t,p1,a1⟩:=ha.h;obtain⟨u,p2,a2⟩:=hb.h;exact⟨_,pw_and p1 p2,RJ a1 a2⟩
theorem AF(ha:xW X Y a ta)(hb:FY X Y (.BoolOp .Or (b::rest) pos) tb):FY X Y (.BoolOp .Or (a::b::rest) pos) (NU ta tb):=by
 obtain⟨t,p1,a1⟩:=ha.h;obtain⟨u,p2,a2⟩:=hb.h;exact⟨_,pw_or p1 p2,U8 a1 a2⟩
theorem FY.dt(h:FY X Y a ta):xW X Y a ta:=by
 obtain⟨t,p1,a1⟩:=h.h;exact⟨_,p1.pt,a1⟩
@[reducible] def Je(ea eb:DX)(env:cc)(st:aO)(Q:DC):Prop:=ea env st λx aH=>match x with
 | .dat (.bool b)=>if b=true then eb env aH Q else Q (.dat (.bool false)) aH
 | _=>False
theorem RL{op}(h:cv X Y a ea):cv X Y (.BoolOp op [a] pos) ea:=by
 obtain⟨t,p1,a1⟩:=h.h;exact⟨_,CB p1,a1⟩
theorem NW(ha:cv X Y a ea)(hb:cv X Y (.BoolOp .And (b::rest) pos) eb):cv X Y (.BoolOp .And (a::b::rest) pos) (Je ea eb):=by
 obtain⟨t,p1,a1⟩:=ha.h;obtain⟨u,p2,a2⟩:=hb.h;refine⟨_,CC p1 p2,λH0 A0 G al H st s env Q R I E q k=>a1 H0 A0 G al H st s env _ _ I E q λx aH bF v H1 e1 I1 d1 q1=>?_⟩;split at q1
 ·rename_i b;rw[aS.xV d1];refine⟨_,rfl,?_⟩
  cases b with
  | true=>exact dY (a2 H0 A0 G bF H1 aH s env _ _ I1 (E.ext e1) (by rw[aa7 rfl]at q1;exact q1) (k.go I1 e1))
  | false=>exact cu ((k.go I1 e1).here I1 (.d (.bl _)) (by rw[aa4 aac]at q1;exact q1))
 ·exact q1.elim
end
theorem AH{α:Type}{R:V->α->Prop}{vs:List V}{x:α}(h:dC R vs [x]):∃v,vs=[v]/\R v x:=by
 have:=h.1
 match vs,this,h with
 | [v],_,h=>exact⟨v,rfl,h.2 0 v x rfl rfl⟩
theorem U9{α:Type}{R:V->α->Prop}{vs:List V}{x y:α}(h:dC R vs [x,y]):∃v u,vs=[v,u]/\R v x/\R u y:=by
 have:=h.1
 match vs,this,h with
 | [v,u],_,h=>exact⟨v,u,rfl,h.2 0 v x rfl rfl,h.2 1 u y rfl rfl⟩
section
variable {X:Cx} {Y:YK} {a b c e:Expr} {es:List Expr} {pos p:Pos} {ea eb ec:DX} {K:ay} {J:KF} {x:Str} {id:String} {n:Nat} {d:uI} {r r':List V->Hp->VK->Prop} {o:X0}
@[reducible] def Hz(o:X0)(d:uI)(env:cc)(st:aO)(Q:DC):Prop:=d env st λxs aH=>o xs aH Q
theorem Qw{t:TA}(ho:AB J r o)(h:AA J t n d):AE J (Xx r t) (Hz o d):=λH0 A0 G al H st s env Q R I E q k=>h H0 A0 G al H st s env _ _ I E q λxs aH bF vs H1 e1 I1 d1 q1=>ho H0 A0 G bF H1 aH vs xs Q R I1 d1 q1.2 (k.go I1 e1)
theorem AJ(hc:fB X (.builtin id) r)(ho:AB (kf X Y) r o)(hg:Gl X x)(hm:X.mg x=none)(hv:bootBuiltins x=some (.builtin id))(ha:Aw X Y (e::es) n d)(hn:x≠"__name__":=by decide)(hdb:(x == ("__debug__" : Str))=false:=by decide)
  (he:starEach (e::es) X.env=(false,eval e X.env)::starEach es X.env:=by rfl) (hpl:(backTo pos (starEach es X.env)).any (·.1)=false:=by rfl):cv X Y (.Call (.Name x p) (e::es) [] pos) (Hz o d):=by
 obtain⟨t,p1,a1⟩:=ha.h;exact⟨_,bL hc hg hm hv p1 hn hdb he hpl,Qw ho a1⟩
theorem rR{T:String}(hc:fB X (.type T) r)(ho:AB (kf X Y) r o)(hg:Gl X x)(hm:X.mg x=none)(hv:bootBuiltins x=some (.type T))(ha:Aw X Y (e::es) n d)(hn:x≠"__name__":=by decide)(hdb:(x == ("__debug__" : Str))=false:=by decide)
  (he:starEach (e::es) X.env=(false,eval e X.env)::starEach es X.env:=by rfl) (hpl:(backTo pos (starEach es X.env)).any (·.1)=false:=by rfl):cv X Y (.Call (.Name x p) (e::es) [] pos) (Hz o d):=by
 obtain⟨t,p1,a1⟩:=ha.h;exact⟨_,cq hc hg hm hv p1 hn hdb he hpl,Qw ho a1⟩
theorem Qx{f:Value}(h:fB X f r)(h':fB X f r'):fB X f (λxs H Q=>r xs H Q∨r' xs H Q):=λpins s σ H xs us Q I rv q=>by
 rcases q with q | q
 ·exact h pins s σ H xs us Q I rv q
 ·exact h' pins s σ H xs us Q I rv q
@[reducible] def Jf(xs:List DV)(st:aO)(Q:DC):Prop:=match xs with
 | [.dat (.str z)]=>z.length<=1000000/\Q (.dat (.int z.length)) st
 | [x]=>match qz st x with
  | some ds=>Q (.dat (.int ds.length)) st
  | none=>False
 | _=>False
theorem RM:AB J (λxs H Q=>(∃p ys,xs=[.ref p]/\(bg J H p ys∨a8 J H p ys)/\Q (.int ys.length) H)∨∃z,xs=[.str z]/\z.length<=sizeLine/\Q (.int z.length) H) Jf:=λH0 A0 G al H st vs ds Q R I h q k=>by
 unfold Jf at q;split at q
 ·obtain⟨v,rfl,h1⟩:=AH h;rw[aS.jG h1];exact .inr ⟨_,rfl,pk q.1,k.here I (.d (.int _)) q.2⟩
 ·split at q
  ·rename_i ds e;obtain⟨v,rfl,h1⟩:=AH h;obtain⟨p,ys,rfl,g1,g2⟩:=h1.U4 I e;exact .inl ⟨p,ys,rfl,g1,k.here I (.d (.int _)) (by rw[g2.len];exact q)⟩
  ·exact q.elim
 ·exact q.elim
theorem iR(hg:Gl X "len")(hm:X.mg "len"=none)(ha:Aw X Y [e] n d)(he:starEach [e] X.env=(false,eval e X.env)::starEach [] X.env:=by rfl):cv X Y (.Call (.Name "len" p) [e] [] pos) (Hz Jf d):=AJ (Qx bu yK) RM hg hm gI ha (by decide) (by decide) he rfl
@[reducible] def AK(xs:List DV)(st:aO)(Q:DC):Prop:=match xs with
 | [x]=>match qz st x with
  | some ds=>Q (.dat (.list ds)) st
  | none=>False
 | _=>False
theorem NX:AB J (λxs H Q=>∃p ys,xs=[.ref p]/\(bg J H p ys∨a8 J H p ys)/\∀l,H l=none->Q (.ref l) (upd H l (.lst ys))) AK:=λH0 A0 G al H st vs ds Q R I h q k=>by
 unfold AK at q;split at q
 ·split at q
  ·rename_i ds e;obtain⟨v,rfl,h1⟩:=AH h;obtain⟨p,ys,rfl,g1,g2⟩:=h1.U4 I e;exact⟨p,ys,rfl,g1,λl hl=>k.list I hl g2 q⟩
  ·exact q.elim
 ·exact q.elim
theorem NY(hg:Gl X "list")(hm:X.mg "list"=none)(ha:Aw X Y [e] n d)(he:starEach [e] X.env=(false,eval e X.env)::starEach [] X.env:=by rfl):cv X Y (.Call (.Name "list" p) [e] [] pos) (Hz AK d):=rR bN NX hg hm gm ha (by decide) (by decide) he rfl
@[reducible] def vz(xs:List DV)(st:aO)(Q:DC):Prop:=match xs with
 | [x]=>match qz st x with
  | some ds=>Q (.dat (.tuple ds)) st
  | none=>False
 | _=>False
theorem Jg:AB J (λxs H Q=>∃p ys,xs=[.ref p]/\((bg J H p ys/\∀l,H l=none->Q (.ref l) (upd H l (.tup ys)))∨(a8 J H p ys/\Q (.ref p) H))) vz:=λH0 A0 G al H st vs ds Q R I h q k=>by
 unfold vz at q;split at q
 ·split at q
  ·rename_i ds e;obtain⟨v,rfl,h1⟩:=AH h;obtain⟨p,ys,rfl,g1,g2⟩:=h1.U4 I e;refine⟨p,ys,rfl,?_⟩;rcases g1 with g1 | g1
   ·exact .inl ⟨g1,λl hl=>k.laid I (gn hl) (.d (aS.tup (I.Ry hl) uS (g2.imp λy x z=>z.same (gn hl)))) q⟩
   ·exact .inr ⟨g1,k.here I (.d (aR.tup (I.yX g1) g2.1 g2.2)) q⟩
  ·exact q.elim
 ·exact q.elim
theorem AL(hg:Gl X "tuple")(hm:X.mg "tuple"=none)(ha:Aw X Y [e] n d)(he:starEach [e] X.env=(false,eval e X.env)::starEach [] X.env:=by rfl):cv X Y (.Call (.Name "tuple" p) [e] [] pos) (Hz vz d):=rR iO Jg hg hm vj ha (by decide) (by decide) he rfl
@[reducible] def Jh(xs:List DV)(st:aO)(Q:DC):Prop:=match xs with
 | [.dat (.int i),.dat (.int j)]=>Q (.dat (.int (if j > i then j else i))) st
 | [x]=>match kJ st x with
  | some ds=>∃ns:List Int,ds=ns.map PyData.int/\0 < ns.length/\∀m,m∈ns->(∀a∈ns,a<=m)->Q (.dat (.int m)) st
  | none=>False
 | _=>False
theorem n8{P:Addr->Prop}{H:Hp}:∀{ys:List V} {ns:List Int},dC (aS K P H) ys (ns.map PyData.int)->ys=ns.map V.int
 | [],[],_=>rfl
 | [],_::_,h=>by have:=h.1;simp at this
 | _::_,[],h=>by have:=h.1;simp at this
 | y::ys,i::ns,h=>by
  have h0:=aS.aQ (h.2 0 y (.int i) rfl rfl);have ht:=n8 (ys:=ys) (ns:=ns) ⟨by simpa using h.1,λj p q a b=>h.2 (j + 1) p q (by simpa using a) (by simpa using b)⟩;rw[h0,ht];rfl
theorem RN:AB J (λxs H Q=>(∃i j,xs=[.int i,.int j]/\Q (.int (if j > i then j else i)) H)∨Ql J xs H Q) Jh:=λH0 A0 G al H st vs ds Q R I h q k=>by
 unfold Jh at q;split at q
 ·obtain⟨v,u,rfl,h1,h2⟩:=U9 h;rw[aS.aQ h1,aS.aQ h2];exact .inl ⟨_,_,rfl,k.here I (.d (.int _)) q⟩
 ·split at q
  ·rename_i ds e;obtain⟨ns,rfl,q1,q2⟩:=q;obtain⟨v,rfl,h1⟩:=AH h;obtain⟨p,ys,rfl,g1,g2⟩:=h1.TX I e;rw[n8 g2]at g1;exact .inr ⟨p,ns,rfl,g1,q1,λm hm ha=>k.here I (.d (.int _)) (q2 m hm ha)⟩
  ·exact q.elim
 ·exact q.elim
theorem RO(hc:X.calm=true)(hg:Gl X "max")(hm:X.mg "max"=none)(ha:Aw X Y (e::es) n d)(he:starEach (e::es) X.env=(false,eval e X.env)::starEach es X.env:=by rfl)(hpl:(backTo pos (starEach es X.env)).any (·.1)=false:=by rfl):cv X Y (.Call (.Name "max" p) (e::es) [] pos) (Hz Jh d):=AJ (Qx (xH hc) (FO hc)) RN hg hm Io ha (by decide) (by decide) he hpl
@[reducible] def Ji(xs:List DV)(st:aO)(Q:DC):Prop:=match xs with
 | [.dat (.int i)]=>Q (.dat (.int i)) st
 | [.dat (.bool b)]=>Q (.dat (.int (if b then 1 else 0))) st
 | _=>False
theorem RP:AB J (λxs H Q=>(∃i,xs=[.int i]/\Q (.int i) H)∨∃k,xs=[.bl k]/\Q (.int (if k then 1 else 0)) H) Ji:=λH0 A0 G al H st vs ds Q R I h q k=>by
 unfold Ji at q;split at q
 ·obtain⟨v,rfl,h1⟩:=AH h;rw[aS.aQ h1];exact .inl ⟨_,rfl,k.here I (.d (.int _)) q⟩
 ·obtain⟨v,rfl,h1⟩:=AH h;rw[aS.xV h1];exact .inr ⟨_,rfl,k.here I (.d (.int _)) q⟩
 ·exact q.elim
theorem Jk(hg:Gl X "int")(hm:X.mg "int"=none)(ha:Aw X Y [e] n d)(he:starEach [e] X.env=(false,eval e X.env)::starEach [] X.env:=by rfl):cv X Y (.Call (.Name "int" p) [e] [] pos) (Hz Ji d):=rR FE RP hg hm Rc ha (by decide) (by decide) he rfl
abbrev C5:=List PyData->(PyData->Prop)->Prop
def RQ(K:ay)(T:C5):Sp:=λvs H Q _=>∃(P:Addr->Prop) (ds:List PyData),(∀c,P c->∃o,H c=some o/\pd o)/\dC (aS K P H) vs ds/\T ds λd=>∀v H',aA H H'->aS K P H' v d->Q v H'
def Jl(K:ay)(sp:Sp)(T:C5):Prop:=∀(vs:List V) (H:Hp) (Q:VK) (P:Addr->Prop) (ds:List PyData),(∀c,P c->∃o,H c=some o/\pd o)->dC (aS K P H) vs ds->T ds (λd=>∀v H',aA H H'->aS K P H' v d->Q v H')->sp vs H Q E0
theorem xY{T:C5}:Jl K (RQ K T) T:=λvs H Q P ds h1 h2 h3=>⟨P,ds,h1,h2,h3⟩
def w9(T:C5):Prop:=∀ds (Q Q':PyData->Prop),(∀d,Q d->Q' d)->T ds Q->T ds Q'
@[reducible] def EW(T:C5)(xs:List DV)(st:aO)(Q:DC):Prop:=eT xs st λds aH=>T ds λd=>Q (.dat d) aH
@[reducible] def rS(st:aO):List DV->Option (List PyData)
 | []=>some []
 | x::r=>match sV st x,rS st r with
  | some d,some ds=>some (d::ds)
  | _,_=>none
theorem EX{H0:Hp}{A0:Addr->Prop}{G:Addr->Prop}{al:List (List Addr)}{H:Hp}{st:aO}(I:DI J H0 A0 G al H st):∀{xs:List DV} {vs:List V} {ds:List PyData},dC (oE J (Fb G al st) H al) vs xs->rS st xs=some ds->dC (aR J H) vs ds
 | [],[],ds,_,e=>by cases e;exact .nil
 | [],_::_,_,h,_=>by have:=h.1;simp at this
 | _::_,[],_,h,_=>by have:=h.1;simp at this
 | x::xs,v::vs,ds,h,e=>by
  have e:(match sV st x,rS st xs with | some d,some ds=>some (d::ds) | _,_=>none)=some ds:=e;split at e
  ·rename_i d ds' e1 e2;cases e;exact .cons ((h.2 0 v x rfl rfl).UY I e1) (EX I ⟨by simpa using h.1,λi p q a b=>h.2 (i + 1) p q (by simpa using a) (by simpa using b)⟩ e2)
  ·cases e
theorem Jm{H:Hp}{v:V}{d:PyData}(h:aR K H v d):aS K (λ_=>False) H v d:=aR.same (λc o e=>aY.mpr ⟨λz=>z,e⟩) h
theorem NZ{sp:Sp}{T:C5}(h:Jl J sp T)(m:w9 T):AB J (λvs H Q=>sp (vs++[]) H Q E0) (EW T):=λH0 A0 G al H st vs ds Q R I hp q k=>by
 obtain⟨es,aH,E1,I1,F1,q1⟩:=qy I hp q;rw[abV];refine h vs H R (Fb G al aH) es (λc hc=>I1.w8 hc) F1 (m _ _ _ (λd hd v H' s r=>?_) q1);exact(k.go I1 E1).laid I1 s (.d r) hd
theorem N0{sp:Sp}{t:TA}(h:AB J (λvs H Q=>sp (vs++[]) H Q E0) o)(ha:AA J t n d):AE J (EC sp [] E0 t) (Hz o d):=λH0 A0 G al H st s env Q R I E q k=>ha H0 A0 G al H st s env _ _ I E q λxs aH bF vs H1 e1 I1 d1 q1=>h H0 A0 G bF H1 aH vs xs Q R I1 d1 q1.2 (k.go I1 e1)
theorem bO{kk:Nat}{ps:List Str}{sp:Sp}{T:C5}(h:c9 X.prog X.w X.K X.mg X.base aU x kk ps sp)(hs:Jl X.K sp T)(m:w9 T)(hr:cG kk X.A)(hg:Gl X x)(ha:Aw X Y (e::es) n d)(hdb:(x == ("__debug__" : Str))=false:=by decide)
  (he:starEach (e::es) X.env=(false,eval e X.env)::starEach es X.env:=by rfl) (hpl:(backTo pos (starEach es X.env)).any (·.1)=false:=by rfl):cv X Y (.Call (.Name x p) (e::es) [] pos) (Hz (EW T) d):=by
 obtain⟨t,p1,a1⟩:=ha.h;exact⟨_,dr h hr hg p1 hdb he hpl,N0 (NZ hs m) a1⟩
end
abbrev xa:=cc->aO->(List PyData->(aO->Prop)->aO->Prop)->Prop
def ItR(J:KF)(H0:Hp)(A0:Addr->Prop)(G:Addr->Prop)(al:List (List Addr))(H:Hp)(st:aO)(Jj:It)(xs:List PyData)(ok:aO->Prop):Prop:=∀(G1:Addr->Prop) (bF:List (List Addr)) (H1:Hp) (aH:aO) (i:Nat),(∀c,G1 c->G c∨H c=none)->Ext al H st bF H1 aH->DI J H0 A0 G1 bF H1 aH->ok aH ->
 (∀d,xs[i]?=some d->Jj.go i H1/\∀x H2,Jj.yld i H1 x H2->aA H1 H2/\aS J (Fb G1 bF aH) H2 x d)/\(xs.length<=i->i<=xs.length->Jj.stop i H1)
def AI(J:KF)(wi:TI)(di:xa):Prop:=∀(H0:Hp) (A0:Addr->Prop) (G:Addr->Prop) (al:List (List Addr)) (H:Hp) (st:aO) (s:St) (env:cc) (Q:List PyData->(aO->Prop)->aO->Prop) (R:It->Hp->Prop),DI J H0 A0 G al H st->ph J (Fb G al st) H al s env->di env st Q ->
 (∀Jj xs ok st' al' H',Ext al H st al' H' st'->DI J H0 A0 G al' H' st'->ItR J H0 A0 G al' H' st' Jj xs ok->Q xs ok st'->R Jj H')->wi s H R
structure TY(X:Cx)(Y:YK)(tg iter:Expr)(d:xa):Prop where
 h:∃wi,PI X tg iter wi/\AI (kf X Y) wi d
def iSq(K:ay)(tl:TE):TI:=λσ H R=>tl σ H λx H1=>∃a,x=.ref a/\(((∃xs,bg K H1 a xs)/\R (Qe K a) H1)∨((∃xs,a8 K H1 a xs)/\R (Xo K a) H1))
theorem Va{X:Cx}{tg l:Expr}{tl:TE}(hl:PE X l tl):PI X tg l (iSq X.K tl):=by
 intro pins s σ H R I h;refine cg (hl pins s σ H _ I h) λv s1 ⟨x,H1,I1,r1,q1⟩=>?_
 obtain⟨a,e,q⟩:=q1;subst e;cases r1
 have fin:∀b∈[s1.heap.objs.size],qp X pins H1 b:=λb hb=>by
  have e:b=s1.heap.objs.size:=by simpa using hb
  subst e;exact I1.Na (aaZ _) (I1.hok.fresh (aaZ _))
 rcases q with⟨⟨xs,hq⟩,q⟩ | ⟨⟨xs,hq⟩,q⟩
 ·obtain⟨its,rv,p,hz⟩:=I1.list hq;refine acw p.isList ?_;exact⟨s1.heap.objs.size,[s1.heap.objs.size],_,_,H1,rfl,I1.kept (t':=s1.toks) λb o e=>aaa _ e,xE a _,⟨_,aa8 _ rfl,rfl,rfl⟩,fin,q⟩
 ·obtain⟨its,rv,p,hz⟩:=I1.tuple hq;refine wpAny_pyIter_tuple (show s1.heap.IsTuple a its.toArray from p) ?_;exact⟨s1.heap.objs.size,[s1.heap.objs.size],_,_,H1,rfl,I1.kept (t':=s1.toks) λb o e=>aaa _ e,CG a _,⟨_,aa8 _ rfl,rfl,rfl⟩,fin,q⟩
section
variable {X:Cx} {Y:YK} {tg a b c e:Expr} {es:List Expr} {pos p:Pos} {ea eb ec:DX} {K:ay} {J:KF} {n:Nat} {d:uI}
theorem aS.seq{P:Addr->Prop}{H:Hp}{v:V}{d:PyData}{ds:List PyData}(h:aS K P H v d)(e:d=.list ds∨d=.tuple ds):∃q a ys,v=.ref a/\Hy q K (cutH P H) a ys/\Hy q K H a ys/\dC (aS K P H) ys ds:=by
 rcases e with rfl | rfl
 ·obtain⟨a,ys,h1,h2,h3,h4⟩:=aS.dE h;exact⟨true,a,ys,h1,h3,h2,h4⟩
 ·obtain⟨a,ys,h1,h2,h3,h4⟩:=aS.cf h;exact⟨false,a,ys,h1,h3,h2,h4⟩
@[reducible] def N1(ea:DX)(env:cc)(st:aO)(Q:List PyData->(aO->Prop)->aO->Prop):Prop:=ea env st λx aH=>rK x aH λd cZ=>match d with
 | .list ds=>Q ds (λ_=>True) cZ
 | .tuple ds=>Q ds (λ_=>True) cZ
 | _=>False
theorem RS{t:TE}(h:AE J t ea):AI J (iSq J t) (N1 ea):=λH0 A0 G al H st s env Q R I E q k=>h H0 A0 G al H st s env _ _ I E q λx aH bF v H1 e1 I1 d1 q1=>by
 obtain⟨d,cZ,E2,I2,F2,q2⟩:=yY I1 d1 q1
 obtain⟨ds,ed,q2⟩:∃ds,(d=.list ds∨d=.tuple ds)/\Q ds (λ_=>True) cZ:=by
  split at q2
  ·exact⟨_,.inl rfl,q2⟩
  ·exact⟨_,.inr rfl,q2⟩
  ·exact q2.elim
 obtain⟨w,a,ys,rfl,g1,g2,g3⟩:=F2.seq ed;refine⟨a,rfl,?_⟩;have Qy:=e1.trans I1 E2
 cases w with
 | true =>
  refine .inl ⟨⟨ys,g2⟩,k (Qe J a) ds _ cZ bF H1 Qy I2 (λG1 Vb H3 rN i hG e3 I3 _=>⟨λd hd=>?_,λh1 _=>?_⟩) q2⟩
  ·have s3:=(n5 hG e3).seq g1;obtain⟨y,hy,_⟩:=g3.at hd;refine⟨⟨ys,y,d9.seq s3,hy⟩,λx H4 ⟨e4,z⟩=>?_⟩;subst e4;have:=z ys (d9.seq s3);exact⟨.refl _,(g3.2 i x d this hd).ox hG e3⟩
  ·exact⟨ys,d9.seq ((n5 hG e3).seq g1),by rw[g3.1];exact h1⟩
 | false =>
  refine .inr ⟨⟨ys,g2⟩,k (Xo J a) ds _ cZ bF H1 Qy I2 (λG1 Vb H3 rN i hG e3 I3 _=>⟨λd hd=>?_,λh1 _=>?_⟩) q2⟩
  ·have s3:=(n5 hG e3).tup g1;obtain⟨y,hy,_⟩:=g3.at hd;refine⟨⟨ys,y,d9.tup s3,hy⟩,λx H4 ⟨e4,z⟩=>?_⟩;subst e4;have:=z ys (d9.tup s3);exact⟨.refl _,(g3.2 i x d this hd).ox hG e3⟩
  ·exact⟨ys,d9.tup ((n5 hG e3).tup g1),by rw[g3.1];exact h1⟩
theorem Jn(h:cv X Y a ea):TY X Y tg a (N1 ea):=by
 obtain⟨t,p1,a1⟩:=h.h;exact⟨_,Va p1,RS a1⟩
def Gb(lo:Int)(m:Nat):List PyData:=(List.range m).map λ(k:Nat)=>PyData.int (lo + (k:Int))
theorem fC{lo:Int}{m:Nat}:(Gb lo m).length=m:=by unfold Gb;rw[List.length_map,List.length_range]
theorem n9{lo:Int}{m i:Nat}{d:PyData}(h:(Gb lo m)[i]?=some d):i < m/\d=.int (lo + (i:Int)):=by
 have hi:=(dD h).1;rw[fC]at hi;unfold Gb at h;rw[List.getElem?_map,List.getElem?_range hi]at h;cases h;exact⟨hi,rfl⟩
@[reducible] def y4(d:uI)(env:cc)(st:aO)(Q:List PyData->(aO->Prop)->aO->Prop):Prop:=d env st λxs aH=>match xs with
 | [.dat (.int j)]=>(-(2 ^ 62)<=j/\j < 2 ^ 62)/\Q (Gb 0 j.toNat) (λ_=>True) aH
 | _=>False
theorem N2{H0:Hp}{A0:Addr->Prop}{G:Addr->Prop}{al:List (List Addr)}{H:Hp}{st:aO}{lo:Int}{m:Nat}{ok:aO->Prop}:ItR J H0 A0 G al H st (Up lo m) (Gb lo m) ok:=λG1 bF H1 aH i hG e1 I1 _=>by
 refine⟨λd hd=>?_,λh1 _=>by rw[fC]at h1;exact h1⟩;obtain⟨hi,rfl⟩:=n9 hd;refine⟨hi,λx H2 ⟨e,z⟩=>?_⟩;subst e;subst z;exact⟨.refl _,.int _⟩
theorem jl(hg:Gl X "range")(hm:X.mg "range"=none)(ha:Aw X Y [a] n d)(hs:starEach [a] X.env=[(false,eval a X.env)]:=by rfl):TY X Y tg (.Call (.Name "range" p) [a] [] pos) (y4 d):=by
 obtain⟨t,p1,a1⟩:=ha.h;refine⟨_,xF hg hm p1 hs,λH0 A0 G al H st s env Q R I E q k=>a1 H0 A0 G al H st s env _ _ I E q λxs aH bF vs H1 e1 I1 d1 q1=>?_⟩;have q1:=q1.2;split at q1
 ·obtain⟨v,rfl,h1⟩:=AH d1;rw[aS.aQ h1];exact⟨_,rfl,q1.1.1,q1.1.2,k _ _ _ aH bF H1 e1 I1 N2 q1.2⟩
 ·exact q1.elim
abbrev wV:=DV->cc->aO->(cc->aO->Prop)->Prop
abbrev AN:=List PyData->cc->aO->(cc->aO->Prop)->Prop
def Qz(J:KF)(H0:Hp)(A0:Addr->Prop)(G:Addr->Prop)(al:List (List Addr))(H:Hp)(st:aO)(Q:cc->aO->Prop)(R:St->Hp->Prop):Prop:=∀env' st' al' s' H',Ext al H st al' H' st'->DI J H0 A0 G al' H' st'->ph J (Fb G al' st') H' al' s' env'->Q env' st'->R s' H'
theorem Qz.go{H0:Hp}{A0:Addr->Prop}{G:Addr->Prop}{al bF:List (List Addr)}{H H1:Hp}{st aH:aO}{Q:cc->aO->Prop}{R:St->Hp->Prop}(k:Qz J H0 A0 G al H st Q R)(I:DI J H0 A0 G bF H1 aH)(e:Ext al H st bF H1 aH):Qz J H0 A0 G bF H1 aH Q R:=λdv st' al' s' H' e' I' h q=>k dv st' al' s' H' (e.trans I e') I' h q
def AG(J:KF)(g:TG)(dg:wV):Prop:=∀(H0:Hp) (A0:Addr->Prop) (G:Addr->Prop) (al:List (List Addr)) (H:Hp) (st:aO) (s:St) (env:cc) (v:V) (dv:DV) (Q:cc->aO->Prop) (R:St->Hp->Prop),DI J H0 A0 G al H st->ph J (Fb G al st) H al s env->oE J (Fb G al st) H al v dv->dg dv env st Q->Qz J H0 A0 G al H st Q R->g v s H R
def WQ(J:KF)(g:Ms)(dg:AN):Prop:=∀(H0:Hp) (A0:Addr->Prop) (G:Addr->Prop) (al:List (List Addr)) (H:Hp) (st:aO) (s:St) (env:cc) (vs:List V) (ds:List PyData) (Q:cc->aO->Prop) (R:St->Hp->Prop),DI J H0 A0 G al H st->ph J (Fb G al st) H al s env->dC (aS J (Fb G al st) H) vs ds->dg ds env st Q->Qz J H0 A0 G al H st Q R->g vs s H R
structure Vc(X:Cx)(Y:YK)(tg:Expr)(d:wV):Prop where
 h:∃g,PG X tg g/\AG (kf X Y) g d
structure N3(X:Cx)(Y:YK)(tg:List Expr)(d:AN):Prop where
 h:∃g,Ul X tg g/\WQ (kf X Y) g d
@[reducible] def gN(i:Nat)(dv:DV)(env:cc)(st:aO)(Q:cc->aO->Prop):Prop:=Q (env.set i (some dv)) st
@[reducible] def EY(ds:List PyData)(env:cc)(st:aO)(Q:cc->aO->Prop):Prop:=match ds with
 | []=>Q env st
 | _=>False
@[reducible] def vA(g:wV)(r:AN)(ds:List PyData)(env:cc)(st:aO)(Q:cc->aO->Prop):Prop:=match ds with
 | d::ds=>g (.dat d) env st λenv' st'=>r ds env' st' Q
 | []=>False
@[reducible] def gT(n:Nat)(r:AN)(dv:DV)(env:cc)(st:aO)(Q:cc->aO->Prop):Prop:=match dv with
 | .dat (.tuple ds)=>ds.length=n/\r ds env st Q
 | _=>False
theorem y6{i:Nat}:AG J (uV i) (gN i):=λH0 A0 G al H st s env v dv Q R I E h q k=>k _ _ al _ H .refl I (E.set h i) q
theorem jH{i:Nat}{x:Str}(hN:X.N.Nodup)(hi:X.N[i]?=some x)(hx:Loc X.env.scope x)(hf:X.fn x=true∨X.env.scope.names.lookup x=some .local:=by first | exact .inl rfl | exact .inr rfl | assumption):Vc X Y (.Name x pos) (gN i):=⟨_,bU hN hi hx hf,y6⟩
theorem N4:N3 X Y [] EY:=⟨_,Eu,λH0 A0 G al H st s env vs ds Q R I E h q k=>by
 unfold EY at q;split at q
 ·have:=h.1
  cases vs with
  | nil=>exact⟨rfl,k _ _ al _ H .refl I E q⟩
  | cons v r=>simp at this
 ·exact q.elim⟩
theorem Jo{g:TG}{u:Ms}{dg:wV}{r:AN}(a1:AG J g dg)(a2:WQ J u r):WQ J (Qd g u) (vA dg r):=λH0 A0 G al H st s env vs ds Q R I E h q k=>by
 unfold vA at q;split at q
 ·rename_i d ds';have:=h.1
  cases vs with
  | nil=>simp at this
  | cons v vs' =>
   have h':dC (aS J (Fb G al st) H) vs' ds':=⟨by simpa using this,λi p q a b=>h.2 (i + 1) p q (by simpa using a) (by simpa using b)⟩;refine⟨v,vs',rfl,a1 H0 A0 G al H st s env v (.dat d) _ _ I E (.d (h.2 0 v d rfl rfl)) q λenv' st' al' s' H' e' I' E' q'=>?_⟩;exact a2 H0 A0 G al' H' st' s' env' vs' ds' Q R I' E' (h'.imp λy x z=>z.ext e') q' (k.go I' e')
 ·exact q.elim
theorem jm{g:wV}{r:AN}(h1:Vc X Y e g)(h2:N3 X Y es r)(hs:(assignEach (e::es) X.env).map (·.2)=assign e X.env::(assignEach es X.env).map (·.2):=by rfl):N3 X Y (e::es) (vA g r):=by
 obtain⟨t,p1,a1⟩:=h1.h;obtain⟨u,p2,a2⟩:=h2.h;exact⟨_,uW p1 p2 hs,Jo a1 a2⟩
theorem X3{m:Nat}{u:Ms}{r:AN}(a1:WQ J u r):AG J (Uo J m u) (gT m r):=λH0 A0 G al H st s env v dv Q R I E h q k=>by
 unfold gT at q;split at q
 ·obtain⟨a,ys,rfl,g1,_,g2⟩:=aS.cf h;exact⟨a,ys,rfl,g1,by rw[g2.1];exact q.1,a1 H0 A0 G al H st s env ys _ Q R I E g2 q.2 k⟩
 ·exact q.elim
theorem RT{kx m:Nat}{r:AN}(hc:X.calm=true)(h:N3 X Y es r)(hn:(assignEach es X.env).length=m:=by rfl)(hst:(assignEach es X.env).findIdx? (·.1)=none:=by rfl):Vc X Y (.Tuple es kx pos) (gT m r):=by
 obtain⟨u,p1,a1⟩:=h.h;exact⟨_,HP hc p1 hn hst,X3 a1⟩
end
def X4(J:KF)(e:DX):TE:=λs H R=>∃(H0:Hp) (A0:Addr->Prop) (G:Addr->Prop) (al:List (List Addr)) (st:aO) (env:cc) (Q:DC),DI J H0 A0 G al H st/\ph J (Fb G al st) H al s env/\e env st Q/\Kn J H0 A0 G al H st Q R
def Jp(J:KF)(e:DT):TT:=λs H R=>∃(H0:Hp) (A0:Addr->Prop) (G:Addr->Prop) (al:List (List Addr)) (st:aO) (env:cc) (Q:Bool->aO->Prop),DI J H0 A0 G al H st/\ph J (Fb G al st) H al s env/\e env st Q/\UW J H0 A0 G al H st Q R
theorem cv.pe{X:Cx}{Y:YK}{e:Expr}{d:DX}(h:cv X Y e d):PE X e (X4 (kf X Y) d):=by
 obtain⟨t,p,a⟩:=h.h;intro pins s σ H Q I ⟨H0,A0,G,al,st,env,Q',I',E,q,k⟩;exact p pins s σ H Q I (a H0 A0 G al H st σ env Q' Q I' E q k)
theorem xW.pt{X:Cx}{Y:YK}{e:Expr}{d:DT}(h:xW X Y e d):PT X e (Jp (kf X Y) d):=by
 obtain⟨t,p,a⟩:=h.h;intro pins s σ H Q I ⟨H0,A0,G,al,st,env,Q',I',E,q,k⟩;exact p pins s σ H Q I (a H0 A0 G al H st σ env Q' Q I' E q k)
structure Vd(X:Cx)(Y:YK)(ifs:List Expr)(d:DT):Prop where
 h:TN X ifs (Jp (kf X Y) d)
@[reducible] def Jq(_:cc)(st:aO)(Q:Bool->aO->Prop):Prop:=Q true st
theorem vB{X:Cx}:Vd X Y [] Jq:=⟨λpins s σ H Q I ⟨H0,A0,G,al,st,env,Q',I',E,q,k⟩=>jE pins s σ H Q I (k true st al H .refl I' q)⟩
theorem RU{X:Cx}{Y:YK}{c:Expr}{d:DT}(h:xW X Y c d):Vd X Y [c] d:=⟨Ny h.pt⟩
def GB(own:Nat)(g:TG):Prop:=∀v s H R R',(∀(s2:St) (H2:Hp),s2.drop own=s.drop own->R s2 H2->R' s2 H2)->g v s H R->g v s H R'
theorem Gd{own i:Nat}(h:i < own):GB own (uV i):=λv s H R R' f q=>f _ _ (by rw[List.drop_set_of_lt h]) q
@[reducible] def EZ(own:Nat)(ix:List Nat)(env:cc):cc:=List.replicate own none++ix.map λi=>(env[i]?).getD none
def WR(fin:List PyData->aO->DC->Prop)(dg:wV)(dt:DT)(de:DX)(xs:List PyData)(ok:aO->Prop)(env:cc)(aH:aO)(Q:DC):Prop:=(ok aH/\xs.length<=1000000)/\∃I:Nat->List PyData->Prop,I 0 [] /\
 (∀i ys d,I i ys->xs[i]?=some d->dg (.dat d) env aH λkQ cZ=>cZ=aH/\dt kQ aH λb rN=>rN=aH/\if b=true then de kQ aH λy Am=>rK y Am λdy CI=>CI=aH/\I (i + 1) (ys++[dy])else I (i + 1) ys)/\∀ys,I xs.length ys->fin ys aH Q
@[reducible] def Ge(fin:List PyData->aO->DC->Prop)(own:Nat)(ix:List Nat)(di:xa)(dg:wV)(dt:DT)(de:DX)(env:cc)(st:aO)(Q:DC):Prop:=di env st λxs ok aH=>WR fin dg dt de xs ok (EZ own ix env) aH Q
theorem Jr{fin:List PyData->aO->DC->Prop}{dg:wV}{dt:DT}{de:DX}{xs:List PyData}{env:cc}{aH:aO}{Q:DC}(I:Nat->List PyData->Prop)(hl:xs.length<=1000000)(h0:I 0 [])
  (hs:∀i ys d,xs[i]?=some d->I i ys->dg (.dat d) env aH λkQ cZ=>cZ=aH/\dt kQ aH λb rN=>rN=aH/\if b=true then de kQ aH λy Am=>rK y Am λdy CI=>CI=aH/\I (i + 1) (ys++[dy])else I (i + 1) ys) (hd:∀ys,I xs.length ys->fin ys aH Q):WR fin dg dt de xs (λ_=>True) env aH Q:=⟨⟨trivial,hl⟩,I,h0,λi ys d a b=>hs i ys d b a,hd⟩
@[reducible] def N5:List PyData->aO->DC->Prop:=λys st Q=>Q (.dat (.list ys)) st
theorem ph.qt{K:ay}{P:Addr->Prop}{H:Hp}{al:List (List Addr)}{s:St}{env:cc}(h:ph K P H al s env)(own:Nat)(ix:List Nat):ph K P H al (dZ own ix s) (EZ own ix env):=by
 refine⟨by simp[dZ],λi dv hi=>?_⟩;by_cases l:i < own
 ·rw[List.getElem?_append_left (by simpa using l),List.getElem?_replicate,if_pos l]at hi;cases hi
 ·rw[List.getElem?_append_right (by simp;omega),List.length_replicate,List.getElem?_map]at hi
  cases q:ix[i - own]? with
  | none=>rw[q]at hi;cases hi
  | some j =>
   rw[q]at hi;have hi:some ((env[j]?).getD none)=some (some dv):=hi
   have e:env[j]?=some (some dv):=by
    cases w:env[j]? with
    | none=>rw[w]at hi;cases hi
    | some u=>rw[w]at hi;exact hi
   obtain⟨v,h1,h2⟩:=h.2 j dv e;refine⟨v,?_,h2⟩;unfold dZ;rw[List.getElem?_append_right (by simp;omega),List.length_replicate,List.getElem?_map,q];show some ((s[j]?).getD none)=_;rw[h1];rfl
theorem DI.RV{J:KF}{H0:Hp}{A0:Addr->Prop}{G:Addr->Prop}{al:List (List Addr)}{H:Hp}{st:aO}(I:DI J H0 A0 G al H st){D:Addr}{ys:List V}(h:H D=none):Ext al H st al (upd H D (.lst ys)) st/\DI J H0 A0 (λc=>G c∨c=D) al (upd H D (.lst ys)) st:=by
 have E:Ext al H st al (upd H D (.lst ys)) st:=.new h
 have g:∀c,(G c∨c=D)->G c∨H c=none:=λc hc=>by
  rcases hc with z | z
  ·exact .inl z
  ·rw[z];exact .inr h
 have keep:∀c o,H c=some o->upd H D (.lst ys) c=some o:=λc o e=>by rw[uN (nN e h)];exact e
 have I1:=I.new (o:=.lst ys) h;refine⟨E,I.len,I.nd,I1.ok,λk a c h1 h2=>(I.cel k a c h1 h2).ox g E (λc hc=>I.w8 hc) λ_ b _ o q=>keep _ _ q,I1.fr,I.nw,λa ha hc=>?_,λc hc=>?_,J.y.up _ _ _ _ (λc hc=>.inl hc) I.lk⟩
 ·rcases hc with z | z
  ·exact I.gd a ha z
  ·obtain⟨o,e⟩:=I.ok a ha;rw[z,h]at e;cases e
 ·rcases hc with z | z
  ·exact I1.gs c z
  ·rw[z];exact⟨_,uS,.inl ⟨_,rfl⟩⟩
theorem DI.grow{J:KF}{H0:Hp}{A0:Addr->Prop}{G:Addr->Prop}{al:List (List Addr)}{H:Hp}{st:aO}{D:Addr}{ys zs:List V}(I:DI J H0 A0 (λc=>G c∨c=D) al H st)(h:H D=some (.lst zs))(n0:A0 D∨H0 D=none):DI J H0 A0 (λc=>G c∨c=D) al (upd H D (.lst ys)) st/\∀v d,aS J (Fb (λc=>G c∨c=D) al st) H v d->aS J (Fb (λc=>G c∨c=D) al st) (upd H D (.lst ys)) v d:=by
 have sm:aA (cutH (Fb (λc=>G c∨c=D) al st) H) (cutH (Fb (λc=>G c∨c=D) al st) (upd H D (.lst ys))):=nZ λc o n e=>⟨n,by rw[uN (λz=>n (.inl (.inr z)))];exact e⟩
 have rd:∀v d,aS J (Fb (λc=>G c∨c=D) al st) H v d->aS J (Fb (λc=>G c∨c=D) al st) (upd H D (.lst ys)) v d:=λv d z=>aR.same sm z
 have nD:∀a∈al.flatten,a≠D:=λa ha z=>I.gd a ha (.inr z)
 refine⟨⟨I.len,I.nd,λa ha=>?_,λk fp c h1 h2=>?_,λc o n e=>?_,I.nw,I.gd,λc hc=>?_,I.lk⟩,rd⟩
 ·rw[uN (nD a ha)];exact I.ok a ha
 ·have z:=I.cel k fp c h1 h2;have na:∀a∈fp,a≠D:=λa ha=>nD a (vw h1 ha)
  cases c with
  | live xs =>
   obtain⟨a,ws,e0,g1,g2⟩:=z;exact⟨a,ws,e0,by rw[uN (na a (by rw[e0];exact abi.mpr rfl))];exact g1,g2.imp λy x q=>rd y x q⟩
  | froz ds=>obtain⟨a,e0,g0⟩:=z;exact⟨a,e0,rd _ _ g0⟩
  | deep xs =>
   obtain⟨a,ws,e0,g1,g2⟩:=z;refine⟨a,ws,e0,by rw[uN (na a (by rw[e0];exact abi.mpr rfl))];exact g1,g2.imp λy x q=>?_⟩
   cases x with
   | dat d=>exact rd _ _ q
   | ref j=>exact q
  | obj o=>exact⟨z.1,o.keep _ _ _ _ _ _ z.2 (λc hc=>I.w8 hc) (λa ha o e=>by rw[uN (na a ha)];exact e) sm⟩
 ·by_cases w:c=D
  ·rw[w]at n e;rcases n0 with y | y
   ·exact absurd y n
   ·rw[y]at e;cases e
  ·rw[uN w];exact I.fr c o n e
 ·by_cases w:c=D
  ·rw[w];exact⟨_,uS,.inl ⟨_,rfl⟩⟩
  ·rw[uN w];exact I.gs c hc
section
variable {X:Cx} {Y:YK} {tg a b c e:Expr} {es:List Expr} {pos p:Pos} {ea eb ec:DX} {K:ay} {J:KF} {n:Nat} {d:uI}
theorem Ext.upG{al:List (List Addr)}{H:Hp}{st:aO}{D:Addr}{ys:List V}{bF:List (List Addr)}{H1:Hp}{aH:aO}(e:Ext al H st bF H1 aH)(hD:H D=none):Ext al H st bF (upd H1 D (.lst ys)) aH:=⟨λc o n q=>by rw[uN (λz=>by rw[z,hD]at q;cases q)];exact e.keep c o n q,e.pre,e.nws,e.lv⟩
def N6(J:KF)(fin:List PyData->aO->DC->Prop):Prop:=∀(H0:Hp) (A0:Addr->Prop) (G:Addr->Prop) (al:List (List Addr)) (H:Hp) (st:aO) (Q:DC) (R:VK) (D:Addr) (gB:List (List Addr)) (H2:Hp) (vs:List V) (ys:List PyData),DI J H0 A0 G al H st->H D=none->Kn J H0 A0 G al H st Q R->fin ys st Q->DI J H0 A0 (λc=>G c∨c=D) gB H2 st->Ext al H st gB H2 st->H2 D=some (.lst vs)->dC (aS J (Fb (λc=>G c∨c=D) gB st) H2) vs ys->R (.ref D) H2
theorem QA{fin:List PyData->aO->DC->Prop}(hf:N6 J fin)
  {own:Nat} {ix:List Nat} {wi:TI} {g:TG} {di:xa} {dg:wV} {dt:DT} {de:DX} (hi:AI J wi di) (hg:AG J g dg) (gb:GB own g):AE J (XG own ix wi g (Jp J dt) (X4 J de)) (Ge fin own ix di dg dt de):=λH0 A0 G al H st s env Q R I E q k=>by
 refine hi H0 A0 G al H st s env _ _ I E q λJj xs ok aH bF H1 e1 I1 ir q1=>?_
 intro D hD;obtain⟨⟨hok,hlen⟩,Iv,i0,istep,ifin⟩:=q1;have k1:=k.go I1 e1;have E1:=E.ext e1
 have gG:∀c,(G c∨c=D)->G c∨H1 c=none:=λc hc=>by
  rcases hc with z | z
  ·exact .inl z
  ·rw[z];exact .inr hD
 have n0:=I1.n0 hD;obtain⟨EB,IB⟩:=I1.RV (ys:=[]) hD;refine⟨λi m ys H2=>(m=xs.length - i/\i<=xs.length/\ys.length<=i)/\∃ds gB,Iv i ds/\H2 D=some (.lst ys)/\dC (aS J (Fb (λc=>G c∨c=D) gB aH) H2) ys ds/\DI J H0 A0 (λc=>G c∨c=D) gB H2 aH/\Ext bF H1 aH gB H2 aH,⟨_,⟨rfl,abB _,abB _⟩,[],bF,i0,uS,.nil,IB,EB⟩,?_⟩;rintro i m ys H2 ⟨⟨em,hil,hyl⟩,ds,gB,hI,gD,hP,I2,E2⟩;refine⟨gD,?_⟩;have IR:=ir (λc=>G c∨c=D) gB H2 aH i gG E2 I2 hok;by_cases hx:i < xs.length
 ·right
  obtain⟨d0,Ve⟩:∃d0,xs[i]?=some d0:=⟨xs[i],dN hx⟩;obtain⟨go,yl⟩:=IR.1 d0 Ve;refine⟨go,abb (abj hyl hil) (abb hlen (by decide)),λys' H'=>∃m',m' < m/\(m'=xs.length - (i + 1)/\i + 1<=xs.length/\ys'.length<=i + 1)/\∃ds gB,Iv (i + 1) ds/\H' D=some (.lst ys')/\dC (aS J (Fb (λc=>G c∨c=D) gB aH) H') ys' ds/\DI J H0 A0 (λc=>G c∨c=D) gB H' aH/\Ext bF H1 aH gB H' aH,λys' H' ⟨m',lt,w⟩=>⟨m',lt,w⟩,λx H3 hy=>?_⟩;obtain⟨s3,r3⟩:=yl x H3 hy;have I3:=I2.same s3;have E3:Ext bF H1 aH gB H3 aH:=E2.trans I2 (.same s3);have P3:=hP.imp λy x z=>z.same s3
  have g3:=s3 _ _ gD;have En3:=(E1.ox gG E3).qt own ix;refine gb x _ H3 _ _ ?_ (hg H0 A0 (λc=>G c∨c=D) gB H3 aH _ _ x (.dat d0) _ (λσ2 H4=>Jp J dt σ2 H4 λb H5=>if b=true then X4 J de σ2 H5 λv H6=>H6 D=some (.lst ys)/\∃m',m' < m/\(m'=xs.length - (i + 1)/\i + 1<=xs.length/\(ys++[v]).length<=i + 1)/\∃ds gB,Iv (i + 1) ds/\upd H6 D (.lst (ys++[v])) D=some (.lst (ys++[v]))/\dC (aS J (Fb (λc=>G c∨c=D) gB aH) (upd H6 D (.lst (ys++[v])))) (ys++[v]) ds/\DI J H0 A0 (λc=>G c∨c=D) gB (upd H6 D (.lst (ys++[v]))) aH/\Ext bF H1 aH gB (upd H6 D (.lst (ys++[v]))) aH else ∃m',m' < m/\(m'=xs.length - (i + 1)/\i + 1<=xs.length/\ys.length<=i + 1)/\∃ds gB,Iv (i + 1) ds/\H5 D=some (.lst ys)/\dC (aS J (Fb (λc=>G c∨c=D) gB aH) H5) ys ds/\DI J H0 A0 (λc=>G c∨c=D) gB H5 aH/\Ext bF H1 aH gB H5 aH) I3 En3 (.d r3) (istep i ds d0 hI Ve) λkQ cZ Vf s2 H4 e4 I4 En4 q4=>?_)
  ·intro s2 H4 ed q4;refine⟨?_,q4⟩;rw[ed];unfold dZ;rw[List.drop_left' (by simp)]
  ·obtain⟨rfl,q4⟩:=q4;refine⟨H0,A0,_,Vf,cZ,kQ,_,I4,En4,q4,λb rN al5 H5 e5 I5 q5=>?_⟩;obtain⟨rfl,q5⟩:=q5;have X5:=e4.trans I4 e5;have E5:=E3.trans I3 X5;have nL:∀(al':List (List Addr)) (H':Hp),DI J H0 A0 (λc=>G c∨c=D) al' H' rN->¬ Lv al' rN D:=λal' H' I' z=>I'.gd D z.mem (.inr rfl)
   have g5:=X5.keep D _ (nL _ _ I3) g3;have P5:=P3.imp λy x z=>aS.ext z X5
   cases b with
   | false =>
    rw[aa4 aac]at q5;exact cu ⟨xs.length - (i + 1),by omega,⟨rfl,hx,by omega⟩,ds,al5,q5,g5,P5,I5,E5⟩
   | true =>
    rw[aa7 rfl]at q5;refine dY ⟨H0,A0,_,al5,rN,kQ,_,I5,En4.ext e5,q5,λy Am al6 v H6 e6 I6 d6 q6=>?_⟩;obtain⟨dy,CI,E7,I7,F7,rfl,q7⟩:=yY I6 d6 q6;have X6:=e6.trans I6 E7;have E6:=E5.trans I5 X6;have g6:=X6.keep D _ (nL _ _ I5) g5;have P6:=P5.imp λy x z=>aS.ext z X6
    obtain⟨I8,rd8⟩:=I7.grow (ys:=ys++[v]) g6 n0;refine⟨g6,xs.length - (i + 1),by omega,⟨rfl,hx,by simp;omega⟩,ds++[dy],al6,q7,uS,?_,I8,E6.upG hD⟩;exact(P6.imp λy x z=>rd8 y x z).append (.cons (rd8 _ _ F7) .nil)
 ·left
  have ei:i=xs.length:=by omega
  subst ei;exact⟨IR.2 (aaZ _) (aaZ _),hf H0 A0 G bF H1 aH Q R D gB H2 ys ds I1 hD k1 (ifin ds hI) I2 E2 gD hP⟩
end
section
variable {X:Cx} {Y:YK} {tg a b c e:Expr} {es:List Expr} {pos p:Pos} {ea eb ec:DX} {K:ay} {J:KF} {n:Nat} {d:uI} {scope:Scope}
theorem DI.less{H0:Hp}{A0:Addr->Prop}{G G':Addr->Prop}{al:List (List Addr)}{H:Hp}{st:aO}(I:DI J H0 A0 G' al H st)(s:∀c,G c->G' c)(y:J.y.Y H0 A0 G):DI J H0 A0 G al H st:=by
 have sub:∀c,Fb G al st c->Fb G' al st c:=λc z=>by
  rcases z with z | z
  ·exact .inl (s c z)
  ·exact .inr z
 have sm:aA (cutH (Fb G' al st) H) (cutH (Fb G al st) H):=nZ λc o n e=>⟨λz=>n (sub c z),e⟩
 refine⟨I.len,I.nd,I.ok,λk fp c h1 h2=>?_,I.fr,I.nw,λa ha z=>I.gd a ha (s a z),λc hc=>I.gs c (s c hc),y⟩;have z:=I.cel k fp c h1 h2
 cases c with
 | live xs=>obtain⟨a,ws,e0,g1,g2⟩:=z;exact⟨a,ws,e0,g1,g2.imp λy x q=>aR.same sm q⟩
 | froz ds=>obtain⟨a,e0,g0⟩:=z;exact⟨a,e0,aR.same sm g0⟩
 | deep xs =>
  obtain⟨a,ws,e0,g1,g2⟩:=z;refine⟨a,ws,e0,g1,g2.imp λy x q=>?_⟩
  cases x with
  | dat d=>exact aR.same sm q
  | ref j=>exact q
 | obj o=>exact⟨z.1,o.keep _ _ _ _ _ _ z.2 (λc hc=>I.w8 hc) (λ_ _ _ e=>e) sm⟩
theorem AQ:N6 J N5:=λH0 A0 G al H st Q R D gB H2 vs ys I hD k q I2 E2 g P=>by
 have sub:∀c,Fb G gB st c->Fb (λc=>G c∨c=D) gB st c:=λc z=>by
  rcases z with z | z
  ·exact .inl (.inl z)
  ·exact .inr z
 have nD:¬ Fb G gB st D:=λz=>by
  rcases z with z | z
  ·exact I.Ry hD (.inl z)
  ·exact I2.gd D z.mem (.inr rfl)
 exact k (.dat (.list ys)) st gB _ H2 E2 (I2.less (λc z=>.inl z) I.lk) (.d (aS.lst nD g (P.imp λy x z=>aS.sub z sub))) q
@[reducible] def X7:Nat->List Nat->xa->wV->DT->DX->DX:=Ge N5
theorem RW{fin:List PyData->aO->DC->Prop}(hf:N6 (kf X Y) fin)
  {elt iter:Expr} {ifs:List Expr} {g:TG} {di:xa} {dg:wV} {dt:DT} {de:DX} (own:Nat) (N:List Str) (ix:List Nat) (B:qu X own N ix scope) (hi:TY X Y tg iter di)
  (hg:∀(C:Addr) (fp:List Addr) (s:Shared) (H:Hp),PG (X.qt N scope C fp s H) tg g) (ag:AG (kf X Y) g dg) (gb:GB own g)
  (hin:∀(C:Addr) (fp:List Addr) (s:Shared) (H:Hp),Vd (X.qt N scope C fp s H) Y ifs dt/\cv (X.qt N scope C fp s H) Y elt de)
  (hs:∀x,foldedSetIterable iter X.env x=pure x:=by intro _;rfl):cv X Y (.ListComp elt [⟨tg,iter,ifs,0⟩] scope pos) (Ge fin own ix di dg dt de):=by
 obtain⟨wi,p1,a1⟩:=hi.h;exact⟨_,EL own N ix B p1 (λC fp s H=>⟨hg C fp s H,(hin C fp s H).1.h,(hin C fp s H).2.pe⟩) hs,QA hf a1 ag gb⟩
theorem QB{elt iter:Expr}{ifs:List Expr}{g:TG}{di:xa}{dg:wV}{dt:DT}{de:DX}(own:Nat)(N:List Str)(ix:List Nat)(B:qu X own N ix scope)(hi:TY X Y tg iter di)
  (hg:∀(C:Addr) (fp:List Addr) (s:Shared) (H:Hp),PG (X.qt N scope C fp s H) tg g) (ag:AG (kf X Y) g dg) (gb:GB own g)
  (hin:∀(C:Addr) (fp:List Addr) (s:Shared) (H:Hp),Vd (X.qt N scope C fp s H) Y ifs dt/\cv (X.qt N scope C fp s H) Y elt de)
  (hs:∀x,foldedSetIterable iter X.env x=pure x:=by intro _;rfl):cv X Y (.ListComp elt [⟨tg,iter,ifs,0⟩] scope pos) (X7 own ix di dg dt de):=RW AQ own N ix B hi hg ag gb hin hs
structure dw where
 nx:cc->aO->Prop
 rt:DC
 bk:cc->aO->Prop:=λ_ _=>False
 ct:cc->aO->Prop:=λ_ _=>False
abbrev DS:=dw->cc->aO->Prop
structure y8(J:KF)(H0:Hp)(A0:Addr->Prop)(G:Addr->Prop)(al:List (List Addr))(H:Hp)(st:aO)(DD:dw)(D:Ends):Prop where
 nx:Qz J H0 A0 G al H st DD.nx D.nx
 rt:Kn J H0 A0 G al H st DD.rt D.rt
 bk:Qz J H0 A0 G al H st DD.bk D.bk
 ct:Qz J H0 A0 G al H st DD.ct D.ct
theorem y8.go{H0:Hp}{A0:Addr->Prop}{G:Addr->Prop}{al bF:List (List Addr)}{H H1:Hp}{st aH:aO}{DD:dw}{D:Ends}(k:y8 J H0 A0 G al H st DD D)(I:DI J H0 A0 G bF H1 aH)(e:Ext al H st bF H1 aH):y8 J H0 A0 G bF H1 aH DD D:=⟨k.nx.go I e,k.rt.go I e,k.bk.go I e,k.ct.go I e⟩
def AS(J:KF)(t:TS)(s:DS):Prop:=∀(H0:Hp) (A0:Addr->Prop) (G:Addr->Prop) (al:List (List Addr)) (H:Hp) (st:aO) (σ:St) (env:cc) (DD:dw) (D:Ends),DI J H0 A0 G al H st->ph J (Fb G al st) H al σ env->s DD env st->y8 J H0 A0 G al H st DD D->t D σ H
structure Js(X:Cx)(Y:YK)(stm:Stmt)(s:DS):Prop where
 h:∃t,PS X stm t/\AS (kf X Y) t s
structure vC(X:Cx)(Y:YK)(stms:List Stmt)(s:DS):Prop where
 h:∃t,sQ X stms t/\AS (kf X Y) t s
@[reducible] def E8(DD:dw)(env:cc)(st:aO):Prop:=DD.nx env st
@[reducible] def N7(s u:DS)(DD:dw)(env:cc)(st:aO):Prop:=s {DD with nx:=u DD} env st
@[reducible] def RX(e:DX)(DD:dw)(env:cc)(st:aO):Prop:=e env st DD.rt
@[reducible] def WS(c:DT)(s u:DS)(DD:dw)(env:cc)(st:aO):Prop:=c env st λb aH=>if b=true then s DD env aH else u DD env aH
@[reducible] def Gf(e:DX)(g:wV)(DD:dw)(env:cc)(st:aO):Prop:=e env st λdv aH=>g dv env aH DD.nx
def QC(g:wV)(s:DS)(DD:dw)(xs:List PyData)(ok:aO->Prop)(env:cc)(st:aO):Prop:=∃W:Nat->cc->aO->Prop,W 0 env st/\∀i env st,i<=xs.length->W i env st->ok st/\(i=xs.length->DD.nx env st)/\∀d,xs[i]?=some d->g (.dat d) env st λenv' st'=>s {DD with nx:=W (i + 1),ct:=W (i + 1),bk:=DD.nx} env' st'
@[reducible] def RY(di:xa)(g:wV)(s:DS)(DD:dw)(env:cc)(st:aO):Prop:=di env st λxs ok aH=>QC g s DD xs ok env aH
theorem N8{g:wV}{s:DS}{DD:dw}{xs:List PyData}{ok:aO->Prop}{env:cc}{st:aO}(W:Nat->cc->aO->Prop)(h0:W 0 env st)(hok:∀i env st,W i env st->ok st)
  (hs:∀i env st d,xs[i]?=some d->W i env st->g (.dat d) env st λenv' st'=>s {DD with nx:=W (i + 1),ct:=W (i + 1),bk:=DD.nx} env' st') (hd:∀env st,W xs.length env st->DD.nx env st):QC g s DD xs ok env st :=
 ⟨W,h0,λi env st _ w=>⟨hok i env st w,λe=>hd env st (e ▸ w),λd h=>hs i env st d h w⟩⟩
variable {stm:Stmt} {stms rest:List Stmt} {s u:DS}
theorem N9:AS J gj E8:=λH0 A0 G al H st σ env DD D I E h k=>k.nx env st al σ H .refl I E h
theorem Jt{t r:TS}(h1:AS J t s)(h2:AS J r u):AS J (M6 t r) (N7 s u):=λH0 A0 G al H st σ env DD D I E h k=>h1 H0 A0 G al H st σ env _ _ I E h ⟨λenv' st' al' σ' H' e' I' E' q'=>h2 H0 A0 G al' H' st' σ' env' DD D I' E' q' (k.go I' e'),k.rt,k.bk,k.ct⟩
theorem cT:vC X Y [] E8:=⟨_,bc,N9⟩
theorem Ju(h1:Js X Y stm s)(h2:vC X Y rest u):vC X Y (stm::rest) (N7 s u):=by
 obtain⟨t,p1,a1⟩:=h1.h;obtain⟨r,p2,a2⟩:=h2.h;exact⟨_,qK p1 p2,Jt a1 a2⟩
theorem bw(h1:Js X Y stm s):vC X Y [stm] s:=by
 obtain⟨t,p1,a1⟩:=h1.h;exact⟨_,qO p1,a1⟩
theorem cI(he:cv X Y e ea):Js X Y (.Return (some e) pos) (RX ea):=by
 obtain⟨t,p1,a1⟩:=he.h;exact⟨_,aI p1,λH0 A0 G al H st σ env DD D I E h k=>a1 H0 A0 G al H st σ env _ _ I E h k.rt⟩
theorem gL{c:Expr}{tc:DT}{x y:List Stmt}(hc:xW X Y c tc)(ha:vC X Y x s)(hb:vC X Y y u):Js X Y (.If c x y pos) (WS tc s u):=by
 obtain⟨t,p1,a1⟩:=hc.h;obtain⟨r,p2,a2⟩:=ha.h;obtain⟨w,p3,a3⟩:=hb.h;refine⟨_,br p1 p2 p3,λH0 A0 G al H st σ env DD D I E h k=>a1 H0 A0 G al H st σ env _ _ I E h λb aH bF H1 e1 I1 q1=>?_⟩
 cases b with
 | true=>exact dY (a2 H0 A0 G bF H1 aH σ env DD D I1 (E.ext e1) (by rw[aa7 rfl]at q1;exact q1) (k.go I1 e1))
 | false=>exact cu (a3 H0 A0 G bF H1 aH σ env DD D I1 (E.ext e1) (by rw[aa4 aac]at q1;exact q1) (k.go I1 e1))
theorem C6{t:TE}{g:TG}{dg:wV}(h1:AE J t ea)(h2:AG J g dg):AS J (M7 t g) (Gf ea dg):=λH0 A0 G al H st σ env DD D I E h k=>h1 H0 A0 G al H st σ env _ _ I E h λdv aH bF v H1 e1 I1 d1 q1=>h2 H0 A0 G bF H1 aH σ env v dv _ _ I1 (E.ext e1) d1 q1 (k.nx.go I1 e1)
theorem bV{i:Nat}{x:Str}{pos':Pos}(hN:X.N.Nodup)(hi:X.N[i]?=some x)(hx:Loc X.env.scope x)(he:cv X Y e ea)(hs:swapsWith e (some (.Name x pos')) pos.line X.env=pure false:=by rfl)(hf:X.fn x=true∨X.env.scope.names.lookup x=some .local:=by first | exact .inl rfl | exact .inr rfl | assumption):Js X Y (.Assign [.Name x pos'] e pos) (Gf ea (gN i)):=by
 obtain⟨t,p1,a1⟩:=he.h;exact⟨_,bB hN hi hx p1 hs hf,C6 a1 y6⟩
theorem RZ{g:wV}(he:cv X Y e ea)(hg:Vc X Y tg g)(hs:swapsWithSole [tg] e pos.line X.env=pure false:=by rfl)(hw:swappedStores [tg] e X.env=pure none:=by rfl)(h1:(assignEach [tg] X.env).map (·.2)=[assign tg X.env]:=by rfl):Js X Y (.Assign [tg] e pos) (Gf ea g):=by
 obtain⟨t,p1,a1⟩:=he.h;obtain⟨gg,p2,a2⟩:=hg.h;exact⟨_,HQ p1 p2 hs hw h1,C6 a1 a2⟩
theorem oa{fin:List PyData->aO->DC->Prop}(hf:N6 (kf X Y) fin)
  {i:Nat} {x:Str} {pos' spos:Pos} (hN:X.N.Nodup) (hxi:X.N[i]?=some x) (hx:Loc X.env.scope x) {elt iter:Expr} {ifs:List Expr} {g:TG} {di:xa} {dg:wV} {dt:DT} {de:DX} (own:Nat) (N:List Str) (ix:List Nat) (B:qu X own N ix scope) (hi:TY X Y tg iter di)
  (hg:∀(C:Addr) (fp:List Addr) (s:Shared) (H:Hp),PG (X.qt N scope C fp s H) tg g) (ag:AG (kf X Y) g dg) (gb:GB own g)
  (hin:∀(C:Addr) (fp:List Addr) (s:Shared) (H:Hp),Vd (X.qt N scope C fp s H) Y ifs dt/\cv (X.qt N scope C fp s H) Y elt de)
  (hsw:swapsWith (.ListComp elt [⟨tg,iter,ifs,0⟩] scope pos) (some (.Name x pos')) spos.line X.env=pure true:=by rfl) (hs:∀x,foldedSetIterable iter X.env x=pure x:=by intro _;rfl)
  (hfn:X.fn x=true∨X.env.scope.names.lookup x=some .local:=by first | exact .inl rfl | exact .inr rfl):Js X Y (.Assign [.Name x pos'] (.ListComp elt [⟨tg,iter,ifs,0⟩] scope pos) spos) (Gf (Ge fin own ix di dg dt de) (gN i)):=by
 obtain⟨wi,p1,a1⟩:=hi.h;exact⟨_,qw hN hxi hx own N ix B p1 (λC fp s H=>⟨hg C fp s H,(hin C fp s H).1.h,(hin C fp s H).2.pe⟩) hsw hs hfn,C6 (QA hf a1 ag gb) y6⟩
theorem R0{iter:Expr}{body:List Stmt}{di:xa}{g:wV}(hp:PassesOwn (model X.prog X.w) X.A X.env X.xe)(hc:X.calm=true)(hi:TY X Y tg iter di)(hg:Vc X Y tg g)(hb:vC X Y body s)(hs:∀x,foldedSetIterable iter X.env x=pure x:=by intro _;rfl):Js X Y (.For tg iter body [] pos) (RY di g s):=by
 obtain⟨t,p1,a1⟩:=hi.h;obtain⟨gg,p2,a2⟩:=hg.h;obtain⟨r,p3,a3⟩:=hb.h;refine⟨_,uZ hp hc p1 p2 p3 hs,λH0 A0 G al H st σ env DD D I E h k=>a1 H0 A0 G al H st σ env _ _ I E h λJj xs ok aH bF H1 e1 I1 ir q1=>?_⟩;obtain⟨W,w0,step⟩:=q1;refine⟨λi m σ' H'=>(m=xs.length - i/\i<=xs.length)/\∃env' st' al',Ext bF H1 aH al' H' st'/\DI (kf X Y) H0 A0 G al' H' st'/\ph X.K (Fb G al' st') H' al' σ' env'/\W i env' st',⟨_,⟨rfl,abB _⟩,env,aH,bF,.refl,I1,E.ext e1,w0⟩,?_⟩;rintro i m σ2 H2 ⟨⟨em,hil⟩,kQ,cZ,gB,e2,I2,E2,w2⟩;obtain⟨hok,hnx,hst⟩:=step i kQ cZ hil w2;have IR:=ir G gB H2 cZ i (λc z=>.inl z) e2 I2 hok;have Qy:=e1.trans I1 e2;by_cases hx:i < xs.length
 ·obtain⟨d0,Ve⟩:∃d0,xs[i]?=some d0:=⟨xs[i],dN hx⟩;obtain⟨go,yl⟩:=IR.1 d0 Ve;refine .inr ⟨go,λσ' H'=>∃m',m' < m/\(m'=xs.length - (i + 1)/\i + 1<=xs.length)/\∃env' st' al',Ext bF H1 aH al' H' st'/\DI (kf X Y) H0 A0 G al' H' st'/\ph X.K (Fb G al' st') H' al' σ' env'/\W (i + 1) env' st',λσ' H' z=>z,λx H3 hy=>?_⟩;obtain⟨s3,r3⟩:=yl x H3 hy;have I3:=I2.same s3;have E23:Ext gB H2 cZ gB H3 cZ:=.same s3;refine a2 H0 A0 G gB H3 cZ σ2 kQ x (.dat d0) _ _ I3 (E2.ext E23) (.d r3) (hst d0 Ve) λX8 Am Vf σ4 H4 e4 I4 E4 q4=>?_
  have X9:=E23.trans I3 e4;have e14:=e2.trans I2 X9;refine a3 H0 A0 G Vf H4 Am σ4 X8 _ _ I4 E4 q4 ⟨?_,k.rt.go I4 (Qy.trans I2 X9),k.nx.go I4 (Qy.trans I2 X9),?_⟩
  ·intro env' st' al' σ' H' e' I' E' w';exact⟨xs.length - (i + 1),by omega,⟨rfl,hx⟩,env',st',al',e14.trans I4 e',I',E',w'⟩
  ·intro env' st' al' σ' H' e' I' E' w';exact⟨xs.length - (i + 1),by omega,⟨rfl,hx⟩,env',st',al',e14.trans I4 e',I',E',w'⟩
 ·have ei:i=xs.length:=by omega
  exact .inl ⟨IR.2 (by omega) (by omega),k.nx kQ cZ gB σ2 H2 Qy I2 E2 (hnx ei)⟩
def Gg(X:Cx)(Y:YK)(body:List Stmt)(DD:dw)(env:cc)(st:aO):Prop:=∃s,vC X Y body s/\s DD env st
theorem aK{DD:dw}{env:cc}{st:aO}(h:Js X Y stm s)(k:∀R:cc->aO->Prop,(∀env' st',Gg X Y rest DD env' st'->R env' st')->s {DD with nx:=R} env st):Gg X Y (stm::rest) DD env st:=by
 obtain⟨t,p1,a1⟩:=h.h;refine⟨N7 s (λDD env st=>Gg X Y rest DD env st),⟨M6 t (λD σ H=>∃r,sQ X rest r/\r D σ H),qK p1 (λpins s σ H D I ⟨_,hu,q⟩=>hu pins s σ H D I q),Jt a1 λH0 A0 G al H st σ env DD D I E h k=>?_⟩,k _ λ_ _ z=>z⟩;obtain⟨s2,⟨r,p2,a2⟩,q⟩:=h;exact⟨r,p2,a2 H0 A0 G al H st σ env DD D I E q k⟩
theorem jI{DD:dw}{env:cc}{st:aO}(h:Js X Y stm s)(k:s DD env st):Gg X Y [stm] DD env st:=⟨s,bw h,k⟩
theorem Gh{N:List Str}{body:List Stmt}{vs:List V}{ds:List PyData}{H:Hp}{Q:VK}{P:Addr->Prop}(hP:∀c,P c->∃o,H c=some o/\pd o)(hv:dC (aS X.K P H) vs ds)(hy:Y.Y H (λ_=>False) P)
  (h:Gg X Y body {nx:=λ_ _=>∀v H',aA H H'->aS X.K P H' v .none->Q v H',rt:=λdv st=>rK dv st λd _=>∀v H',aA H H'->aS X.K P H' v d->Q v H'} (ds.map (λd=>some (DV.dat d))++List.replicate (N.length - ds.length) none) []) :
  ∃t,sQ X body t/\t {nx:=λ_ H'=>Q .non H',rt:=Q} (start N vs) H:=by
 obtain⟨s,⟨t,p1,a1⟩,q⟩:=h;have lv:∀c,¬ Lv [] [] c:=λc ⟨k,xs,ce,h,_⟩=>by simp at h
 have I:DI (kf X Y) H (λ_=>False) P [] H []:=⟨rfl,List.nodup_nil,λ_ h=>by simp at h,λk a c h=>by simp at h,λc o _ e=>e,λ_ h=>by simp at h,λ_ h=>by simp at h,hP,hy⟩
 have fb:∀c,Fb P [] [] c->P c:=λc z=>by
  rcases z with z | z
  ·exact z
  ·exact absurd z (lv c)
 refine⟨t,p1,a1 H (λ_=>False) P [] H [] _ _ _ _ I ⟨by unfold start;simp[hv.1],λi dv hi=>?_⟩ q ⟨λenv' st' al' σ' H' e' I' E' q'=>?_,λdv st' al' v H' e' I' d' q'=>?_,λenv' st' al' σ' H' e' I' E' q'=>q'.elim,λenv' st' al' σ' H' e' I' E' q'=>q'.elim⟩⟩
 ·by_cases l:i < ds.length
  ·rw[List.getElem?_append_left (by simpa using l),List.getElem?_map,dN l]at hi;cases hi;obtain⟨y,hy,hr⟩:=hv.at (dN l);refine⟨y,?_,.d (aS.sub hr fb)⟩;unfold start;rw[List.getElem?_append_left (by rw[List.length_map,hv.1];exact l),List.getElem?_map,hy];rfl
  ·rw[List.getElem?_append_right (by simp;omega)]at hi;rw[List.getElem?_replicate]at hi;split at hi
   ·cases hi
   ·cases hi
 ·exact q' .non H' (λc o e=>I'.fr c o id e) .non
 ·obtain⟨d,cZ,_,I2,F,q2⟩:=yY I' d' q';exact q2 v H' (λc o e=>I'.fr c o id e) (aS.sub F λc z=>.inl z)
theorem gM{N:List Str}{body:List Stmt}{vs:List V}{ds:List PyData}{H:Hp}{Q:VK}{P:Addr->Prop}(hP:∀c,P c->∃o,H c=some o/\pd o)(hv:dC (aS X.K P H) vs ds)
  (h:Gg X y0 body {nx:=λ_ _=>∀v H',aA H H'->aS X.K P H' v .none->Q v H',rt:=λdv st=>rK dv st λd _=>∀v H',aA H H'->aS X.K P H' v d->Q v H'} (ds.map (λd=>some (DV.dat d))++List.replicate (N.length - ds.length) none) []) :
  ∃t,sQ X body t/\t {nx:=λ_ H'=>Q .non H',rt:=Q} (start N vs) H:=Gh hP hv trivial h
end
@[reducible] def tyD:DV->String
 | .dat .none=>"NoneType"
 | .dat (.bool _)=>"bool"
 | .dat (.int _)=>"int"
 | .dat (.str _)=>"str"
 | .dat (.list _)=>"list"
 | .dat (.tuple _)=>"tuple"
 | .dat (.dict _)=>"dict"
 | .ref _=>"list"
@[reducible] def y9(o1 o2:NN)(ea eb ec:DX)(env:cc)(st:aO)(Q:DC):Prop:=ea env st λx aH=>eb env aH λy cZ=>o1 x y cZ λz rN=>match z with
 | .dat (.bool b)=>if b=true then ec env rN λw Am=>o2 y w Am Q else Q (.dat (.bool false)) rN
 | _=>False
theorem Jv{J:KF}{r r':R2}{o1 o2:NN}{ta tb tc:TE}{ea eb ec:DX}(h1:AO J r o1)(h2:AO J r' o2)(ha:AE J ta ea)(hb:AE J tb eb)(hc:AE J tc ec):AE J (Ib r r' ta tb tc) (y9 o1 o2 ea eb ec):=λH0 A0 G al H st s env Q R I E q k=>by
 refine ha H0 A0 G al H st s env _ _ I E q λx aH bF v H1 e1 I1 d1 q1=>?_
 refine hb H0 A0 G bF H1 aH s env _ _ I1 (E.ext e1) q1 λy cZ gB u H2 e2 I2 d2 q2=>?_
 have Qy:=e1.trans I1 e2;refine h1 H0 A0 G gB H2 cZ v u x y _ _ I2 (d1.ext e2) d2 q2 λz rN Vb w H3 e3 I3 d3 q3=>?_
 have Yb:=Qy.trans I2 e3;split at q3
 ·rename_i b;rw[aS.xV d3];refine⟨_,rfl,?_⟩
  cases b with
  | false=>exact cu ((k.go I3 Yb).here I3 (.d (.bl _)) (by rw[aa4 aac]at q3;exact q3))
  | true =>
   rw[aa7 rfl]at q3;refine dY (hc H0 A0 G Vb H3 rN s env _ _ I3 (E.ext Yb) q3 λw Am Vf u4 H4 e4 I4 d4 q4=>?_);exact h2 H0 A0 G Vf H4 Am u u4 y w Q R I4 ((d2.ext e3).ext e4) d4 q4 (k.go I4 (Yb.trans I3 e4))
 ·exact q3.elim
theorem Jw{X:Cx}{Y:YK}{a b c:Expr}{ea eb ec:DX}{pos:Pos}{op op':CmpOp}{r r':R2}{o1 o2:NN}(ho:iE X (compareOp op) r)(ho':iE X (compareOp op') r')(h1:AO (kf X Y) r o1)(h2:AO (kf X Y) r' o2)(ha:cv X Y a ea)(hb:cv X Y b eb)(hc:cv X Y c ec)
  (hm:lastMarks [op,op'] [b,c]=false:=by with_unfolding_all rfl):xW X Y (.Compare a [op,op'] [b,c] pos) (Jc (y9 o1 o2 ea eb ec)):=by
 obtain⟨ta,p1,a1⟩:=ha.h;obtain⟨tb,p2,a2⟩:=hb.h;obtain⟨tc,p3,a3⟩:=hc.h;exact⟨_,vd ho ho' p1 p2 p3 hm,C2 (Jv h1 h2 a1 a2 a3)⟩
theorem kZ{c:Prop}[Decidable c]{A B:Prop}(h1:c->A)(h2:¬ c->B):if decide c=true then A else B:=by
 by_cases e:c
 ·rw[aa7 (abh e)];exact h1 e
 ·rw[aa4 (λz=>e (abo z))];exact h2 e
theorem Jx{α:Type}{xs:List α}{j:Nat}{x:α}(h:xs[j]?=some x):um xs (j:Int)=some x:=by
 have hl:=(dD h).1;unfold um Hw;rw[if_pos (by omega),if_pos (by omega)];show xs[((j:Nat):Int).toNat]?=some x;rw[Int.toNat_natCast];exact h
theorem AR{K:ay}{P:Addr->Prop}{H:Hp}{ns:List Int}:dC (aS K P H) (ns.map V.int) (ns.map PyData.int):=⟨by simp,λi y x hy hx=>by
 rw[aa1]at hy hx
 cases q:ns[i]? with
 | none=>rw[q]at hy;cases hy
 | some n=>rw[q]at hy hx;cases hy;cases hx;exact .int _⟩
theorem uJ{α β:Type}{f:α->β}{l:List α}{j:Nat}{a:α}(h:l[j]?=some a):um (l.map f) (j:Int)=some (f a):=Jx (by rw[aa1,h];rfl)
@[reducible] def R1(n:Nat)(ea:DX)(env:cc)(st:aO)(Q:DC):Prop:=ea env st λx aH=>match qz aH x with
 | some ds=>match ds[n]? with
  | some d=>Q (.dat d) aH
  | none=>False
 | none=>False
theorem gO{X:Cx}{Y:YK}{a:Expr}{ea:DX}{pos p:Pos}{n:Nat}{j}(ha:cv X Y a ea)(hs:yH (.Constant (.int (n:Int)) j p):=by exact λ_ _=>rfl):cv X Y (.Subscript a (.Constant (.int (n:Int)) j p) pos) (R1 n ea):=by
 obtain⟨ta,p1,a1⟩:=ha.h;refine⟨_,aC Ih p1 pI hs,λH0 A0 G al H st s env Q R I E q k=>a1 H0 A0 G al H st s env _ _ I E q λx aH bF v H1 e1 I1 d1 q1=>?_⟩;split at q1
 ·rename_i ds e;split at q1
  ·rename_i d hd;obtain⟨b,ys,rfl,g1,g2⟩:=d1.U4 I1 e;obtain⟨z,g3,g4⟩:=g2.um (Jx hd);have kk:=(k.go I1 e1).here I1 (.d g4) q1;rcases g1 with g1 | g1
   ·exact .inl ⟨b,ys,_,z,rfl,rfl,g1,g3,kk⟩
   ·exact .inr (.inl ⟨b,ys,_,z,rfl,rfl,g1,g3,kk⟩)
  ·exact q1.elim
 ·exact q1.elim
abbrev Yc:=Nat->aO->DC->Prop
def AM(J:KF)(C:Addr)(m:Str)(sp:Sp)(op:Yc):Prop:=∀(H0:Hp) (A0:Addr->Prop) (G:Addr->Prop) (al:List (List Addr)) (H:Hp) (st:aO) (k:Nat) (a:Addr) (r:List Addr) (Q:DC) (R:VK),DI J H0 A0 G al H st->al[k]?=some (a::r)->op k st Q->Kn J H0 A0 G al H st Q R->∃dx fs,H a=some (.ins C dx fs)/\fs.lookup m=none/\sp [.ref a] H R E0
structure Sh(n:Nat)(d:PyData):Prop where
 cl:d.canLay0=true
 dp:d.depth<=n
theorem R3{n:Nat}:Sh n .none:=⟨rfl,abB _⟩
theorem lh{n:Nat}{i:Int}:Sh n (.int i):=⟨rfl,abB _⟩
theorem rT{n:Nat}{x:Str}(h:PyData.canLay0 (.str x)=true:=by decide +kernel):Sh n (.str x):=⟨h,abB _⟩
theorem vD{n:Nat}:∀{ds:List PyData},(∀d∈ds,Sh n d)->PyData.canLayAll0 ds=true/\PyData.depthAll ds<=n
 | [],_=>⟨rfl,abB _⟩
 | d::r,h=>by
  obtain⟨h1,h2⟩:=vD (ds:=r) λx hx=>h x (abN _ hx)
  have hd:=h d abD;refine⟨?_,?_⟩
  ·show(PyData.canLay0 d&&PyData.canLayAll0 r)=true;rw[hd.cl,h1];rfl
  ·show max (PyData.depth d) (PyData.depthAll r)<=n;exact Nat.max_le.mpr ⟨hd.dp,h2⟩
theorem za{n:Nat}{ds:List PyData}(h:∀d∈ds,Sh n d):Sh (n + 1) (.list ds):=⟨(vD h).1,Nat.succ_le_succ (vD h).2⟩
theorem iS{n:Nat}{ds:List PyData}(h:∀d∈ds,Sh n d):Sh (n + 1) (.tuple ds):=⟨(vD h).1,Nat.succ_le_succ (vD h).2⟩
theorem gP{n:Nat}:∀d∈([]:List PyData),Sh n d:=λ_ h=>nomatch h
theorem bH{n:Nat}{x:PyData}{ds:List PyData}(h:Sh n x)(r:∀d∈ds,Sh n d):∀d∈x::ds,Sh n d:=λd hd=>by
 rcases abH.mp hd with z | z
 ·rw[z];exact h
 ·exact r d z
theorem Jy{α:Type}{n:Nat}{f:α->PyData}{l:List α}(h:∀a∈l,Sh n (f a)):∀d∈l.map f,Sh n d:=λd hd=>by
 obtain⟨a,ha,rfl⟩:=acJ.mp hd;exact h a ha
theorem Sh.ok{n:Nat}{d:PyData}(h:Sh n d)(l:n<=64:=by decide):PySem.SeqAt.shaped d=true:=by
 show(d.canLay0&&decide (d.depth<=64))=true;rw[h.cl,abh (abj h.dp l)];rfl
theorem Sh.self{n:Nat}{d:PyData}(h:Sh n d):PyData.eqv d d=true:=PySem.SeqAt.eqv_refl _ h.cl
def sub{α:Type}:List Nat->List α->List α
 | [],_=>[]
 | k::ks,xs=>match xs[k]? with
  | some x=>x::sub ks xs
  | none=>sub ks xs
def Yd{α:Type}:List Nat->List α->List α->List α
 | k::ks,y::ys,xs=>Yd ks ys (xs.set k y)
 | _,_,xs=>xs
def Ce.nd:Ce->Prop
 | .deep _=>False
 | _=>True
section
variable {K:ay} {J:KF} {H0 H H1:Hp} {A0 G:Addr->Prop} {al bF:List (List Addr)} {st aH:aO} {ks:List Nat}
end
abbrev Gi:=List (Str×PyData)
def Vg(K:ay)(P:Addr->Prop)(H:Hp)(dd:Option Addr)(fs:Gi):Prop:=fs=[]∨∃dx vs,dd=some dx/\H dx=some (.ext (XD dx vs))/\¬ P dx/\vs.map (·.1)=fs.map (·.1)/\dC (aS K P H) (vs.map (·.2)) (fs.map (·.2))
abbrev TZ:=List PyData->(PyData->Prop)->(Addr->Gi->Prop)->Prop
def R4(K:ay)(sp:Sp)(T:TZ):Prop:=∀(vs:List V) (H:Hp) (Q:VK) (E:XK) (P:Addr->Prop) (ds:List PyData),(∀c,P c->∃o,H c=some o/\pd o)->dC (aS K P H) vs ds->T ds (λd=>∀v H',aA H H'->aS K P H' v d->Q v H') (λC fs=>∀dd H',aA H H'->Vg K P H' dd fs->E (.ref C) dd H')->sp vs H Q E
def Jz(T:TZ):Prop:=∀ds (Q Q':PyData->Prop) (X X':Addr->Gi->Prop),(∀d,Q d->Q' d)->(∀C fs,X C fs->X' C fs)->T ds Q X->T ds Q' X'
section
variable {K:ay} {E:XK} {P0:Addr->Prop} {Ex:Addr->Gi->Prop}
end
section
variable {X:Cx} {a b c e:Expr} {es:List Expr} {pos p:Pos} {n:Nat} {d:uI} {x:Str} {E:XK} {P0:Addr->Prop} {Ex:Addr->Gi->Prop}
end
def Oa(C:Addr)(fs:Gi):Ob where
 lies K P H fp:=∃a dd,fp=[a]/\H a=some (.ext (Ru C a dd))/\Vg K P H dd fs
 keep K P H fp P' H' h hP kp s:=by
  obtain⟨a,dd,rfl,h1,h2⟩:=h;refine⟨a,dd,rfl,kp a abD _ h1,?_⟩;rcases h2 with h | ⟨dx,vs,g1,g2,g3,g4,g5⟩
  ·exact .inl h
  ·obtain⟨n',q'⟩:=aY.mp (s dx _ (aY.mpr ⟨g3,g2⟩));exact .inr ⟨dx,vs,g1,q',n',g4,g5.imp λy x z=>aR.same s z⟩
 mu K P H fp h:=by
  obtain⟨a,dd,rfl,h1,_⟩:=h;intro b hb;rw[cj hb];exact⟨_,h1,.inr (.inr ⟨_,rfl⟩)⟩
section
variable {X:Cx} {CW:Addr} {cx n:Str} {i:Nat} {b₀:Stmt} {suite:List Stmt} {np hpos pos:Pos} {tb:TS}
def Vh(K:ay)(CW:Addr)(i j:Nat)(sp:Sp)(t:TA)(tb:TS):TS:=λD σ H=>t σ H λvs H1=>sp (vs++[]) H1 (λv H2=>D.nx (σ.set j (some v)) H2) (As K CW i tb D σ)
end
@[reducible] def AU(K:ay)(CW:Addr)(i:Nat)(s:DS)(DD:dw)(env:cc)(st:aO)(C:Addr)(fs:Gi):Prop:=PySem.W.mroIn K C (.ref CW)=some true/\s {nx:=λenv' st'=>DD.nx (env'.set i none) st',rt:=DD.rt,bk:=λenv' st'=>DD.bk (env'.set i none) st',ct:=λenv' st'=>DD.ct (env'.set i none) st'} (env.set i (some (.ref st.length))) (st++[.obj (Oa C fs)])
@[reducible] def JA(K:ay)(CW:Addr)(i j:Nat)(T:TZ)(d:uI)(s:DS)(DD:dw)(env:cc)(st:aO):Prop:=d env st λxs aH=>eT xs aH λds cZ=>T ds (λv=>DD.nx (env.set j (some (.dat v))) cZ) (AU K CW i s DD env cZ)
section
variable {J:KF} {H0:Hp} {A0:Addr->Prop} {G:Addr->Prop} {al bF:List (List Addr)} {H H1:Hp} {st aH:aO}
theorem ph.R5{K:ay}{P:Addr->Prop}{s:St}{env:cc}(h:ph K P H al s env)(i:Nat):ph K P H al (s.set i none) (env.set i none):=by
 refine⟨by rw[abF,abF];exact h.1,λj u hu=>?_⟩;rw[acy]at hu;by_cases hj:i=j
 ·subst hj;rw[aa7 rfl]at hu;split at hu
  ·cases hu
  ·cases hu
 ·rw[aa4 hj]at hu;obtain⟨w,h1,h2⟩:=h.2 j u hu;exact⟨w,by rw[aby hj];exact h1,h2⟩
theorem DI.jJ(I:DI J H0 A0 G al H st){H2:Hp}(s:aA H H2){a C:Addr}{dd:Option Addr}{fs:Gi}(h:H2 a=none)(x:Vg J (Fb G al st) H2 dd fs):Ext al H st (al++[[a]]) (upd H2 a (.ext (Ru C a dd))) (st++[.obj (Oa C fs)])/\DI J H0 A0 G (al++[[a]]) (upd H2 a (.ext (Ru C a dd))) (st++[.obj (Oa C fs)]):=by
 have s2:aA H (upd H2 a (.ext (Ru C a dd))):=s.trans (gn h);have ha:H a=none:=s.free h;refine I.more (c:=.obj (Oa C fs)) (λb hb=>by rw[cj hb];exact ha) (by simp) s2 (λb hb=>by rw[cj hb];exact⟨_,uS⟩) ⟨by simp,a,dd,rfl,uS,?_⟩;rcases x with x | ⟨dx,vs,g1,g2,g3,g4,g5⟩
 ·exact .inl x
 have hda:dx≠a:=λz=>by rw[z,h]at g2;cases g2
 have hb:∀c,Fb G (al++[[a]]) (st++[.obj (Oa C fs)]) c->Fb G al st c∨c=a:=λc z=>by
  rcases z with z | ⟨k,fp,ce,e1,e2,e3,e4⟩
  ·exact .inl (.inl z)
  ·by_cases hk:k < al.length
   ·rw[aaX hk]at e1;rw[aaX (by rw[← I.len];exact hk)]at e3;exact .inl (.inr ⟨k,fp,ce,e1,e2,e3,e4⟩)
   ·rw[aa3 (by omega)]at e1;rw[cj (abd e1)]at e2;exact .inr (cj e2)
 refine .inr ⟨dx,vs,g1,by rw[uN hda];exact g2,λz=>?_,g4,g5.imp λy x z=>aR.same (nZ λc o n e=>⟨λw=>?_,?_⟩) z⟩
 ·rcases hb dx z with w | w
  ·exact g3 w
  ·exact hda w
 ·rcases hb c w with w | w
  ·exact n w
  ·rw[w,h]at e;cases e
 ·rw[uN (nN e h)];exact e
theorem y8.hand{DD:dw}{D:Ends}(k:y8 J H0 A0 G al H st DD D)(i:Nat):y8 J H0 A0 G al H st {nx:=λenv' st'=>DD.nx (env'.set i none) st',rt:=DD.rt,bk:=λenv' st'=>DD.bk (env'.set i none) st',ct:=λenv' st'=>DD.ct (env'.set i none) st'} {nx:=λσ' H'=>D.nx (σ'.set i none) H',rt:=D.rt,bk:=λσ' H'=>D.bk (σ'.set i none) H',ct:=λσ' H'=>D.ct (σ'.set i none) H'} :=
 ⟨λenv' st' al' s' H' e I E q=>k.nx _ st' al' _ H' e I (E.R5 i) q,k.rt,λenv' st' al' s' H' e I E q=>k.bk _ st' al' _ H' e I (E.R5 i) q,λenv' st' al' s' H' e I E q=>k.ct _ st' al' _ H' e I (E.R5 i) q⟩
end
section
variable {X:Cx} {Y:YK} {CW:Addr} {cx n x:Str} {i:Nat} {b₀:Stmt} {suite:List Stmt} {np hpos pos:Pos} {s:DS} {nn:Nat} {d:uI} {e:Expr} {es:List Expr}
theorem E9{J:KF}{tb:TS}{H0:Hp}{A0:Addr->Prop}{G:Addr->Prop}{al:List (List Addr)}{H H2:Hp}{st:aO}{σ:St}{env:cc}{DD:dw}{D:Ends}{C:Addr}{fs:Gi}{dd:Option Addr}(hs:AS J tb s)(I:DI J H0 A0 G al H st)(En:ph J (Fb G al st) H al σ env)(k:y8 J H0 A0 G al H st DD D)(q:AU J CW i s DD env st C fs)(sm:aA H H2)(x:Vg J (Fb G al st) H2 dd fs):As J CW i tb D σ (.ref C) dd H2:=by
 refine⟨C,rfl,q.1,λa ha=>?_⟩;obtain⟨E1,I1⟩:=I.jJ (C:=C) sm ha x;refine hs H0 A0 G _ _ _ _ _ _ _ I1 ((En.ext E1).set ?_ i) q.2 ((k.go I1 E1).hand i);exact⟨a,[],by rw[← I.len,aa3 (aaZ _),abP];rfl,rfl⟩
@[reducible] def Oc(K:ay)(D:Value)(ea:DX)(env:cc)(st:aO)(Q:DC):Prop:=ea env st λx aH=>match x with
 | .ref k=>match aH[k]? with
  | some (.obj o)=>∃(C:Addr) (fs:Gi) (b:Bool),o=Oa C fs/\(KX K C/\PySem.W.hasDictIn K C=true)/\PySem.W.kitOne K (.ref C) D=some b/\Q (.dat (.bool b)) aH
  | _=>False
 | _=>False
theorem uK{a:Expr}{ea:DX}{p p2:Pos}{T:Str}{D:Addr}(hg:Gl X "isinstance")(hm:X.mg "isinstance"=none)(Ye:Gl X T)(Yg:X.mg T=some (.ref D))(ha:cv X Y a ea)(hd:(T == ("__debug__" : Str))=false:=by decide)
  (h1:starEach [a,.Name T p2] X.env=(false,eval a X.env)::starEach [.Name T p2] X.env:=by rfl):cv X Y (.Call (.Name "isinstance" p) [a,.Name T p2] [] pos) (Oc X.K (.ref D) ea):=by
 obtain⟨t,p1,a1⟩:=ha.h;refine⟨_,bL xS hg hm oB (pK p1 (pK (jA (v:=.ref D) Ye Yg rfl hd) pN rfl) h1) (by decide) (by decide) h1 rfl,λH0 A0 G al H st s env Q R I En q k=>a1 H0 A0 G al H st s env _ _ I En q λx aH bF v H1 e1 I1 d1 q1=>?_⟩
 cases x with
 | dat d=>exact q1.elim
 | ref j =>
  dsimp only at q1;split at q1
  ·rename_i o hs;obtain⟨C,fs,bb,rfl,⟨g1,g2⟩,hl,q⟩:=q1;obtain⟨b,r,h1,rfl⟩:=d1;obtain⟨_,a',dd,e0,ha',hx⟩:=I1.cel j _ _ h1 hs;cases e0;exact⟨b,C,.ref D,.ref D,bb,_,rfl,ha',λh p=>EO h p,g1,g2,rfl,hl,(k.go I1 e1).here I1 (.d (.bl _)) q⟩
  ·exact q1.elim
theorem Od{a:Expr}{ea:DX}{p p2:Pos}{T:Str}{n:String}(hg:Gl X "isinstance")(hm:X.mg "isinstance"=none)(Ye:Gl X T)(Yg:X.mg T=none)(hb:bootBuiltins T=some (.type n))(ha:cv X Y a ea)(hn:T≠"__name__":=by decide)(hd:(T == ("__debug__" : Str))=false:=by decide)
  (h1:starEach [a,.Name T p2] X.env=(false,eval a X.env)::starEach [.Name T p2] X.env:=by rfl):cv X Y (.Call (.Name "isinstance" p) [a,.Name T p2] [] pos) (Oc X.K (.type n) ea):=by
 obtain⟨t,p1,a1⟩:=ha.h;refine⟨_,bL xS hg hm oB (pK p1 (pK (M5 (v:=.ty n) Ye Yg hb rfl hn hd) pN rfl) h1) (by decide) (by decide) h1 rfl,λH0 A0 G al H st s env Q R I En q k=>a1 H0 A0 G al H st s env _ _ I En q λx aH bF v H1 e1 I1 d1 q1=>?_⟩
 cases x with
 | dat d=>exact q1.elim
 | ref j =>
  dsimp only at q1;split at q1
  ·rename_i o hs;obtain⟨C,fs,bb,rfl,⟨g1,g2⟩,hl,q⟩:=q1;obtain⟨b,r,h1,rfl⟩:=d1;obtain⟨_,a',dd,e0,ha',hx⟩:=I1.cel j _ _ h1 hs;cases e0;exact⟨b,C,.ty n,.type n,bb,_,rfl,ha',λh p=>EO h p,g1,g2,rfl,hl,(k.go I1 e1).here I1 (.d (.bl _)) q⟩
  ·exact q1.elim
def Vi(J:KF)(n:Nat)(d:uI):TA:=λs H R=>∃(H0:Hp) (A0:Addr->Prop) (G:Addr->Prop) (al:List (List Addr)) (st:aO) (env:cc) (Q:List DV->aO->Prop),DI J H0 A0 G al H st/\ph J (Fb G al st) H al s env/\d env st Q/\KnL J H0 A0 G al H st (λl s=>l.length=n/\Q l s) R
def Vj(J:KF)(s:DS):TS:=λD σ H=>∃(H0:Hp) (A0:Addr->Prop) (G:Addr->Prop) (al:List (List Addr)) (st:aO) (env:cc) (DD:dw),DI J H0 A0 G al H st/\ph J (Fb G al st) H al σ env/\s DD env st/\y8 J H0 A0 G al H st DD D
theorem Aw.pa(h:Aw X Y es nn d):PA X es (Vi (kf X Y) nn d):=by
 obtain⟨t,p1,a1⟩:=h.h;rintro w pins s σ H R I ⟨H0,A0,G,al,st,env,Q,h1,h2,h3,h4⟩;exact p1 w pins s σ H R I (a1 H0 A0 G al H st σ env Q R h1 h2 h3 h4)
theorem vC.pss{ss:List Stmt}(h:vC X Y ss s):sQ X ss (Vj (kf X Y) s):=by
 obtain⟨t,p1,a1⟩:=h.h;rintro pins s σ H D I ⟨H0,A0,G,al,st,env,DD,h1,h2,h3,h4⟩;exact p1 pins s σ H D I (a1 H0 A0 G al H st σ env DD D h1 h2 h3 h4)
theorem Fc(h:∀E,Aw (X.eU E) Y es nn d):∃t,(∀E,PA (X.eU E) es t)/\AA (kf X Y) t nn d :=
 ⟨Vi (kf X Y) nn d,λE=>(h E).pa,λH0 A0 G al H st s env Q R h1 h2 h3 h4=>⟨H0,A0,G,al,st,env,Q,h1,h2,h3,h4⟩⟩
theorem Fd{ss:List Stmt}(h:∀a E,vC (X.hand a E) Y ss s):∃tb,(∀a E,sQ (X.hand a E) ss tb)/\AS (kf X Y) tb s :=
 ⟨Vj (kf X Y) s,λa E=>(h a E).pss,λH0 A0 G al H st σ env DD D h1 h2 h3 h4=>⟨H0,A0,G,al,st,env,DD,h1,h2,h3,h4⟩⟩
end
section
variable {X:Cx} {Y:YK} {a b c e:Expr} {es:List Expr} {pos p:Pos} {ea eb ec:DX} {K:ay} {J:KF} {n:Nat} {d:uI}
def QD(K:ay):R2:=λx y H Q=>∃l k xs,x=.ref l/\y=.int k/\bg K H l xs/\-(2 ^ 63)<=k/\k < 2 ^ 63/\xs.length * k.toNat<=sizeLine /\
 ∀p,H p=none->Q (.ref p) (upd H p (.lst (List.replicate k.toNat xs).flatten))
theorem Gj(l:Addr)(items:Array Value)(n:Nat)(x:Int)(u:Tok)(sl:Array (Option Value))(hc0:¬(!Builtin.List.listFitsIndex x)=true)(hc1:¬items.size * x.toNat > (2 ^ 63 - 1) / 8)(Q3:¬Builtin.List.listTooLong (items.size * x.toNat)=true):
  Meets (Builtin.«list.__mul__» ⟨[.ref l,.int x u],[]⟩) (λ_ R s=>s.heap.get? l=some {cls:=.type "list",dict:=none,data:=.seq items n,slots:=sl}/\R (.ok (.ret (Value.ref s.heap.objs.size))) {s with heap:=s.heap.push {cls:=Value.type "list",data:=Data.seq (List.foldl (λx1 x2=>x1++x2) #[] (List.replicate (if items.isEmpty=true then 0 else x.toNat) items))},toks:=s.toks}) :=
 .of_wp λprog w A R s h=>by
  obtain⟨hp,g,d,tk,os⟩:=s;obtain⟨hl,h⟩:=h;have hsz:=AutoListH.joined_fits Q3
  wp_walk;refine acn (aa9 (Nat.not_lt.mpr hsz)) ?_;wp_walk;exact⟨_,rfl,h⟩
theorem Gk(a:Int)(t:Tok)(l:Addr)(items:Array Value)(n:Nat)(sl:Array (Option Value)):
  Meets (Builtin.«int.__rmul__» ⟨[.int a t,.ref l],[]⟩) (λ_ R s=>s.heap.get? l=some {cls:=.type "list",dict:=none,data:=.seq items n,slots:=sl}/\R (.ok (.ret Value.notImplemented)) s) :=
 .of_wp λprog w A R s h=>by obtain⟨hp,g,dd,tk,os⟩:=s;obtain⟨hl,h⟩:=h;wp_walk;exact⟨_,rfl,h⟩
theorem Oe:iE X (binaryOp .Mult) (QD X.K):=by
 intro pins s σ H x y v u Q I rx ry h;obtain⟨l,k,xs,rfl,rfl,hH,h1,h2,hz,q⟩:=h;cases rx;obtain⟨t,rfl⟩:=ry;obtain⟨its,r,⟨⟨c1,d1,a1,Iw⟩,n,e,rfl,rfl,rfl⟩,z⟩:=I.list hH;have hl:=r.length;have hlen:its.toArray.size * k.toNat<=sizeLine:=by rw[abe,← hl];exact hz
 have hcap:¬ its.toArray.size * k.toNat > (2 ^ 63 - 1) / 8:=by
  have:(sizeLine:Nat)<=(2 ^ 63 - 1) / 8:=by decide
  omega
 have hfit:¬ (!Builtin.List.listFitsIndex k)=true:=by
  rw[fitsIndex_both h1 h2];exact aac
 have hlong:¬ Builtin.List.listTooLong (its.toArray.size * k.toNat)=true:=by
  rw[vh hlen];exact aac
 have hnew:List.foldl (λx1 x2=>x1++x2) #[] (List.replicate (if its.toArray.isEmpty=true then 0 else k.toNat) its.toArray)=(List.replicate k.toNat its).flatten.toArray:=by
  have f0:∀m:Nat,List.foldl (λx1 x2=>x1++x2) #[] (List.replicate m its.toArray)=(List.replicate m its).flatten.toArray:=λm=>by
   have:=foldl_rep its m [];rw[acQ]at this;exact this
  rw[f0]
  cases its with
  | nil=>simp
  | cons a r'=>rw[if_neg (by simp)]
 refine ab4 (T:="list") (U:="int") (by decide) ⟨_,e,rfl⟩ (λs'=>ab8 s' k t) noFill_list_mul acR abX repeat_list acC.lookup
  (ab2 abX (ab8 s k t) acD (acv _ _) (Gk k t l its.toArray n Iw)
   ⟨e,rfl,⟨_,e,rfl⟩,ab2 F.slot_list_mul ⟨_,e,rfl⟩ F.entry_list_mul (F.args_list_mul_2 _ _) (Gj l its.toArray n k t Iw hfit hcap hlong) ⟨e,?_⟩⟩)
 rw[hnew];exact⟨.ref _,_,I.Ik (t':=s.toks) (r.rep k.toNat) (by rw[len_rep,Nat.mul_comm];exact hz),rfl,q _ I.fresh⟩
theorem dC.rep{α:Type}{R:V->α->Prop}{ys:List V}{xs:List α}(h:dC R ys xs):∀k:Nat,dC R (List.replicate k ys).flatten (List.replicate k xs).flatten
 | 0=>.nil
 | k + 1=>by
  rw[abm,abm,abz,abz];exact h.append (dC.rep h k)
@[reducible] def JB(x y:DV)(st:aO)(Q:DC):Prop:=match y with
 | .dat (.int k)=>match x with
  | .dat (.tuple i)=>i≠[]/\i.length * k.toNat<=1000000/\k < 9223372036854775808/\-9223372036854775808<=k/\Q (.dat (.tuple (List.replicate k.toNat i).flatten)) st
  | x=>match kJ st x with
   | some i=>i.length * k.toNat<=1000000/\k < 9223372036854775808/\-9223372036854775808<=k/\Q (.dat (.list (List.replicate k.toNat i).flatten)) st
   | none=>False
 | _=>False
theorem R6:AO J (λx y H Q=>QD J x y H Q∨Qp J x y H Q) JB:=λH0 A0 G al H st x y dx dy Q R I h1 h2 q k=>by
 unfold JB at q;split at q
 ·rename_i j;rw[aS.aQ h2];split at q
  ·obtain⟨a,ys,rfl,g1,_,g2⟩:=aS.cf h1;refine .inr ⟨a,ys,j,rfl,rfl,g1,λz=>q.1 ?_,q.2.2.2.1,q.2.2.1,by rw[g2.len];exact pk q.2.1,λp H' s hp=>k.laid I s (.d ?_) q.2.2.2.2⟩
   ·have:=g2.len;rw[z]at this;exact acN.mp this.symm
   ·have g:=(g2.rep j.toNat).imp λy x z=>z.same s
    exact aR.tup ((I.same s).yX hp) g.1 g.2
  ·split at q
   ·rename_i i e1;obtain⟨a,ys,rfl,g1,g2⟩:=h1.TX I e1;exact .inl ⟨a,j,ys,rfl,rfl,g1,q.2.2.1,q.2.1,by rw[g2.len];exact pk q.1,λp hp=>k.list I hp (g2.rep _) q.2.2.2⟩
   ·exact q.elim
 ·exact q.elim
theorem Fe(ha:cv X Y a ea)(hb:cv X Y b eb):cv X Y (.BinOp a .Mult b pos) (zZ JB ea eb):=Ay (pj Oe NK) R6 ha hb
end
section
variable {X:Cx} {CX:zY} {k:Nat} {f C:Addr} {fd:FuncData} {ps:List Str} {sp:Sp} {dvs:List V} {ds:List Value} {E:XK}
theorem Gm{pins:List (Addr×Obj)}{σ:St}{H:Hp}{s:Shared}{Q:VK}{us:List Value}{vs:List V}(M:Mk X.K C f)(F:bh X.prog X.w X.K X.mg X.base CX k f fd ps sp)(hr:cG (k + 1) X.A)(hb:Binds X.K fd ps ds)(hd:Vals dvs ds)
  (hx:∀H' s0 e s',Inv X pins σ H' s0->CX X.stack H' s0 E e s'->X.xe e s') (I:Inv X pins σ H s) (r:Vals vs us)
  (h:∀x dx,H x=none->H dx=none->dx≠x->sp (.ref x::(vs++dvs)) (upd (upd H dx (.own x)) x (.ins C dx [])) (λv H2=>v=.non/\Q (.ref x) H2) E) :
  wpAny (model X.prog X.w) X.A (call (.ref C) us) (EP X pins σ Q) X.xe s:=by
 have hq:=h (s.heap.objs.size + 1) s.heap.objs.size (I.hok.fresh (acS _)) (I.hok.fresh (aaZ _)) (aa5 (Nat.lt_succ_self _));have I2:=Inv.made (C:=C) I;have r2:Vals (V.ref (s.heap.objs.size + 1)::(vs++dvs)) (Value.ref (s.heap.objs.size + 1)::(us++ds)):=.cons rfl (r.append hd)
 have hl:(Value.ref (s.heap.objs.size + 1)::us++ds).length=ps.length:=by
  have e:=r2.length;rw[F.len _ _ _ _ hq]at e;exact e.symm
 refine ac5 (Ab (f:=f) I.uk M.makes M.init (beq_iff_eq.mp M.fn) (acm (F.run _ X.stack _ _ ⟨Value.ref (s.heap.objs.size + 1)::us,[]⟩ (Value.ref (s.heap.objs.size + 1)::(us++ds)) _ _ E (hr.make C us [])
  (I2.Nh.make C us []) (hb _ (Value.ref (s.heap.objs.size + 1)::us) I2.uk hl) r2 hq) λr s' hq'=>?_))
 cases r with
 | error e=>exact hx _ _ e s' I2 hq'
 | ok fl =>
  cases fl with
  | ret u =>
   obtain⟨v,H',I3,rv,ev,q3⟩:=I2.after hq';subst ev;exact⟨rv,⟨V.ref (s.heap.objs.size + 1),H',I3,rfl,q3⟩⟩
  | next=>exact False.elim hq'
  | brk=>exact False.elim hq'
  | cont=>exact False.elim hq'
end
def Mw(X:Cx)(cx n:Str)(np hpos:Pos)(b₀:Stmt)(suite:List Stmt)(pins:List (Addr×Obj))(D:Ends):Value->Shared->Prop:=λe s₁=>wpAny (model X.prog X.w) X.A (noteFrame e X.env) (λ_ s₂=>wpAny (model X.prog X.w) X.A (setFlight e none) (λ_ s₃=>wpAny (model X.prog X.w) X.A (handleBy e X.env [.ExceptHandler (some (.Name cx np)) (some n) (b₀::suite) hpos]) (SP X pins D) X.xe s₃) X.xe s₂) X.xe s₁
def QE(X:Cx)(cx n:Str)(np hpos:Pos)(b₀:Stmt)(suite:List Stmt)(body:List Stmt)(t:TS):Prop:=∀(pins:List (Addr×Obj)) (s:Shared) (σ:St) (H:Hp) (D:Ends),Inv X pins σ H s->t D σ H->wpAny (model X.prog X.w) X.A (execs body X.env) (SP X pins D) (Mw X cx n np hpos b₀ suite pins D) s
section
variable {X:Cx} {CW:Addr} {cx n:Str} {i:Nat} {b₀:Stmt} {suite:List Stmt} {np hpos pos:Pos} {tb:TS}
theorem Of{body:List Stmt}{t:TS}(h:QE X cx n np hpos b₀ suite body t):PS X (.Try body [.ExceptHandler (some (.Name cx np)) (some n) (b₀::suite) hpos] [] [] pos) t:=by
 intro pins s σ H D I hw;refine wpAny_Try_except ?_;refine abn (h pins s σ H D I hw) (λfl s1 h1=>?_) λ_ _ z=>z
 cases fl with
 | next=>exact abU h1
 | brk=>exact h1
 | cont=>exact h1
 | ret u=>exact h1
theorem zb{st:Stmt}{t:TS}(h:∀(pins:List (Addr×Obj)) (s:Shared) (σ:St) (H:Hp) (D:Ends),Inv X pins σ H s->t D σ H->wpAny (model X.prog X.w) X.A (exec st X.env) (SP X pins D) (Mw X cx n np hpos b₀ suite pins D) s):QE X cx n np hpos b₀ suite [st] t:=by
 intro pins s σ H D I hw;refine acA (cg (h pins s σ H D I hw) λfl s1 h1=>?_)
 cases fl with
 | next=>exact abU h1
 | brk=>exact h1
 | cont=>exact h1
 | ret u=>exact h1
theorem R7{c:Expr}{a b:List Stmt}{tc:TT}{t u:TS}{ipos:Pos}(hc:∀E,PT (X.eU E) c tc)(ha:QE X cx n np hpos b₀ suite a t)(hb:QE X cx n np hpos b₀ suite b u):QE X cx n np hpos b₀ suite [.If c a b ipos] (Uk tc t u):=by
 refine zb λpins s σ H D I hw=>?_
 refine wpAny_If (cg (hc (Mw X cx n np hpos b₀ suite pins D) pins s σ H _ (I.eU _) hw) λd s1 ⟨H1,I1,q1⟩=>?_)
 cases d with
 | true=>exact ha pins s1 σ H1 D I1.dX q1
 | false=>exact hb pins s1 σ H1 D I1.dX q1
theorem JC{j:Nat}{y:Str}{py:Pos}{x:Str}{k:Nat}{ps:List Str}{sp:Sp}{e:Expr}{es:List Expr}{t:TA}{p cpos epos:Pos}(h:c9 X.prog X.w X.K X.mg X.base (pb X.prog X.w) x k ps sp)(hr:cG k X.A)(hgf:Gl X x)(ha:∀E,PA (X.eU E) (e::es) t)
  (hg:Gl X cx) (hm:X.mg cx=some (.ref CW)) (q:PySem.W.ktsIn X.K CW "BaseException"=true) (hN:X.N.Nodup) (hi:X.N[i]?=some n) (hk:X.env.kindOf n=some .local) (hj:X.N[j]?=some y) (hy:Loc X.env.scope y) (hs:∀a E,sQ (X.hand a E) (b₀::suite) tb)
  (hst:X.stack=X.env::X.outer:=by rfl) (hf:X.env.frame=some X.env.locals:=by rfl) (hex:X.ex=[]:=by rfl) (hd:(cx == ("__debug__" : Str))=false:=by decide) (hdb:(x == ("__debug__" : Str))=false:=by decide)
  (he:starEach (e::es) X.env=(false,eval e X.env)::starEach es X.env:=by rfl) (hpl:(backTo cpos (starEach es X.env)).any (·.1)=false:=by rfl) (hsw:swapsWith (.Call (.Name x p) (e::es) [] cpos) (some (.Name y py)) epos.line X.env=pure false:=by rfl) (hfy:X.fn y=true∨X.env.scope.names.lookup y=some .local:=by first | exact .inl rfl | exact .inr rfl | assumption) :
  QE X cx n np hpos b₀ suite [.Assign [.Name y py] (.Call (.Name x p) (e::es) [] cpos) epos] (Vh X.K CW i j sp t tb):=by
 refine zb λpins s σ H D I hw=>?_
 obtain⟨f,fd,F,b,kp,m⟩:=h.ex
 have ev:wpAny (model X.prog X.w) X.A (eval (.Call (.Name x p) (e::es) [] cpos) X.env) (EP X pins σ λv H2=>D.nx (σ.set j (some v)) H2) (Mw X cx n np hpos b₀ suite pins D) s:=by
  refine abK (iF I hgf m ?_ hdb);refine abW (h₀:=X.base) I.ok.mod.kin kp (cg (ha (Mw X cx n np hpos b₀ suite pins D) cpos pins s σ H _ (I.eU _) hw) λus s1 ⟨vs,H1,I1,r,q1⟩=>⟨I1.uk,?_⟩) he hpl;have I1':=I1.dX;have hl:(us++[]).length=ps.length:=by rw[← (r.append (show Vals [] []from .nil)).length];exact F.len _ _ _ _ q1
  refine ac5 (acm (F.run X.A X.stack s1 H1 ⟨us,[]⟩ (us++[]) (vs++[]) _ _ hr I1'.Nh (b s1 us I1'.uk hl) (r.append .nil) q1) λr s' hq=>?_)
  cases r with
  | error e=>exact ER hst hf hg hm q hN hi hk hs hd hex I1' hq
  | ok fl =>
   cases fl with
   | ret u=>exact I1'.after hq
   | next=>exact False.elim hq
   | brk=>exact False.elim hq
   | cont=>exact False.elim hq
 exact acu (Q:=SP X pins D) (cg ev λv s1 ⟨x,H1,I1,r1,q1⟩=>qm I1 hN hj hy r1 (λs2 I2=>⟨_,H1,I2,q1⟩) hfy) hsw
def qM(C:Addr)(m:Str)(sm:Sp)(R:VK):VK:=λv H2=>∃a dx fs,v=.ref a/\H2 a=some (.ins C dx fs)/\fs.lookup m=none/\sm [.ref a] H2 R E0
def Vk(K:ay)(CW:Addr)(i j:Nat)(C:Addr)(m:Str)(sp sm:Sp)(t:TA)(tb:TS):TS:=λD σ H=>t σ H λvs H1=>∀x dx,H1 x=none->H1 dx=none->dx≠x ->
 sp (.ref x::(vs++[])) (upd (upd H1 dx (.own x)) x (.ins C dx [])) (λv H2=>v=.non/\qM C m sm (λv H3=>D.nx (σ.set j (some v)) H3) (.ref x) H2) (As K CW i tb D σ)
theorem Og{j:Nat}{y:Str}{py:Pos}{C:Addr}{x m:Str}{k km:Nat}{ps pm:List Str}{sp sm:Sp}{e:Expr}{es:List Expr}{t:TA}{p cpos apos mpos epos:Pos}{pl:Sem Bool}(h:vv X.prog X.w X.K X.mg X.base (pb X.prog X.w) C x k ps sp)(h2:bJ X.prog X.w X.K X.mg X.base aU C m km pm sm)(hr:cG (k + 1) X.A)(Mx:cG km X.A)(hgf:Gl X x)(ha:∀E,PA (X.eU E) (e::es) t)
  (hg:Gl X cx) (hm:X.mg cx=some (.ref CW)) (q:PySem.W.ktsIn X.K CW "BaseException"=true) (hN:X.N.Nodup) (hi:X.N[i]?=some n) (hk:X.env.kindOf n=some .local) (hj:X.N[j]?=some y) (hy:Loc X.env.scope y) (hs:∀a E,sQ (X.hand a E) (b₀::suite) tb)
  (hst:X.stack=X.env::X.outer:=by rfl) (hf:X.env.frame=some X.env.locals:=by rfl) (hex:X.ex=[]:=by rfl) (hd:(cx == ("__debug__" : Str))=false:=by decide) (hdb:(x == ("__debug__" : Str))=false:=by decide)
  (he:starEach (e::es) X.env=(false,eval e X.env)::starEach es X.env:=by rfl) (hpl:(backTo cpos (starEach es X.env)).any (·.1)=false:=by rfl) (hsw:swapsWith (.Call (.Attribute (.Call (.Name x p) (e::es) [] cpos) m apos) [] [] mpos) (some (.Name y py)) epos.line X.env=pure false:=by rfl) (hfy:X.fn y=true∨X.env.scope.names.lookup y=some .local:=by first | exact .inl rfl | exact .inr rfl | assumption)
  (ht:eval (.Call (.Attribute (.Call (.Name x p) (e::es) [] cpos) m apos) [] [] mpos) X.env=(do
   let ov ← eval (.Call (.Name x p) (e::es) [] cpos) X.env
   standAt apos.atName
   let (f,first) ← holding [ov] (getMethod ov m pl)
   callWith mpos f first (backTo mpos (starEach [] X.env)) (backToKw mpos (keywordEach [] X.env))):=by rfl) :
  QE X cx n np hpos b₀ suite [.Assign [.Name y py] (.Call (.Attribute (.Call (.Name x p) (e::es) [] cpos) m apos) [] [] mpos) epos] (Vk X.K CW i j C m sp sm t tb):=by
 refine zb λpins s σ H D I hw=>?_
 obtain⟨f,fd,F,b,M,mg⟩:=h.ex;obtain⟨f2,fd2,F2,b2,M2⟩:=h2.ex
 have mk:wpAny (model X.prog X.w) X.A (eval (.Call (.Name x p) (e::es) [] cpos) X.env) (EP X pins σ (qM C m sm λv H3=>D.nx (σ.set j (some v)) H3)) (Mw X cx n np hpos b₀ suite pins D) s:=by
  refine abK (iF I hgf mg ?_ hdb);refine abW (h₀:=X.base) I.ok.mod.kin M.kp (cg (ha (Mw X cx n np hpos b₀ suite pins D) cpos pins s σ H _ (I.eU _) hw) λus s1 ⟨vs,H1,I1,r,q1⟩=>⟨I1.uk,?_⟩) he hpl;exact cg (Gm (X:=X.eU (Mw X cx n np hpos b₀ suite pins D)) (E:=As X.K CW i tb D σ) (Q:=qM C m sm λv H3=>D.nx (σ.set j (some v)) H3) M F hr b .nil (λH' s0 e s' I0 hq=>ER hst hf hg hm q hN hi hk hs hd hex I0.dX hq) I1 r q1) λv s2 ⟨u,H2,I2,r2,q2⟩=>⟨u,H2,I2.dX,r2,q2⟩
 have ev:wpAny (model X.prog X.w) X.A (eval (.Call (.Attribute (.Call (.Name x p) (e::es) [] cpos) m apos) [] [] mpos) X.env) (EP X pins σ λv H2=>D.nx (σ.set j (some v)) H2) (Mw X cx n np hpos b₀ suite pins D) s:=by
  refine acj (pl:=pl) (cg mk λu s1 ⟨x,H1,I1,rx,a,dx,fs,ex,ea,l,q⟩=>?_) ht;subst ex;obtain rfl:u=Value.ref a:=rx;refine oW (I1.eU _) ea h2.cl M2 l ?_;exact PySem.W.callWith_K0 (first:=[.ref a]) I1.uk M2.kp (cg (yD (X:=X.eU (Mw X cx n np hpos b₀ suite pins D)) (us:=[.ref a]) (vs:=[.ref a]) F2 Mx b2 .nil dQ (I1.eU _) (.cons rfl .nil) q) λv s2 ⟨u,H2,I2,r2,q2⟩=>⟨u,H2,I2.dX,r2,q2⟩)
 exact acu (Q:=SP X pins D) (cg ev λv s1 ⟨x,H1,I1,r1,q1⟩=>qm I1 hN hj hy r1 (λs2 I2=>⟨_,H1,I2,q1⟩) hfy) hsw
end
abbrev Yh:=List DV->aO->DC->(Addr->Gi->Prop)->Prop
def ANX(J:KF)(C:Addr)(sp:Sp)(o:Yh):Prop:=∀(H0:Hp) (A0:Addr->Prop) (G:Addr->Prop) (al:List (List Addr)) (H:Hp) (st:aO) (vs:List V) (ds:List DV) (Q:DC) (Ex:Addr->Gi->Prop) (R:VK) (E:XK),DI J H0 A0 G al H st->dC (oE J (Fb G al st) H al) vs ds->o ds st Q Ex->Kn J H0 A0 G al H st Q R->(∀C' fs dd H',Ex C' fs->aA H H'->Vg J (Fb G al st) H' dd fs->E (.ref C') dd H')->∀x dx,H x=none->H dx=none->dx≠x->sp (.ref x::(vs++[])) (upd (upd H dx (.own x)) x (.ins C dx [])) (λv H2=>v=.non/\R (.ref x) H2) E
@[reducible] def Vm(K:ay)(CW:Addr)(i j:Nat)(o:Yh)(op:Yc)(d:uI)(s:DS)(DD:dw)(env:cc)(st:aO):Prop:=d env st λxs aH=>o xs aH (λdv cZ=>match dv with
 | .ref k=>op k cZ λv rN=>DD.nx (env.set j (some v)) rN
 | _=>False) (AU K CW i s DD env aH)
structure Ua(X:Cx)(Y:YK)(cx n:Str)(np hpos:Pos)(b₀:Stmt)(suite:List Stmt)(body:List Stmt)(s:DS):Prop where
 h:∃t,QE X cx n np hpos b₀ suite body t/\AS (kf X Y) t s
section
variable {X:Cx} {Y:YK} {CW:Addr} {cx n x:Str} {i:Nat} {b₀:Stmt} {suite:List Stmt} {np hpos pos:Pos} {s:DS} {nn:Nat} {d:uI} {e:Expr} {es:List Expr}
theorem Oh{body:List Stmt}(h:Ua X Y cx n np hpos b₀ suite body s):Js X Y (.Try body [.ExceptHandler (some (.Name cx np)) (some n) (b₀::suite) hpos] [] [] pos) s:=by
 obtain⟨t,p1,a1⟩:=h.h;exact⟨_,Of p1,a1⟩
theorem JD{c:Expr}{d:DT}(h:∀E,xW (X.eU E) Y c d):∃t,(∀E,PT (X.eU E) c t)/\AT (kf X Y) t d :=
 ⟨Jp (kf X Y) d,λE=>(h E).pt,λH0 A0 G al H st s env Q R h1 h2 h3 h4=>⟨H0,A0,G,al,st,env,Q,h1,h2,h3,h4⟩⟩
theorem JE{c:Expr}{tc:DT}{x y:List Stmt}{u v:DS}{ipos:Pos}(hc:∃t,(∀E,PT (X.eU E) c t)/\AT (kf X Y) t tc)(ha:Ua X Y cx n np hpos b₀ suite x u)(hb:Ua X Y cx n np hpos b₀ suite y v):Ua X Y cx n np hpos b₀ suite [.If c x y ipos] (WS tc u v):=by
 obtain⟨t,p1,a1⟩:=hc;obtain⟨r,p2,a2⟩:=ha.h;obtain⟨w,p3,a3⟩:=hb.h;refine⟨_,R7 p1 p2 p3,λH0 A0 G al H st σ env DD D I E h k=>a1 H0 A0 G al H st σ env _ _ I E h λb aH bF H1 e1 I1 q1=>?_⟩
 cases b with
 | true=>exact dY (a2 H0 A0 G bF H1 aH σ env DD D I1 (E.ext e1) (by rw[aa7 rfl]at q1;exact q1) (k.go I1 e1))
 | false=>exact cu (a3 H0 A0 G bF H1 aH σ env DD D I1 (E.ext e1) (by rw[aa4 aac]at q1;exact q1) (k.go I1 e1))
theorem Ff{j:Nat}{y:Str}{py:Pos}{k:Nat}{ps:List Str}{sp:Sp}{T:TZ}{p cpos epos:Pos}(h:c9 X.prog X.w X.K X.mg X.base (pb X.prog X.w) x k ps sp)(hsp:R4 X.K sp T)(mo:Jz T)(hr:cG k X.A)(hgf:Gl X x)(ha:∃t,(∀E,PA (X.eU E) (e::es) t)/\AA (kf X Y) t nn d)
  (hg:Gl X cx) (hm:X.mg cx=some (.ref CW)) (q:PySem.W.ktsIn X.K CW "BaseException"=true) (hN:X.N.Nodup) (hi:X.N[i]?=some n) (hk:X.env.kindOf n=some .local) (hj:X.N[j]?=some y) (hy:Loc X.env.scope y) (hs:∃tb,(∀a E,sQ (X.hand a E) (b₀::suite) tb)/\AS (kf X Y) tb s)
  (hst:X.stack=X.env::X.outer:=by rfl) (hf:X.env.frame=some X.env.locals:=by rfl) (hex:X.ex=[]:=by rfl) (hd:(cx == ("__debug__" : Str))=false:=by decide) (hdb:(x == ("__debug__" : Str))=false:=by decide)
  (he:starEach (e::es) X.env=(false,eval e X.env)::starEach es X.env:=by rfl) (hpl:(backTo cpos (starEach es X.env)).any (·.1)=false:=by rfl) (hsw:swapsWith (.Call (.Name x p) (e::es) [] cpos) (some (.Name y py)) epos.line X.env=pure false:=by rfl) (hfy:X.fn y=true∨X.env.scope.names.lookup y=some .local:=by first | exact .inl rfl | exact .inr rfl | assumption) :
  Ua X Y cx n np hpos b₀ suite [.Assign [.Name y py] (.Call (.Name x p) (e::es) [] cpos) epos] (JA X.K CW i j T d s):=by
 obtain⟨t,p1,a1⟩:=ha;obtain⟨tb,p2,a2⟩:=hs;refine⟨_,JC h hr hgf p1 hg hm q hN hi hk hj hy p2 hst hf hex hd hdb he hpl hsw hfy,λH0 A0 G al H st σ env DD D I En q k=>?_⟩;refine a1 H0 A0 G al H st σ env _ _ I En q λxs aH bF vs H1 e1 I1 d1 q1=>?_
 obtain⟨ds,cZ,E2,I2,F2,q2⟩:=qy I1 d1 q1.2;rw[abV];have e2:=e1.trans I1 E2;have En2:=En.ext e2;have k2:=k.go I2 e2;refine hsp vs H1 _ _ (Fb G bF cZ) ds (λc hc=>I2.w8 hc) F2 (mo _ _ _ _ _ (λd hd v H' s r=>?_) (λC fs hx dd H' s x=>E9 a2 I2 En2 k2 hx s x) q2);exact k2.nx _ cZ bF _ H' (.same s) (I2.same s) ((En2.ext (.same s)).set (.d r) j) hd
theorem JF{j:Nat}{y:Str}{py:Pos}{C:Addr}{m:Str}{k km:Nat}{ps pm:List Str}{sp sm:Sp}{o:Yh}{op:Yc}{p cpos apos mpos epos:Pos}{pl:Sem Bool}(h:vv X.prog X.w X.K X.mg X.base (pb X.prog X.w) C x k ps sp)(hop:ANX (kf X Y) C sp o)(h2:bJ X.prog X.w X.K X.mg X.base aU C m km pm sm)(Yi:AM (kf X Y) C m sm op)(hr:cG (k + 1) X.A)(Mx:cG km X.A)(hgf:Gl X x)(ha:∃t,(∀E,PA (X.eU E) (e::es) t)/\AA (kf X Y) t nn d)
  (hg:Gl X cx) (hm:X.mg cx=some (.ref CW)) (q:PySem.W.ktsIn X.K CW "BaseException"=true) (hN:X.N.Nodup) (hi:X.N[i]?=some n) (hk:X.env.kindOf n=some .local) (hj:X.N[j]?=some y) (hy:Loc X.env.scope y) (hs:∃tb,(∀a E,sQ (X.hand a E) (b₀::suite) tb)/\AS (kf X Y) tb s)
  (hst:X.stack=X.env::X.outer:=by rfl) (hf:X.env.frame=some X.env.locals:=by rfl) (hex:X.ex=[]:=by rfl) (hd:(cx == ("__debug__" : Str))=false:=by decide) (hdb:(x == ("__debug__" : Str))=false:=by decide)
  (he:starEach (e::es) X.env=(false,eval e X.env)::starEach es X.env:=by rfl) (hpl:(backTo cpos (starEach es X.env)).any (·.1)=false:=by rfl) (hsw:swapsWith (.Call (.Attribute (.Call (.Name x p) (e::es) [] cpos) m apos) [] [] mpos) (some (.Name y py)) epos.line X.env=pure false:=by rfl) (hfy:X.fn y=true∨X.env.scope.names.lookup y=some .local:=by first | exact .inl rfl | exact .inr rfl | assumption)
  (ht:eval (.Call (.Attribute (.Call (.Name x p) (e::es) [] cpos) m apos) [] [] mpos) X.env=(do
   let ov ← eval (.Call (.Name x p) (e::es) [] cpos) X.env
   standAt apos.atName
   let (f,first) ← holding [ov] (getMethod ov m pl)
   callWith mpos f first (backTo mpos (starEach [] X.env)) (backToKw mpos (keywordEach [] X.env))):=by rfl) :
  Ua X Y cx n np hpos b₀ suite [.Assign [.Name y py] (.Call (.Attribute (.Call (.Name x p) (e::es) [] cpos) m apos) [] [] mpos) epos] (Vm X.K CW i j o op d s):=by
 obtain⟨t,p1,a1⟩:=ha;obtain⟨tb,p2,a2⟩:=hs;refine⟨_,Og (pl:=pl) h h2 hr Mx hgf p1 hg hm q hN hi hk hj hy p2 hst hf hex hd hdb he hpl hsw hfy ht,λH0 A0 G al H st σ env DD D I En q k=>?_⟩;refine a1 H0 A0 G al H st σ env _ _ I En q λxs aH bF vs H1 e1 I1 d1 q1=>?_
 have En1:=En.ext e1;have k1:=k.go I1 e1;refine hop H0 A0 G bF H1 aH vs xs _ _ _ _ I1 d1 q1.2 (λdv cZ gB v H2 e2 I2 d2 q2=>?_) (λC' fs dd H' hx s x=>E9 a2 I1 En1 k1 hx s x)
 cases dv with
 | dat _=>exact q2.elim
 | ref r =>
  obtain⟨a,rr,h1,rfl⟩:=d2;obtain⟨dx,fs,g1,g2,g3⟩:=Yi H0 A0 G gB H2 cZ r a rr _ (λv H3=>D.nx (σ.set j (some v)) H3) I2 h1 q2 (λdv rN Vb v H3 e3 I3 d3 q3=>(k1.go I2 e2).nx _ rN Vb _ H3 e3 I3 (((En1.ext e2).ext e3).set d3 j) q3);exact⟨a,dx,fs,rfl,g1,g2,g3⟩
end
end L2
local macro_rules | `(tactic| walk_at "cond")=>`(tactic| first | rfl | decide | omega | (show (0:Int) < _; decide) | (show (0:Int) < _; omega) | exact ⟨by decide,by decide⟩ | exact ⟨by omega,by omega⟩ | exact Or.inl ⟨by decide,by decide⟩ | exact Or.inr ⟨by decide,by decide⟩ | exact Or.inl ⟨by omega,by omega⟩ | exact Or.inr ⟨by omega,by omega⟩ | assumption)
local macro_rules | `(tactic| walk_at "rd1")=>`(tactic| first
 | refine⟨_,rfl,?_⟩
 | refine⟨_,_,rfl,rfl,?_⟩
 | (refine And.intro ?_ ?_;walk_at "cond"))
local macro_rules | `(tactic| walk_at "vc")=>`(tactic| try dsimp only [L2.E8,L2.N7,L2.RX,L2.WS,L2.Gf,L2.IU,L2.eC,L2.zZ,L2.oI,L2.RC,L2.IV,L2.RH,L2.yZ,L2.EU,L2.Ja,L2.qz,L2.kJ,L2.sV,L2.U5,L2.R1,L2.Jc,L2.EV,L2.NU,L2.Jd,L2.Je,L2.Hz,L2.Jf,L2.AK,L2.vz,L2.Jh,L2.Ji,L2.JB,L2.EW,L2.AU,L2.JA,L2.Oc,List.zip_cons_cons,List.zip_nil_left,List.zip_nil_right,L2.sub,L2.Yd,List.take_succ_cons,List.take_zero,L2.rS,L2.rK,L2.eT,L2.NP,L2.ET,L2.NR,L2.NS,L2.N1,L2.y4,L2.gN,L2.EY,L2.vA,L2.gT,L2.X7,L2.Ge,L2.RY,L2.N5,L2.tyD,L2.y9,L2.EZ,L2.Jq,id_eq,List.map_cons,List.map_nil,List.replicate,List.getElem?_cons_zero,List.getElem?_cons_succ,List.set_cons_zero,List.set_cons_succ,List.nil_append,List.cons_append,List.length_cons,List.length_nil,Nat.zero_add,Nat.reduceAdd,Option.getD_some,Option.getD_none,List.getElem?_nil])
local macro_rules | `(tactic| walk_at "vs")=>`(tactic| try dsimp only [L2.E8,L2.RX,L2.WS,L2.Gf,L2.IU,L2.eC,L2.zZ,L2.oI,L2.RC,L2.IV,L2.RH,L2.yZ,L2.EU,L2.Ja,L2.qz,L2.kJ,L2.sV,L2.U5,L2.R1,L2.Jc,L2.EV,L2.NU,L2.Jd,L2.Je,L2.Hz,L2.Jf,L2.AK,L2.vz,L2.Jh,L2.Ji,L2.JB,L2.EW,L2.AU,L2.JA,L2.Oc,List.zip_cons_cons,List.zip_nil_left,List.zip_nil_right,L2.sub,L2.Yd,List.take_succ_cons,List.take_zero,L2.rS,L2.rK,L2.eT,L2.NP,L2.ET,L2.NR,L2.NS,L2.N1,L2.y4,L2.gN,L2.EY,L2.vA,L2.gT,L2.X7,L2.Ge,L2.RY,L2.N5,L2.tyD,L2.y9,L2.EZ,L2.Jq,id_eq,List.map_cons,List.map_nil,List.replicate,List.getElem?_cons_zero,List.getElem?_cons_succ,List.set_cons_zero,List.set_cons_succ,List.nil_append,List.cons_append,List.length_cons,List.length_nil,Nat.zero_add,Nat.reduceAdd,Option.getD_some,Option.getD_none,List.getElem?_nil])
local macro_rules | `(tactic| walk_at "rd")=>`(tactic| repeat walk_at "rd1")
set_option maxHeartbeats 4000000
local macro_rules | `(tactic| walk_at "sc")=>`(tactic| exact ⟨rfl,rfl,rfl,by decide +kernel,rfl,by decide +kernel,by decide +kernel⟩)
namespace Mine
open PySem L2
theorem ln0{α:Type}{P:List α->Prop}(h:P []):∀us:List α,us.length=0->P us:=λus hl=>by
 cases us with
 | nil=>exact h
 | cons a r=>exact absurd hl (abJ _)
theorem Fg{α:Type}{P:List α->Prop}(h:∀a0:α,P [a0]):∀us:List α,us.length=1->P us:=λus hl=>by
 cases us with
 | nil=>exact absurd hl.symm (abJ _)
 | cons a r=>exact ln0 (P:=λr=>P (a::r)) (h a) r (ab7 hl)
theorem ln2{α:Type}{P:List α->Prop}(h:∀a0 a1:α,P [a0,a1]):∀us:List α,us.length=2->P us:=λus hl=>by
 cases us with
 | nil=>exact absurd hl.symm (abJ _)
 | cons a r=>exact Fg (P:=λr=>P (a::r)) (λa1=>h a a1) r (ab7 hl)
theorem C7{α:Type}{P:List α->Prop}(h:∀a0 a1 a2:α,P [a0,a1,a2]):∀us:List α,us.length=3->P us:=λus hl=>by
 cases us with
 | nil=>exact absurd hl.symm (abJ _)
 | cons a r=>exact ln2 (P:=λr=>P (a::r)) (λa1 a2=>h a a1 a2) r (ab7 hl)
theorem Oi{α:Type}{P:List α->Prop}(h:∀a0 a1 a2 a3:α,P [a0,a1,a2,a3]):∀us:List α,us.length=4->P us:=λus hl=>by
 cases us with
 | nil=>exact absurd hl.symm (abJ _)
 | cons a r=>exact C7 (P:=λr=>P (a::r)) (λa1 a2 a3=>h a a1 a2 a3) r (ab7 hl)
theorem Yj{α:Type}{P:List α->Prop}(h:∀a0 a1 a2 a3 a4:α,P [a0,a1,a2,a3,a4]):∀us:List α,us.length=5->P us:=λus hl=>by
 cases us with
 | nil=>exact absurd hl.symm (abJ _)
 | cons a r=>exact Oi (P:=λr=>P (a::r)) (λa1 a2 a3 a4=>h a a1 a2 a3 a4) r (ab7 hl)
theorem ln6{α:Type}{P:List α->Prop}(h:∀a0 a1 a2 a3 a4 a5:α,P [a0,a1,a2,a3,a4,a5]):∀us:List α,us.length=6->P us:=λus hl=>by
 cases us with
 | nil=>exact absurd hl.symm (abJ _)
 | cons a r=>exact Yj (P:=λr=>P (a::r)) (λa1 a2 a3 a4 a5=>h a a1 a2 a3 a4 a5) r (ab7 hl)
theorem WT{α:Type}{xs:List α}(h:xs.length=1):∃a0,xs=[a0]:=Fg (P:=λxs=>∃a0,xs=[a0]) (λa0=>⟨a0,rfl⟩) xs h
theorem Yk{α:Type}{xs:List α}(h:xs.length=2):∃a0 a1,xs=[a0,a1]:=ln2 (P:=λxs=>∃a0 a1,xs=[a0,a1]) (λa0 a1=>⟨a0,a1,rfl⟩) xs h
theorem ex3{α:Type}{xs:List α}(h:xs.length=3):∃a0 a1 a2,xs=[a0,a1,a2]:=C7 (P:=λxs=>∃a0 a1 a2,xs=[a0,a1,a2]) (λa0 a1 a2=>⟨a0,a1,a2,rfl⟩) xs h
theorem Yl{α:Type}{xs:List α}(h:xs.length=4):∃a0 a1 a2 a3,xs=[a0,a1,a2,a3]:=Oi (P:=λxs=>∃a0 a1 a2 a3,xs=[a0,a1,a2,a3]) (λa0 a1 a2 a3=>⟨a0,a1,a2,a3,rfl⟩) xs h
theorem ex6{α:Type}{xs:List α}(h:xs.length=6):∃a0 a1 a2 a3 a4 a5,xs=[a0,a1,a2,a3,a4,a5]:=ln6 (P:=λxs=>∃a0 a1 a2 a3 a4 a5,xs=[a0,a1,a2,a3,a4,a5]) (λa0 a1 a2 a3 a4 a5=>⟨a0,a1,a2,a3,a4,a5,rfl⟩) xs h
def tf(p:Program)(i:Nat):Stmt:=p.main.body.getD i (.Pass ⟨0,0,0,0⟩)
def top(i:Nat):Stmt:=tf PySem.Challenge.pw_stackwarden_k30_doors_of_books i
abbrev px:Stmt:=top 56
abbrev pz:Stmt:=top 58
abbrev pA:Stmt:=top 57
abbrev pB:Stmt:=top 59
abbrev jK:Stmt:=iC (top 45) 19
abbrev gQ:Stmt:=iC (top 50) 2
abbrev fN:Stmt:=iC (top 45) 15
abbrev zc:Stmt:=top 37
abbrev gS:Stmt:=iC (top 45) 18
abbrev eW:Stmt:=iC (top 50) 1
abbrev dc:Stmt:=iC (top 45) 6
abbrev rV:Stmt:=top 32
abbrev lj:Stmt:=top 38
abbrev iT:Stmt:=iC (top 45) 12
abbrev iU:Stmt:=iC (top 45) 11
abbrev iV:Stmt:=iC (top 45) 16
abbrev gU:Stmt:=iC (top 45) 5
abbrev gW:Stmt:=iC (top 45) 23
abbrev ll:Stmt:=top 8
abbrev lq:Stmt:=top 9
abbrev lr:Stmt:=top 11
abbrev dF:Stmt:=top 30
abbrev zd:Stmt:=top 29
abbrev pC:Stmt:=top 10
abbrev eg:Stmt:=top 48
abbrev pD:Stmt:=top 47
abbrev vE:Stmt:=top 31
abbrev eX:Stmt:=iC (top 50) 6
abbrev jL:Stmt:=iC (top 45) 4
abbrev jM:Stmt:=iC (top 45) 1
abbrev pE:Stmt:=top 52
abbrev rW:Stmt:=top 24
abbrev jN:Stmt:=top 25
abbrev vF:Stmt:=top 22
abbrev eY:Stmt:=iC (top 35) 0
abbrev rX:Stmt:=top 36
abbrev fO:Stmt:=iC (top 45) 17
abbrev eh:Stmt:=iC (top 50) 0
abbrev ey:Stmt:=iC (top 45) 13
abbrev eZ:Stmt:=iC (top 45) 0
abbrev JG:Stmt:=top 53
abbrev iW:Stmt:=top 54
abbrev jO:Stmt:=top 39
abbrev gX:Stmt:=iC (top 45) 2
abbrev lA:Stmt:=top 61
abbrev rY:Stmt:=top 60
abbrev jP:Stmt:=top 62
abbrev lB:Stmt:=top 63
abbrev qA:Stmt:=top 64
structure ai(K:ay)(C:Addr):Prop where
 cl:FH K C
 pF:cH K C "part"
 ur:cH K C "at"
 uL:cH K C "boxes"
 gp:cH K C "stack"
structure ax(K:ay)(C:Addr):Prop where
 cl:FH K C
 pG:cH K C "book"
 jQ:cH K C "live"
 xZ:cH K C "records"
 C8:cH K C "said"
 vG:cH K C "left"
 sW:cH K C "end"
def aZ:List (Str×PyData):=[("push",.tuple []),("load",.tuple []),("store",.tuple [.tuple [.str "any"]]),("dup",.tuple [.tuple [.str "any"]]),("swap",.tuple [.tuple [.str "any"],.tuple [.str "any"]]),("drop",.tuple [.tuple [.str "any"]]),("add",.tuple [.tuple [.str "number"],.tuple [.str "number"]]),("sub",.tuple [.tuple [.str "number"],.tuple [.str "number"]]),("mul",.tuple [.tuple [.str "number"],.tuple [.str "number"]]),("div",.tuple [.tuple [.str "number"],.tuple [.str "number"]]),("rem",.tuple [.tuple [.str "number"],.tuple [.str "number"]]),("less",.tuple [.tuple [.str "number"],.tuple [.str "number"]]),("same",.tuple [.tuple [.str "number"],.tuple [.str "number"]]),("jump",.tuple []),("zero",.tuple [.tuple [.str "number"]]),("kin",.tuple [.tuple [.str "whole",.int 0]]),("make",.tuple []),("toss",.tuple [.tuple [.str "number"]]),("say",.tuple [.tuple [.str "number"]])]
def AV:PyData:=.tuple [.str "jump",.str "zero",.str "kin"]
def og:List (Str×PyData):=[("store",.int 0),("dup",.int 2),("swap",.int 2),("drop",.int 0),("jump",.int 0),("zero",.int 0),("put",.int 0),("toss",.int 0),("say",.int 0),("give",.int 0)]
def oF:PyData:=.tuple [.str "make",.str "fill",.str "begin",.str "get",.str "put"]
def qB:PyData:=.tuple [.str "add",.str "sub",.str "mul",.str "div",.str "rem",.str "less",.str "same"]
inductive Kd where
 | any | num | whole (c:Nat) | raw (c m:Nat)
 deriving DecidableEq
def QF:Kd->List V
 | .any=>[.str "any"]
 | .num=>[.str "number"]
 | .whole c=>[.str "whole",.int c]
 | .raw c m=>[.str "raw",.int c,.int m]
def oG:Kd->List PyData
 | .any=>[.str "any"]
 | .num=>[.str "number"]
 | .whole c=>[.str "whole",.int c]
 | .raw c m=>[.str "raw",.int c,.int m]
abbrev cW:=List (Option Nat×List Kd)
def R8:Option Nat->V
 | none=>.non
 | some n=>.int n
def WU:Option Nat->PyData
 | none=>.none
 | some n=>.int n
def mkD(m:Option Nat×List Kd):PyData:=.tuple [WU m.1,.list (m.2.map λk=>.tuple (oG k))]
def JH(ms:cW):PyData:=.list (ms.map mkD)
structure Wf(ms:cW):Prop where
 ne:0 < ms.length
 few:ms.length<=8
 first:∀m,ms[0]?=some m->m.1=none
 ahead:∀(i:Nat) m,ms[i]?=some m->0 < i->∃j,m.1=some j/\j < i
def rZ(ms:cW)(c:Nat):Option Nat:=(ms[c]?).bind (·.1)
theorem Wf.el{ms:cW}(w:Wf ms){c:Nat}(hc:c < ms.length):∃m,ms[c]?=some m/\rZ ms c=m.1/\∀j,m.1=some j->j < c:=by
 refine⟨ms[c],dN hc,by unfold rZ;rw[dN hc];rfl,λj hj=>?_⟩;rcases Nat.eq_zero_or_pos c with z | z
 ·subst z;have:=w.first _ (dN hc);rw[hj]at this;cases this
 ·obtain⟨j',h1,h2⟩:=w.ahead c _ (dN hc) z;rw[hj]at h1;cases h1;exact h2
def vH(ms:cW):Nat->Nat->List Nat
 | 0,_=>[]
 | n + 1,c=>c::(match rZ ms c with | none=>[] | some j=>vH ms n j)
def bz(ms:cW)(c:Nat):List Nat:=vH ms (c + 1) c
theorem Oj{ms:cW}(w:Wf ms):∀c:Nat,c < ms.length->∀n,c + 1<=n->vH ms n c=vH ms (c + 1) c:=by
 intro c
 induction c using Nat.strongRecOn with
 | ind c ih =>
  intro hc n hn;obtain⟨n',rfl⟩:∃n',n=n' + 1:=⟨n - 1,by omega⟩;show(c::(match rZ ms c with | none=>[] | some j=>vH ms n' j))=c::(match rZ ms c with | none=>[] | some j=>vH ms c j);obtain⟨m,_,e,hj⟩:=w.el hc
  cases q:rZ ms c with
  | none=>rfl
  | some j =>
   have hlt:j < c:=hj j (by rw[← e,q]);show c::vH ms n' j=c::vH ms c j;rw[ih j hlt (by omega) n' (by omega),ih j hlt (by omega) c (by omega)]
def rest(ms:cW):Option Nat->List Nat
 | none=>[]
 | some j=>bz ms j
theorem lC{ms:cW}(w:Wf ms){c:Nat}(hc:c < ms.length):bz ms c=c::rest ms (rZ ms c):=by
 show(c::(match rZ ms c with | none=>[] | some j=>vH ms c j))=_;obtain⟨m,_,e,hj⟩:=w.el hc
 cases q:rZ ms c with
 | none=>rfl
 | some j =>
  have hlt:j < c:=hj j (by rw[← e,q]);show c::vH ms c j=c::vH ms (j + 1) j;rw[Oj w j (by omega) c (by omega)]
theorem oh{ms:cW}(w:Wf ms):∀c:Nat,c < ms.length->(bz ms c).length<=c + 1/\∀x∈bz ms c,x<=c:=by
 intro c
 induction c using Nat.strongRecOn with
 | ind c ih =>
  intro hc;rw[lC w hc];obtain⟨m,_,e,hj⟩:=w.el hc
  cases q:rZ ms c with
  | none=>exact⟨by simp[rest],λx hx=>by simp[rest]at hx;omega⟩
  | some j =>
   have hlt:j < c:=hj j (by rw[← e,q]);obtain⟨h1,h2⟩:=ih j hlt (by omega);refine⟨by simp only[rest,List.length_cons];omega,λx hx=>?_⟩;rcases List.mem_cons.mp hx with z | z
   ·omega
   ·have:=h2 x z;omega
abbrev kK(l:List Nat):List V:=l.map λ(n:Nat)=>V.int (n:Int)
theorem AW(n:Nat):∀l:List Nat,Np (.int (n:Int)) (kK l)=decide (n∈l)
 | []=>by simp[Np,kK]
 | x::r=>by
  have ih:=AW n r;show(Hx (.int (x:Int)) (.int (n:Int))||Np (.int (n:Int)) (kK r))=decide (n∈x::r);rw[ih];show(((x:Int) == (n:Int))||decide (n∈r))=_;by_cases h:n=x
  ·subst h;simp
  ·have h':((x:Int) == (n:Int))=false:=by
    rw[adb];intro z;exact h (Int.ofNat.inj z).symm
   rw[h'];simp[h]
theorem x9:∀l:List Nat,(kK l).all jg=true
 | []=>rfl
 | _::r=>by show(true&&(kK r).all jg)=true;rw[x9 r];rfl
def JI(K:ay)(H:Hp)(xs:List V)(ms:cW):Prop:=xs.length=ms.length/\∀(i:Nat) x m,xs[i]?=some x->ms[i]?=some m->∃(t l:Addr) (ks:List V),x=.ref t/\a8 K H t [R8 m.1,.ref l]/\bg K H l ks/\aG K H ks (m.2.map λk=>.tuple (oG k))
def cX(K:ay)(H:Hp)(a:Addr)(ms:cW):Prop:=∃xs,bg K H a xs/\JI K H xs ms
theorem JI.same{K:ay}{H H':Hp}{xs:List V}{ms:cW}(e:aA H H')(h:JI K H xs ms):JI K H' xs ms:=⟨h.1,λi x m h1 h2=>by
 obtain⟨t,l,ks,e1,e2,e3,e4⟩:=h.2 i x m h1 h2;exact⟨t,l,ks,e1,e.tup e2,e.seq e3,e4.same e⟩⟩
theorem cX.same{K:ay}{H H':Hp}{a:Addr}{ms:cW}(e:aA H H')(h:cX K H a ms):cX K H' a ms:=let ⟨xs,h1,h2⟩:=h;⟨xs,e.seq h1,h2.same e⟩
theorem aR.el(K:ay)(H:Hp):∀o:Option Nat,aR K H (R8 o) (WU o)
 | none=>.non
 | some n=>.int n
theorem cX.rd{K:ay}{H:Hp}{a:Addr}{ms:cW}(h:cX K H a ms):aR K H (.ref a) (JH ms):=by
 obtain⟨xs,h1,h2,h3⟩:=h;refine .lst h1 (by rw[aab];exact h2) λi x d hx hd=>?_
 rw[aa1]at hd
 cases q:ms[i]? with
 | none=>rw[q]at hd;cases hd
 | some m =>
  rw[q]at hd;cases hd;obtain⟨t,l,ks,rfl,e2,e3,e4⟩:=h3 i x m hx q;exact .jD e2 (.cons (aR.el K H m.1) (.cons (.Ip e3 e4) .nil))
def C9(zs:List Nat):Kd->Prop
 | .any=>True
 | .num=>True
 | .whole c=>c < zs.length
 | .raw c m=>∃z,zs[c]?=some z/\m < 2 ^ z
theorem sN{H:Hp}{p:Addr}(h:H p=none)(o:HO):aA H (upd H p o):=λb u q=>by rw[uN (nN q h)];exact q
theorem JI.nil(K:ay)(H:Hp):JI K H [] []:=⟨rfl,λi x m h=>by simp at h⟩
theorem JI.snoc{K:ay}{H:Hp}{x:V}{m:Option Nat×List Kd}{xs:List V}{ms:cW}(h:JI K H xs ms)(hx:∃(t l:Addr) (ks:List V),x=.ref t/\a8 K H t [R8 m.1,.ref l]/\bg K H l ks/\aG K H ks (m.2.map λk=>.tuple (oG k))):
  JI K H (xs++[x]) (ms++[m]):=by
 refine⟨by simp[h.1],λi y n h1 h2=>?_⟩;by_cases hi:i < xs.length
 ·rw[aaX hi]at h1;rw[aaX (by rw[← h.1];exact hi)]at h2;exact h.2 i y n h1 h2
 ·have hl:i < (xs++[x]).length:=(dD h1).1;have e:i=xs.length:=by simp at hl;omega
  subst e;rw[List.getElem?_append_right (Nat.le_refl _)]at h1;rw[h.1,List.getElem?_append_right (Nat.le_refl _)]at h2;simp at h1 h2;subst h1;subst h2;exact hx
theorem ya{K:ay}{H:Hp}{t:Addr}{k:Kd}(h:a8 K H t (QF k)):aR K H (.ref t) (.tuple (oG k)):=by
 refine .jD h ?_
 cases k with
 | any=>exact .cons (.str _) .nil
 | num=>exact .cons (.str _) .nil
 | whole c=>exact .cons (.str _) (.cons (.int _) .nil)
 | raw c m=>exact .cons (.str _) (.cons (.int _) (.cons (.int _) .nil))
structure adi(sh:List (Option Nat×Nat))(zs:List Nat):Prop where
 len:sh.length=zs.length
 ne:0 < sh.length
 s0:sh[0]?=some (none,0)
 z0:zs[0]?=some 0
 six:∀z∈zs,z<=6
 go:∀(i:Nat) (s:Option Nat×Nat),0 < i->sh[i]?=some s->∃j z,s.1=some j/\j < i/\zs[j]?=some z/\zs[i]?=some (z + s.2)
structure Good(ms:cW)(zs:List Nat):Prop where
 wf:Wf ms
 len:ms.length=zs.length
 R9:∀m,ms[0]?=some m->m.2=[]
 z0:zs[0]?=some 0
 six:∀z∈zs,z<=6
 go:∀(i:Nat) m,0 < i->ms[i]?=some m->∃j z,m.1=some j/\j < i/\zs[j]?=some z/\zs[i]?=some (z + m.2.length)
 kds:∀(i:Nat) m,ms[i]?=some m->∀k∈m.2,C9 zs k
def Ol(K:ay)(H:Hp)(ys:List V)(ks:List Kd):Prop:=ys.length=ks.length/\∀(j:Nat) y k,ys[j]?=some y->ks[j]?=some k->∃t:Addr,y=.ref t/\a8 K H t (QF k)
theorem Ol.same{K:ay}{H H':Hp}{ys:List V}{ks:List Kd}(e:aA H H')(h:Ol K H ys ks):Ol K H' ys ks:=⟨h.1,λi x s h1 h2=>by
 obtain⟨t,e1,e2⟩:=h.2 i x s h1 h2;exact⟨t,e1,e.tup e2⟩⟩
def ownOf(ms:cW)(c:Nat):List Kd:=match ms[c]? with | some m=>m.2 | none=>[]
def cL(ms:cW):List Nat->List Kd
 | []=>[]
 | e::r=>cL ms r++ownOf ms e
def fields(ms:cW)(c:Nat):List Kd:=cL ms (bz ms c)
theorem jR(ms:cW):∀l:List Nat,cL ms l=(l.reverse.map (ownOf ms)).flatten
 | []=>rfl
 | e::r=>by
  show cL ms r++ownOf ms e=_;rw[jR ms r];simp
theorem AX{ms:cW}(w:Wf ms){c:Nat}(hc:c < ms.length):fields ms c=cL ms (rest ms (rZ ms c))++ownOf ms c:=by
 unfold fields;rw[lC w hc];rfl
theorem Good.Dc{ms:cW}{zs:List Nat}(g:Good ms zs):∀c:Nat,c < ms.length->∃z,zs[c]?=some z/\(fields ms c).length=z:=by
 intro c
 induction c using Nat.strongRecOn with
 | ind c ih =>
  intro hc;have hm:=dN hc;rw[AX g.wf hc];have own:ownOf ms c=(ms[c]).2:=by unfold ownOf;rw[hm]
  have el:rZ ms c=(ms[c]).1:=by unfold rZ;rw[hm];rfl
  rcases adh c with z | z
  ·subst z;refine⟨0,g.z0,?_⟩;rw[own,g.R9 _ hm,el,g.wf.first _ hm];rfl
  ·obtain⟨j,y,e1,e2,e3,e4⟩:=g.go c _ z hm;obtain⟨z',f1,f2⟩:=ih j e2 (by omega);rw[e3]at f1;cases f1;refine⟨_,e4,?_⟩;rw[own,el,e1,abu];show(fields ms j).length + _=_;rw[f2]
theorem aG.append{K:ay}{H:Hp}:∀{xs ys:List V} {ds es:List PyData},aG K H xs ds->aG K H ys es->aG K H (xs++ys) (ds++es)
 | [],_,[],_,_,r=>r
 | [],_,_::_,_,h,_=>nomatch h.1
 | _::_,_,[],_,h,_=>nomatch h.1
 | x::xs,ys,d::ds,es,h,r=>aG.cons (h.2 0 x d rfl rfl) (aG.append ⟨by simpa using h.1,λi a b h1 h2=>h.2 (i + 1) a b (by simpa using h1) (by simpa using h2)⟩ r)
abbrev df(ks:List Kd):List PyData:=ks.map λk=>PyData.tuple (oG k)
theorem Dd(m n:Nat):Builtin.bitAnd (m:Int) (n:Int)=((m&&&n:Nat):Int):=by
 unfold Builtin.bitAnd;simp
def below(ms:cW):Kd->Kd->Bool
 | _,.any=>true
 | .num,.num=>true
 | .whole c,.whole d=>decide (d∈bz ms c)
 | .raw c m,.raw d n=>decide (c=d)&&decide (m&&&n=n)
 | _,_=>false
def KAt(K:ay)(H:Hp)(v:V)(k:Kd):Prop:=∃t:Addr,v=.ref t/\a8 K H t (QF k)
theorem Ol.at{K:ay}{H:Hp}{ys:List V}{ks:List Kd}(h:Ol K H ys ks){i:Nat}{y:V}(hy:ys[i]?=some y):∃k,ks[i]?=some k/\KAt K H y k:=by
 have hi:i < ks.length:=by rw[← h.1];exact(dD hy).1
 obtain⟨t,e1,e2⟩:=h.2 i y _ hy (dN hi);exact⟨ks[i],dN hi,t,e1,e2⟩
theorem De(k:Kd):PySem.SeqAt.shaped (.tuple (oG k))=true:=by
 cases k<;>(simp only[oG,PySem.SeqAt.shaped,PyData.canLay0,PyData.canLayAll0,PyData.depth,PyData.depthAll];decide +kernel)
theorem Gn{a b:Nat}:(V.int (a:Int)=V.int (b:Int))↔a=b:=⟨λh=>by
 have h':(a:Int)=(b:Int):=V.int.inj h;omega,λh=>by rw[h]⟩
theorem Fi(a b:Nat):decide (V.int (a:Int)=V.int (b:Int))=decide (a=b):=abQ.mpr Gn
theorem nWA:¬ (V.str "whole"=V.str "any"):=by decide +kernel
theorem nRA:¬ (V.str "raw"=V.str "any"):=by decide +kernel
theorem nNA:¬ (V.str "number"=V.str "any"):=by decide +kernel
theorem nAN:¬ (V.str "any"=V.str "number"):=by decide +kernel
theorem nWN:¬ (V.str "whole"=V.str "number"):=by decide +kernel
theorem nRN:¬ (V.str "raw"=V.str "number"):=by decide +kernel
theorem nRW:¬ (V.str "raw"=V.str "whole"):=by decide +kernel
theorem aR.cf{K:ay}{H:Hp}{v:V}{ds:List PyData}(h:aR K H v (.tuple ds)):∃(a:Addr) (xs:List V),v=.ref a/\a8 K H a xs/\aG K H xs ds:=by
 cases h with
 | tup h hl hi=>exact⟨_,_,rfl,h,hl,hi⟩
theorem aR.aQ{K:ay}{H:Hp}{v:V}{i:Int}(h:aR K H v (.int i)):v=.int i:=by cases h;rfl
def My(ms:cW):Prop:=∀(i:Nat) m,ms[i]?=some m->m.2.length<=50
theorem Good.JJ{ms:cW}{zs:List Nat}(g:Good ms zs):My ms:=λi m hm=>by
 rcases adh i with z | z
 ·subst z;rw[g.R9 m hm]
  decide
 ·obtain⟨j,y,_,_,_,e4⟩:=g.go i m z hm;have:=g.six _ (abd e4);omega
theorem My.up{ms:cW}(f:My ms):∀l:List Nat,(cL ms l).length<=50 * l.length
 | []=>aaZ _
 | e::r=>by
  have ih:=f.up r;show(cL ms r++ownOf ms e).length<=_;rw[abu,abO]
  have:(ownOf ms e).length<=50:=by
   unfold ownOf
   cases q:ms[e]? with
   | none=>simp
   | some m=>exact f e m q
  omega
theorem My.fields{ms:cW}(f:My ms)(w:Wf ms){c:Nat}(hc:c < ms.length):(Mine.fields ms c).length<=400:=by
 have h1:=f.up (bz ms c);have h2:=(oh w c hc).1;have h3:=w.few;show(cL ms (bz ms c)).length<=400;omega
theorem jo(n:Str):∀l:List Str,Np (.str n) (l.map V.str)=decide (n∈l)
 | []=>by simp[Np]
 | x::r=>by
  have ih:=jo n r;show(Hx (.str x) (.str n)||Np (.str n) (r.map V.str))=decide (n∈x::r);rw[ih];by_cases h:x=n
  ·subst h;simp[Hx]
  ·have h':¬ n=x:=λe=>h e.symm
   simp[Hx,h,h',List.mem_cons]
theorem gC:∀l:List Str,(l.map V.str).all jg=true
 | []=>rfl
 | x::r=>by show(jg (.str x)&&(r.map V.str).all jg)=true;rw[gC r];rfl
inductive Rw where
 | push (w:Int) | load (b:Nat) | store (b:Nat) | bare (s:Str) | jump (t:Nat) | zero (t:Nat) | kin (c t:Nat) | make (c:Nat) | beg (c:Nat) | fill (c f:Nat) | get (c f:Nat) | put (c f:Nat) | call (p:Nat)
def z7:Rw->Str
 | .push _=>"push" | .load _=>"load" | .store _=>"store" | .bare s=>s | .jump _=>"jump" | .zero _=>"zero" | .kin _ _=>"kin" | .make _=>"make" | .beg _=>"begin" | .fill _ _=>"fill" | .get _ _=>"get" | .put _ _=>"put" | .call _=>"call"
def Sa:Rw->List Int
 | .push w=>[w] | .load b=>[b] | .store b=>[b] | .bare _=>[] | .jump t=>[t] | .zero t=>[t] | .kin c t=>[c,t] | .make c=>[c] | .beg c=>[c] | .fill c f=>[c,f] | .get c f=>[c,f] | .put c f=>[c,f] | .call p=>[p]
def Sb(r:Rw):List V:=.str (z7 r)::(Sa r).map V.int
def Gp(r:Rw):PyData:=.tuple (.str (z7 r)::(Sa r).map PyData.int)
def AY:List Str:=["dup","swap","drop","add","sub","mul","div","rem","less","same","toss","say","give"]
def Rw.Ok(zs:List Nat)(np nb nr:Nat):Rw->Prop
 | .push w=>-2147483648<=w/\w < 2147483648
 | .load b=>b < nb
 | .store b=>b < nb
 | .bare s=>s∈AY
 | .jump t=>t < nr
 | .zero t=>t < nr
 | .kin c t=>c < zs.length/\t < nr
 | .make c=>c < zs.length
 | .beg c=>c < zs.length
 | .fill c f=>∃z,zs[c]?=some z/\f < z
 | .get c f=>∃z,zs[c]?=some z/\f < z
 | .put c f=>∃z,zs[c]?=some z/\f < z
 | .call p=>p < np
structure Pt where
 takes:List Kd
 gives:Kd
 boxes:Nat
 height:Nat
 rows:List Rw
 spans:List (Nat×Nat×Nat)
def Ym(s:Nat×Nat×Nat):List V:=[.int (s.1:Int),.int (s.2.1:Int),.int (s.2.2:Int)]
def JK(s:Nat×Nat×Nat):PyData:=.tuple [.int (s.1:Int),.int (s.2.1:Int),.int (s.2.2:Int)]
def r6(p:Pt):PyData:=.tuple [.list (df p.takes),.tuple (oG p.gives),.int (p.boxes:Int),.int (p.height:Int),.list (p.rows.map Gp),.list (p.spans.map JK)]
def wW(ms:cW)(ps:List Pt):PyData:=.tuple [JH ms,.list (ps.map r6)]
structure adq(zs:List Nat)(np:Nat)(p:Pt):Prop where
 tk:∀k∈p.takes,C9 zs k
 gv:C9 zs p.gives
 bx:p.boxes<=8
 tb:p.takes.length<=p.boxes
 h1:1<=p.height
 h8:p.height<=8
 r1:1<=p.rows.length
 r2:p.rows.length<=100
 ro:∀r∈p.rows,r.Ok zs np p.boxes p.rows.length
 la:∃l r,p.rows=l++[r]/\(r=.bare "toss"∨r=.bare "give"∨∃t,r=.jump t)
 s8:p.spans.length<=8
 so:∀s∈p.spans,s.1 < s.2.1/\s.2.1<=p.rows.length/\s.2.2 < p.rows.length
theorem Fj{K:ay}{H:Hp}:∀l:List Int,aG K H (l.map V.int) (l.map PyData.int)
 | []=>.nil
 | x::r=>.cons (.int x) (Fj r)
theorem Vn{K:ay}{H:Hp}{t:Addr}{r:Rw}(h:a8 K H t (Sb r)):aR K H (.ref t) (Gp r):=.jD h (.cons (.str _) (Fj _))
theorem Vo{K:ay}{H:Hp}{t:Addr}{s:Nat×Nat×Nat}(h:a8 K H t (Ym s)):aR K H (.ref t) (JK s):=.jD h (.cons (.int _) (.cons (.int _) (.cons (.int _) .nil)))
theorem JL(k:Kd):PyData.canLay0 (.tuple (oG k))=true/\PyData.depth (.tuple (oG k))<=1:=by
 cases k<;>exact⟨by simp only[oG,PyData.canLay0,PyData.canLayAll0];decide +kernel,by simp[oG,PyData.depth,PyData.depthAll]⟩
theorem aR.dE{K:ay}{H:Hp}{v:V}{ds:List PyData}(h:aR K H v (.list ds)):∃(a:Addr) (xs:List V),v=.ref a/\bg K H a xs/\aG K H xs ds:=by
 cases h with
 | lst h hl hi=>exact⟨_,_,rfl,h,hl,hi⟩
theorem aG.at{K:ay}{H:Hp}{xs:List V}{ds:List PyData}{i:Nat}{d:PyData}(h:aG K H xs ds)(hd:ds[i]?=some d):∃x,xs[i]?=some x/\aR K H x d:=by
 have hi:i < xs.length:=by rw[h.1];exact(dD hd).1
 exact⟨xs[i],dN hi,h.2 i _ d (dN hi) hd⟩
theorem Vp{K:ay}{H:Hp}{v:V}{o:Option Nat}(h:aR K H v (WU o)):v=R8 o:=by
 cases o with
 | none=>cases h;rfl
 | some n=>cases h;rfl
theorem cX.JM{K:ay}{H:Hp}{v:V}{ms:cW}(h:aR K H v (JH ms)):∃a,v=.ref a/\cX K H a ms:=by
 obtain⟨a,xs,rfl,hS,hR⟩:=aR.dE h;refine⟨a,rfl,xs,hS,by have:=hR.1;simpa using this,λi x m hx hm=>?_⟩;have z:=hR.2 i x (mkD m) hx (by rw[List.getElem?_map,hm];rfl);obtain⟨t,ys,rfl,hT,hY⟩:=aR.cf z;have hl:=hY.1;obtain⟨y0,y1,rfl⟩:=Yk hl;have e0:=Vp (hY.2 0 y0 (WU m.1) rfl rfl);obtain⟨l,ks,e1,hls,hk⟩:=aR.dE (hY.2 1 y1 _ rfl rfl);subst e0;subst e1;exact⟨t,l,ks,rfl,hT,hls,hk⟩
theorem ze{K:ay}{H:Hp}{v:V}{ms:cW}{ps:List Pt}(hB:aR K H v (wW ms ps)):∃(b mk pl:Addr) (xs:List V),v=.ref b/\a8 K H b [.ref mk,.ref pl]/\cX K H mk ms/\bg K H pl xs/\aG K H xs (ps.map r6):=by
 obtain⟨b',bs,e,hT,hR⟩:=aR.cf hB;have hl:=hR.1;obtain⟨v0,v1,rfl⟩:=Yk hl;obtain⟨mk,rfl,hM⟩:=cX.JM (hR.2 0 v0 _ rfl rfl);obtain⟨pl,xs,rfl,hL,hP⟩:=aR.dE (hR.2 1 v1 _ rfl rfl);exact⟨b',mk,pl,xs,e,hT,hM,hL,hP⟩
theorem lD{K:ay}{H:Hp}{v:V}{p:Pt}(h:aR K H v (r6 p)):∃(t l0 l4 l5:Addr) (ks AZ z8:List V) (g:V),v=.ref t/\a8 K H t [.ref l0,g,.int (p.boxes:Int),.int (p.height:Int),.ref l4,.ref l5]/\bg K H l0 ks/\aG K H ks (df p.takes)/\aR K H g (.tuple (oG p.gives))/\bg K H l4 AZ/\aG K H AZ (p.rows.map Gp)/\bg K H l5 z8/\aG K H z8 (p.spans.map JK):=by
 obtain⟨t,fs,e,hT,hR⟩:=aR.cf h;have hfl:=hR.1;obtain⟨f0,f1,f2,f3,f4,f5,rfl⟩:=ex6 hfl;obtain⟨l0,ks,z0,Gq,hk⟩:=aR.dE (hR.2 0 f0 _ rfl rfl);have rg:=hR.2 1 f1 _ rfl rfl;have z2:=aR.aQ (hR.2 2 f2 _ rfl rfl);have z3:=aR.aQ (hR.2 3 f3 _ rfl rfl);obtain⟨l4,AZ,z4,JN,JO⟩:=aR.dE (hR.2 4 f4 _ rfl rfl);obtain⟨l5,z8,z5,JP,FQ⟩:=aR.dE (hR.2 5 f5 _ rfl rfl);subst z0;subst z2;subst z3;subst z4;subst z5;exact⟨t,l0,l4,l5,ks,AZ,z8,f1,e,hT,Gq,hk,rg,JN,JO,JP,FQ⟩
theorem sK{n:Nat}(h:n<=1000):n < sizeLine:=abb h (by decide)
def Pt.wt(p:Pt)(tk:List Kd):Pt:={p with takes:=tk}
def az(ls:List Addr)(H HX:Hp):Prop:=∀c o,c∉ls->H c=some o->HX c=some o
structure Yn(K:ay)(H:Hp)(mk pl:Addr)(ys:List V)(ls:List Addr)(ms:cW)(ps:List Pt):Prop where
 ln:ls.length=ps.length
 nd:ls.Nodup
 pls:H pl=some (.lst ys)
 np:pl∉ls
 my:∀HX,az ls H HX->cX K HX mk ms
 pt:∀HX,az ls H HX->∀(j:Nat) (p:Pt) (l:Addr),ps[j]?=some p->ls[j]?=some l->∃(t:Addr) (g r s:V) (ks:List V),ys[j]?=some (.ref t)/\a8 K HX t [.ref l,g,.int (p.boxes:Int),.int (p.height:Int),r,s]/\H l=some (.lst ks)/\aG K HX ks (df p.takes)/\∀vs tk,HX l=some (.lst vs)->aG K HX vs (df tk)->aR K HX (.ref t) (r6 (p.wt tk))
theorem az.refl{ls:List Addr}{H:Hp}:az ls H H:=λ_ _ _ h=>h
theorem aG.of{K:ay}{H:Hp}{α:Type}{f:α->PyData}{ys:List V}{ps:List α}(hl:ys.length=ps.length)(h:∀(j:Nat) (p:α),ps[j]?=some p->∃v,ys[j]?=some v/\aR K H v (f p)):aG K H ys (ps.map f):=by
 refine⟨by rw[hl,aab],λi x d h1 h2=>?_⟩;rw[aa1]at h2
 cases e:ps[i]? with
 | none=>rw[e]at h2;cases h2
 | some p =>
  rw[e]at h2;cases h2;obtain⟨v,e1,e2⟩:=h i p e;rw[h1]at e1;cases e1;exact e2
theorem jS{K:ay}{H:Hp}{xs:List V}{ps:List Pt}{j:Nat}{p:Pt}(hP:aG K H xs (ps.map r6))(hp:ps[j]?=some p):∃v,xs[j]?=some v/\aR K H v (r6 p):=by
 obtain⟨v,h1,h2⟩:=aG.at hP (i:=j) (d:=r6 p) (by rw[aa1,hp];rfl);exact⟨v,h1,h2⟩
theorem Om{n m:Nat}(h:m < n):Hw n (m:Int)=some m:=by
 unfold Hw;rw[if_pos (by omega),if_pos (by omega),Int.toNat_natCast]
theorem Gr{t u:TS}{D:Ends}{σ:St}{H:Hp}(h:∀R:St->Hp->Prop,(∀σ' H',u D σ' H'->R σ' H')->t {D with nx:=R} σ H):M6 t u D σ H:=h _ λ_ _ x=>x
inductive Df(ms:cW):Str->List V->List Kd->Prop
 | begin {c:Nat} (hc:c < ms.length):Df ms "begin" [.int c] [.raw c (2 ^ (fields ms c).length - 1)]
 | get {c f:Nat}:Df ms "get" [.int c,.int f] [.whole c]
 | fill {c f:Nat} {k:Kd} (hc:c < ms.length) (hf:(fields ms c)[f]?=some k):Df ms "fill" [.int c,.int f] [.raw c 0,k]
 | put {c f:Nat} {k:Kd} (hc:c < ms.length) (hf:(fields ms c)[f]?=some k):Df ms "put" [.int c,.int f] [.whole c,k]
inductive vI(K:ay)(H:Hp)(mk pl:Addr)(part:Nat):Str->List V->List Kd->Prop
 | always {sign:Str} {xs:List V} {ks:List Kd} (h:d5 aZ sign=some (.tuple (df ks))):vI K H mk pl part sign xs ks
 | call {q:Nat} {ys rest vs:List V} {t l:Addr} {ks:List Kd} (h1:bg K H pl ys) (h2:ys[q]?=some (.ref t)) (h3:a8 K H t (.ref l::rest)) (h4:bg K H l vs) (h5:aG K H vs (df ks)):vI K H mk pl part "call" [.int q] ks
 | give {ys rest:List V} {t:Addr} {v0 v:V} {k:Kd} (h1:bg K H pl ys) (h2:ys[part]?=some (.ref t)) (h3:a8 K H t (v0::v::rest)) (h4:aR K H v (.tuple (oG k))):vI K H mk pl part "give" [] [k]
 | ofR {ms:cW} {sign:Str} {xs:List V} {ks:List Kd} (hM:cX K H mk ms) (hw:Wf ms) (hf:My ms) (h:Df ms sign xs ks):vI K H mk pl part sign xs ks
def iX(sign:Str):Int:=match d5 og sign with | some (.int i)=>i | _=>1
theorem JQ{kds:List (Str×PyData)}{k:Str}{d:PyData}(h:d5 kds k=some d):∃kv∈kds,kv.2=d:=by
 unfold d5 at h;obtain⟨kv,h1,h2⟩:=Option.map_eq_some_iff.mp h;exact⟨kv,List.mem_of_find?_eq_some h1,h2⟩
theorem JR{sign:Str}{d:PyData}(h:d5 og sign=some d):∃i,d=.int i:=by
 obtain⟨kv,h1,rfl⟩:=JQ h;simp[og]at h1;rcases h1 with e | e | e | e | e | e | e | e | e | e<;>exact⟨_,by rw[e]⟩
inductive Vl where
 | none | num (w:Int) | rcd (n:Nat)
def Dg:Vl->PyData
 | .none=>.none
 | .num w=>.tuple [.str "number",.int w]
 | .rcd n=>.tuple [.str "record",.int (n:Int)]
structure Rk where
 c:Nat
 begun:Bool
 mask:Nat
 fs:List Vl
def Oo(ms:cW)(r:Rk):Kd->Bool
 | .whole c=>r.begun&&decide (c∈bz ms r.c)
 | .raw c m=>decide (r.c=c)&&decide (r.mask&&&m=m)
 | .any=>true
 | .num=>false
def JS(ms:cW)(rcs:List Rk)(k:Kd):Vl->Bool
 | .none=>false
 | .num _=>decide (k=.num)
 | .rcd n=>match rcs[n]? with
  | some r=>Oo ms r k
  | none=>false
def hasB(ms:cW)(rcs:List Rk)(v:Vl):Kd->Bool
 | .any=>true
 | .num=>JS ms rcs .num v
 | .whole c=>JS ms rcs (.whole c) v
 | .raw c m=>JS ms rcs (.raw c m) v
theorem Oq{ms:cW}{rcs:List Rk}{x:Vl}{k:Kd}(h:k≠.any):hasB ms rcs x k=JS ms rcs k x:=by
 cases k with
 | any=>exact absurd rfl h
 | num=>rfl
 | whole c=>rfl
 | raw c m=>rfl
theorem A1{ms:cW}{rcs:List Rk}{n:Nat}{r:Rk}{k:Kd}(h:rcs[n]?=some r):JS ms rcs k (.rcd n)=Oo ms r k:=by
 show(match rcs[n]? with | some r=>Oo ms r k | none=>false)=_;rw[h]
theorem vJ{K:ay}{H:Hp}{v:V}{w:Int}(h:aR K H v (Dg (.num w))):∃t,v=.ref t/\a8 K H t [.str "number",.int w]:=by
 obtain⟨t,fs,e,hT,hR⟩:=aR.cf h;have hfl:=hR.1
 match fs,hfl,hT,hR with
 | [f0,f1],_,hT,hR =>
  have z0:f0=.str "number":=by have:=hR.2 0 f0 _ rfl rfl;cases this;rfl
  have z1:=aR.aQ (hR.2 1 f1 _ rfl rfl);subst z0;subst z1;exact⟨t,e,hT⟩
theorem vK{K:ay}{H:Hp}{v:V}{n:Nat}(h:aR K H v (Dg (.rcd n))):∃t,v=.ref t/\a8 K H t [.str "record",.int (n:Int)]:=by
 obtain⟨t,fs,e,hT,hR⟩:=aR.cf h;have hfl:=hR.1
 match fs,hfl,hT,hR with
 | [f0,f1],_,hT,hR =>
  have z0:f0=.str "record":=by have:=hR.2 0 f0 _ rfl rfl;cases this;rfl
  have z1:=aR.aQ (hR.2 1 f1 _ rfl rfl);subst z0;subst z1;exact⟨t,e,hT⟩
theorem uM{K:ay}{H:Hp}{v:V}(h:aR K H v (Dg .none)):v=.non:=by
 have h:aR K H v .none:=h;cases h;rfl
theorem Yo:¬ (V.str "record"=V.str "number"):=by decide +kernel
theorem Yp:¬ (V.str "number"=V.str "record"):=by decide +kernel
def Sd:Kd->Str
 | .any=>"any" | .num=>"number" | .whole _=>"whole" | .raw _ _=>"raw"
theorem r8(k:Kd):um (QF k) 0=some (.str (Sd k)):=by cases k<;>rfl
theorem Ot{k:Kd}(h:k≠.any):¬ (V.str (Sd k)=V.str "any"):=by
 cases k with
 | any=>exact absurd rfl h
 | num=>exact nNA
 | whole c=>exact nWA
 | raw c m=>exact nRA
theorem zf{k:Kd}:(V.str (Sd k)=V.str "number")↔k=.num:=by
 cases k with
 | any=>exact⟨λh=>absurd h nAN,λh=>by cases h⟩
 | num=>exact⟨λ_=>rfl,λ_=>rfl⟩
 | whole c=>exact⟨λh=>absurd h nWN,λh=>by cases h⟩
 | raw c m=>exact⟨λh=>absurd h nRN,λh=>by cases h⟩
def Se(n:Int):Prop:=-2147483648<=n/\n<=2147483647
def parts(sign:Str):Prop:=sign="div"∨sign="rem"
instance (sign:Str):Decidable (parts sign):=by unfold parts;exact inferInstance
theorem dv:¬ parts "add"/\¬ parts "sub"/\¬ parts "mul"/\¬ parts "less"/\¬ parts "same":=by decide +kernel
def eS:Vl->Int
 | .none=>0
 | .num w=>w
 | .rcd n=>(n:Int)
def xb(o:HO):Prop:=(∃xs,o=.lst xs)∨(∃C dx fs,o=.ins C dx fs)∨∃φ,o=.ext φ
def a6(H:Hp)(F:List Addr):Prop:=∀c∈F,∃o,H c=some o/\xb o
theorem a8.keep{K:ay}{H H':Hp}{F:List Addr}{t:Addr}{xs:List V}(k:az F H H')(m:a6 H F)(h:a8 K H t xs):a8 K H' t xs:=by
 rcases h with(h | ⟨u,h⟩) | h
 ·refine .inl (.inl (k _ _ (λhf=>?_) h));obtain⟨o,e,z⟩:=m t hf;rw[h]at e;cases e;rcases z with⟨xs,z⟩ | ⟨C,dx,fs,z⟩ | ⟨φ,z⟩<;>cases z
 ·refine .inl (.inr ⟨u,k _ _ (λhf=>?_) h⟩);obtain⟨o,e,z⟩:=m t hf;rw[h]at e;cases e;rcases z with⟨xs,z⟩ | ⟨C,dx,fs,z⟩ | ⟨φ,z⟩<;>cases z
 ·exact .inr h
theorem Ou{K:ay}{H H':Hp}{F:List Addr}{v:V}{x:Vl}(k:az F H H')(m:a6 H F)(h:aR K H v (Dg x)):aR K H' v (Dg x):=by
 cases x with
 | none=>rw[uM h];exact .non
 | num w =>
  obtain⟨t,rfl,ht⟩:=vJ h;exact .jD (a8.keep k m ht) (.cons (.str _) (.cons (.int _) .nil))
 | rcd n =>
  obtain⟨t,rfl,ht⟩:=vK h;exact .jD (a8.keep k m ht) (.cons (.str _) (.cons (.int _) .nil))
def xc(K:ay)(H:Hp)(wt:Bool)(v:V)(x:Vl):Prop:=if wt=true then aR K H v (Dg x)else v=.int (eS x)
theorem xc.same{K:ay}{H H':Hp}{wt:Bool}{v:V}{x:Vl}(e:aA H H')(h:xc K H wt v x):xc K H' wt v x:=by
 cases wt with
 | true=>exact aR.same e (show aR K H v (Dg x)from h)
 | false=>exact h
theorem xc.keep{K:ay}{H H':Hp}{F:List Addr}{wt:Bool}{v:V}{x:Vl}(k:az F H H')(m:a6 H F)(h:xc K H wt v x):xc K H' wt v x:=by
 cases wt with
 | true=>exact Ou k m (show aR K H v (Dg x)from h)
 | false=>exact h
def eP(K:ay)(H:Hp)(wt:Bool)(ys:List V)(xs:List Vl):Prop:=ys.length=xs.length/\∀(j:Nat) y x,ys[j]?=some y->xs[j]?=some x->xc K H wt y x
theorem eP.nil{K:ay}{H:Hp}{wt:Bool}:eP K H wt [] []:=⟨rfl,λj y x h=>by simp at h⟩
theorem eP.same{K:ay}{H H':Hp}{wt:Bool}{ys:List V}{xs:List Vl}(e:aA H H')(h:eP K H wt ys xs):eP K H' wt ys xs:=⟨h.1,λj y x h1 h2=>(h.2 j y x h1 h2).same e⟩
theorem eP.keep{K:ay}{H H':Hp}{F:List Addr}{wt:Bool}{ys:List V}{xs:List Vl}(k:az F H H')(m:a6 H F)(h:eP K H wt ys xs):eP K H' wt ys xs:=⟨h.1,λj y x h1 h2=>(h.2 j y x h1 h2).keep k m⟩
theorem eP.snoc{K:ay}{H:Hp}{wt:Bool}{ys:List V}{xs:List Vl}{y:V}{x:Vl}(h:eP K H wt ys xs)(hy:xc K H wt y x):eP K H wt (ys++[y]) (xs++[x]):=by
 refine⟨by simp[h.1],λj z u hz hu=>?_⟩;by_cases hj:j < ys.length
 ·rw[aaX hj]at hz;rw[aaX (by rw[← h.1];exact hj)]at hu;exact h.2 j z u hz hu
 ·have hl:j=ys.length:=by
   have:=(dD hz).1;simp at this;omega
  subst hl;rw[aa3 (aaZ _),abP]at hz;rw[h.1,aa3 (aaZ _),abP]at hu;cases hz;cases hu;exact hy
theorem eP.take{K:ay}{H:Hp}{wt:Bool}{ys:List V}{xs:List Vl}(h:eP K H wt ys xs)(n:Nat):eP K H wt (ys.take n) (xs.take n):=by
 refine⟨by rw[abl,abl,h.1],λj y k hy hk=>?_⟩;have hj:j < (ys.take n).length:=(dD hy).1;rw[abl]at hj;rw[ab6 (by omega)]at hy hk;exact h.2 _ y k hy hk
theorem eP.drop{K:ay}{H:Hp}{wt:Bool}{ys:List V}{xs:List Vl}(h:eP K H wt ys xs)(n:Nat):eP K H wt (ys.drop n) (xs.drop n):=by
 refine⟨by rw[abR,abR,h.1],λj y k hy hk=>?_⟩;rw[abY]at hy hk;exact h.2 _ y k hy hk
theorem eP.set{K:ay}{H:Hp}{wt:Bool}{ys:List V}{xs:List Vl}{y:V}{x:Vl}(h:eP K H wt ys xs)(hy:xc K H wt y x)(i:Nat):eP K H wt (ys.set i y) (xs.set i x):=by
 refine⟨by rw[abF,abF,h.1],λj z u hz hu=>?_⟩;rw[acy]at hz hu;by_cases hj:i=j
 ·subst hj;rw[aa7 rfl]at hz hu;split at hz
  ·split at hu
   ·cases hz;cases hu;exact hy
   ·cases hu
  ·cases hz
 ·rw[aa4 hj]at hz hu;exact h.2 j z u hz hu
theorem eP.at{K:ay}{H:Hp}{wt:Bool}{ys:List V}{xs:List Vl}(h:eP K H wt ys xs){i:Nat}{x:Vl}(hx:xs[i]?=some x):∃y,ys[i]?=some y/\xc K H wt y x:=by
 have hi:i < ys.length:=by rw[h.1];exact(dD hx).1
 exact⟨ys[i],dN hi,h.2 i _ x (dN hi) hx⟩
theorem eP.append{K:ay}{H:Hp}{wt:Bool}{ys zs:List V}{xs us:List Vl}(h:eP K H wt ys xs)(h':eP K H wt zs us):eP K H wt (ys++zs) (xs++us):=by
 refine⟨by simp[h.1,h'.1],λj z u hz hu=>?_⟩;by_cases hj:j < ys.length
 ·rw[aaX hj]at hz;rw[aaX (by rw[← h.1];exact hj)]at hu;exact h.2 j z u hz hu
 ·rw[aa3 (by omega)]at hz;rw[aa3 (by rw[← h.1];omega),← h.1]at hu;exact h'.2 _ z u hz hu
theorem eP.rep{K:ay}{H:Hp}{wt:Bool}{v:V}{x:Vl}(h:xc K H wt v x)(n:Nat):eP K H wt (List.replicate n v) (List.replicate n x):=by
 refine⟨by simp,λj y z hy hz=>?_⟩;rw[List.eq_of_mem_replicate (List.mem_of_getElem? hy),List.eq_of_mem_replicate (List.mem_of_getElem? hz)];exact h
def Mz{α:Type}(P:V->α->Prop)(ys:List V)(xs:List α):Prop:=ys.length=xs.length/\∀(j:Nat) y x,ys[j]?=some y->xs[j]?=some x->P y x
theorem Mz.nil{α:Type}{P:V->α->Prop}:Mz P [] []:=⟨rfl,λj y x h=>by simp at h⟩
theorem QG{α:Type}{l:List α}(h:0 < l.length):∃lo x,l=lo++[x]:=by
 rcases ac3 l with rfl | ⟨lo,x,rfl⟩
 ·simp at h
 ·exact⟨lo,x,by simp⟩
theorem QH{α:Type}{l:List α}(h:1 < l.length):∃lo x y,l=lo++[x,y]:=by
 obtain⟨lo,y,rfl⟩:=QG (Nat.lt_trans Nat.zero_lt_one h);obtain⟨lo,x,rfl⟩:=QG (l:=lo) (by simp at h;omega);exact⟨lo,x,y,by simp⟩
theorem Mz.imp{α:Type}{P P':V->α->Prop}{ys:List V}{xs:List α}(h:Mz P ys xs)(f:∀y x,P y x->P' y x):Mz P' ys xs:=⟨h.1,λj y x h1 h2=>f y x (h.2 j y x h1 h2)⟩
theorem Mz.at{α:Type}{P:V->α->Prop}{ys:List V}{xs:List α}(h:Mz P ys xs){i:Nat}{x:α}(hx:xs[i]?=some x):∃y,ys[i]?=some y/\P y x:=by
 have hi:i < ys.length:=by rw[h.1];exact(dD hx).1
 exact⟨ys[i],dN hi,h.2 i _ x (dN hi) hx⟩
def HA(K:ay)(H:Hp)(wt:Bool)(v:V)(r:Rk):Prop:=∃(t ft:Addr) (ys:List V),v=.ref t/\a8 K H t (if wt=true then [.int (r.c:Int),.bl r.begun,.int (r.mask:Int),.ref ft]else [.int (r.c:Int),.ref ft])/\a8 K H ft ys/\eP K H wt ys r.fs
theorem HA.same{K:ay}{H H':Hp}{wt:Bool}{v:V}{r:Rk}(e:aA H H')(h:HA K H wt v r):HA K H' wt v r:=by
 obtain⟨t,ft,ys,h1,h2,h3,h4⟩:=h;exact⟨t,ft,ys,h1,e.tup h2,e.tup h3,h4.same e⟩
theorem HA.keep{K:ay}{H H':Hp}{F:List Addr}{wt:Bool}{v:V}{r:Rk}(k:az F H H')(m:a6 H F)(h:HA K H wt v r):HA K H' wt v r:=by
 obtain⟨t,ft,ys,h1,h2,h3,h4⟩:=h;exact⟨t,ft,ys,h1,a8.keep k m h2,a8.keep k m h3,h4.keep k m⟩
def vL(K:ay)(H:Hp)(wt:Bool)(l:Addr)(rs:List Rk):Prop:=∃ys,H l=some (.lst ys)/\Mz (HA K H wt) ys rs
theorem vL.same{K:ay}{H H':Hp}{wt:Bool}{l:Addr}{rs:List Rk}(e:aA H H')(h:vL K H wt l rs):vL K H' wt l rs:=by
 obtain⟨ys,h1,h2⟩:=h;exact⟨ys,e _ _ h1,h2.imp λy x h=>h.same e⟩
theorem vL.keep{K:ay}{H H':Hp}{F:List Addr}{wt:Bool}{l:Addr}{rs:List Rk}(k:az F H H')(m:a6 H F)(n:l∉F)(h:vL K H wt l rs):vL K H' wt l rs:=by
 obtain⟨ys,h1,h2⟩:=h;exact⟨ys,k _ _ n h1,h2.imp λy x h=>h.keep k m⟩
structure Fm where
 fa:Addr
 bl:Addr
 sl:Addr
 part:Nat
 at':Nat
 bx:List Vl
 st:List Vl
def se(part at':Int)(bl sl:Addr):List (Str×V):=[("part",.int part),("at",.int at'),("boxes",.ref bl),("stack",.ref sl)]
structure eQ(K:ay)(H:Hp)(CF:Addr)(wt:Bool)(f:Fm):Prop where
 ob:∃dx,H f.fa=some (.ins CF dx (se f.part f.at' f.bl f.sl))
 bo:∃ys,H f.bl=some (.lst ys)/\eP K H wt ys f.bx
 sk:∃ys,H f.sl=some (.lst ys)/\eP K H wt ys f.st
 ne:f.bl≠f.sl
def eA(f:Fm):List Addr:=[f.fa,f.bl,f.sl]
theorem eQ.sX{K:ay}{H:Hp}{CF:Addr}{wt:Bool}{f:Fm}(h:eQ K H CF wt f):a6 H (eA f):=by
 intro c hc;simp only[eA,List.mem_cons,List.not_mem_nil,or_false]at hc;rcases hc with rfl | rfl | rfl
 ·obtain⟨dx,e⟩:=h.ob;exact⟨_,e,.inr (.inl ⟨_,_,_,rfl⟩)⟩
 ·obtain⟨ys,e,_⟩:=h.bo;exact⟨_,e,.inl ⟨_,rfl⟩⟩
 ·obtain⟨ys,e,_⟩:=h.sk;exact⟨_,e,.inl ⟨_,rfl⟩⟩
theorem eQ.same{K:ay}{H H':Hp}{CF:Addr}{wt:Bool}{f:Fm}(e:aA H H')(h:eQ K H CF wt f):eQ K H' CF wt f:=by
 obtain⟨⟨dx,h1⟩,⟨ys,h2,h3⟩,⟨zs,h4,h5⟩,ne⟩:=h;exact⟨⟨dx,e _ _ h1⟩,⟨ys,e _ _ h2,h3.same e⟩,⟨zs,e _ _ h4,h5.same e⟩,ne⟩
theorem MA{f:Str}{v:V}{r:List (Str×V)}:List.lookup f ((f,v)::r)=some v:=by simp
theorem sf{f g:Str}{v:V}{r:List (Str×V)}(h:¬ g=f):List.lookup g ((f,v)::r)=List.lookup g r:=by
 have hb:(g == f)=false:=by simpa using h
 simp[List.lookup,hb]
theorem WV{f:Str}{v w:V}{r:List (Str×V)}:aX f w ((f,v)::r)=(f,w)::r:=by
 show(if f=f then _ else _)=_;rw[aa7 rfl]
theorem oi{f g:Str}{v w:V}{r:List (Str×V)}(h:¬ f=g):aX g w ((f,v)::r)=(f,v)::aX g w r:=by
 show(if f=g then _ else _)=_;rw[aa4 h]
theorem oj{p a:Int}{b s:Addr}:(se p a b s).lookup ("part" : Str)=some (.int p):=MA
theorem vM{p a:Int}{b s:Addr}:(se p a b s).lookup ("at" : Str)=some (.int a):=by
 unfold se;rw[sf (by decide +kernel),MA]
theorem vN{p a:Int}{b s:Addr}:(se p a b s).lookup ("boxes" : Str)=some (.ref b):=by
 unfold se;rw[sf (by decide +kernel),sf (by decide +kernel),MA]
theorem gY{p a:Int}{b s:Addr}:(se p a b s).lookup ("stack" : Str)=some (.ref s):=by
 unfold se;rw[sf (by decide +kernel),sf (by decide +kernel),sf (by decide +kernel),MA]
theorem qC{p a a':Int}{b s:Addr}:aX "at" (.int a') (se p a b s)=se p a' b s:=by
 unfold se;rw[oi (by decide +kernel),WV]
theorem JT{p a:Int}{b s s':Addr}:aX "stack" (.ref s') (se p a b s)=se p a b s':=by
 unfold se;rw[oi (by decide +kernel),oi (by decide +kernel),oi (by decide +kernel),WV]
theorem Sf{p a:Int}{b s:Addr}:aX "stack" (.ref s) (aX "boxes" (.ref b) (aX "at" (.int a) (aX "part" (.int p) [])))=se p a b s:=by
 have e1:aX "part" (.int p) []=([("part",.int p)]:List (Str×V)):=rfl;have e2:aX "at" (.int a) ([("part",.int p)]:List (Str×V))=([("part",.int p),("at",.int a)]:List (Str×V)):=by rw[oi (by decide +kernel)];rfl
 have e3:aX "boxes" (.ref b) ([("part",.int p),("at",.int a)]:List (Str×V))=([("part",.int p),("at",.int a),("boxes",.ref b)]:List (Str×V)):=by rw[oi (by decide +kernel),oi (by decide +kernel)];rfl
 rw[e1,e2,e3,oi (by decide +kernel),oi (by decide +kernel),oi (by decide +kernel)];rfl
theorem eQ.keep{K:ay}{H H':Hp}{CF:Addr}{wt:Bool}{f:Fm}{F:List Addr}(k:az F H H')(m:a6 H F)(d:∀c∈eA f,c∉F)(h:eQ K H CF wt f):eQ K H' CF wt f:=by
 obtain⟨⟨dx,h1⟩,⟨ys,h2,h3⟩,⟨zs,h4,h5⟩,ne⟩:=h;exact⟨⟨dx,k _ _ (d _ (by simp[eA])) h1⟩,⟨ys,k _ _ (d _ (by simp[eA])) h2,h3.keep k m⟩,⟨zs,k _ _ (d _ (by simp[eA])) h4,h5.keep k m⟩,ne⟩
def atV:Str ⊕ Int->V
 | .inl s=>.str s
 | .inr i=>.int i
def atD:Str ⊕ Int->PyData
 | .inl s=>.str s
 | .inr i=>.int i
def Sg(l:List (Str ⊕ Int)):PyData:=if l=[]then .none else .tuple (l.map atD)
def fE(K:ay)(H:Hp)(ev:V)(l:List (Str ⊕ Int)):Prop:=(l=[]/\ev=.non)∨(l≠[]/\∃t,ev=.ref t/\a8 K H t (l.map atV))
theorem fE.same{K:ay}{H H':Hp}{ev:V}{l:List (Str ⊕ Int)}(e:aA H H')(h:fE K H ev l):fE K H' ev l:=by
 rcases h with h | ⟨n,t,h1,h2⟩
 ·exact .inl h
 ·exact .inr ⟨n,t,h1,e.tup h2⟩
theorem fE.keep{K:ay}{H H':Hp}{F:List Addr}{ev:V}{l:List (Str ⊕ Int)}(k:az F H H')(m:a6 H F)(h:fE K H ev l):fE K H' ev l:=by
 rcases h with h | ⟨n,t,h1,h2⟩
 ·exact .inl h
 ·exact .inr ⟨n,t,h1,a8.keep k m h2⟩
theorem Dh{K:ay}{H:Hp}:∀l:List (Str ⊕ Int),aG K H (l.map atV) (l.map atD)
 | []=>.nil
 | .inl s::r=>.cons (.str s) (Dh r)
 | .inr i::r=>.cons (.int i) (Dh r)
structure Mc where
 ma:Addr
 b:Addr
 lv:Addr
 rc:Addr
 sd:Addr
 ms:cW
 ps:List Pt
 aT:List Fm
 recs:List Rk
 said:List Int
 left:Int
 fin:List (Str ⊕ Int)
def foot(m:Mc):List Addr:=m.ma::m.lv::m.rc::m.sd::m.aT.flatMap eA
def pH(b lv rc sd:Addr)(left:Int)(ev:V):List (Str×V):=[("book",.ref b),("live",.ref lv),("records",.ref rc),("said",.ref sd),("left",.int left),("end",ev)]
theorem a6.sub{H:Hp}{F G:List Addr}(h:a6 H F)(s:∀c∈G,c∈F):a6 H G:=λc hc=>h c (s c hc)
theorem az.sub{F G:List Addr}{H H':Hp}(k:az F H H')(s:∀c∈F,c∈G):az G H H':=λc o n e=>k c o (λz=>n (s c z)) e
theorem az.trans{F:List Addr}{H H1 H2:Hp}(k:az F H H1)(k':az F H1 H2):az F H H2:=λc o n e=>k' c o n (k c o n e)
def Si(K:ay)(F:List Addr)(H:Hp)(b:Addr)(ms:cW)(ps:List Pt):Prop:=∃(mk pl:Addr) (xs:List V),∀HX,az F H HX->a8 K HX b [.ref mk,.ref pl]/\cX K HX mk ms/\bg K HX pl xs/\aG K HX xs (ps.map r6)
theorem Si.to{K:ay}{F G:List Addr}{H H':Hp}{b:Addr}{ms:cW}{ps:List Pt}(h:Si K F H b ms ps)(k:az F H H')(s:∀c∈G,c∈F):Si K G H' b ms ps:=by
 obtain⟨mk,pl,xs,h⟩:=h;exact⟨mk,pl,xs,λHX kx=>h HX (az.trans k (az.sub kx s))⟩
structure bM(K:ay)(H:Hp)(CF C:Addr)(wt:Bool)(m:Mc):Prop where
 ob:∃dx ev,H m.ma=some (.ins C dx (pH m.b m.lv m.rc m.sd m.left ev))/\fE K H ev m.fin
 bk:Si K (foot m) H m.b m.ms m.ps
 lv:H m.lv=some (.lst (m.aT.map λf=>.ref f.fa))
 rc:vL K H wt m.rc m.recs
 sd:H m.sd=some (.lst (m.said.map V.int))
 fr:∀f∈m.aT,eQ K H CF wt f
 nd:(foot m).Nodup
theorem om{b lv rc sd:Addr}{l:Int}{e:V}:(pH b lv rc sd l e).lookup ("book" : Str)=some (.ref b):=MA
theorem iI{b lv rc sd:Addr}{l:Int}{e:V}:(pH b lv rc sd l e).lookup ("live" : Str)=some (.ref lv):=by
 unfold pH;rw[sf (by decide +kernel),MA]
theorem Ov{b lv rc sd:Addr}{l:Int}{e:V}:(pH b lv rc sd l e).lookup ("records" : Str)=some (.ref rc):=by
 unfold pH;rw[sf (by decide +kernel),sf (by decide +kernel),MA]
theorem Fl{b lv rc sd:Addr}{l:Int}{e:V}:(pH b lv rc sd l e).lookup ("said" : Str)=some (.ref sd):=by
 unfold pH;rw[sf (by decide +kernel),sf (by decide +kernel),sf (by decide +kernel),MA]
theorem zg{b lv rc sd:Addr}{l:Int}{e:V}:(pH b lv rc sd l e).lookup ("left" : Str)=some (.int l):=by
 unfold pH;rw[sf (by decide +kernel),sf (by decide +kernel),sf (by decide +kernel),sf (by decide +kernel),MA]
theorem Di{b lv rc sd:Addr}{l:Int}{e:V}:(pH b lv rc sd l e).lookup ("end" : Str)=some e:=by
 unfold pH;rw[sf (by decide +kernel),sf (by decide +kernel),sf (by decide +kernel),sf (by decide +kernel),sf (by decide +kernel),MA]
theorem oo{b lv rc sd:Addr}{l:Int}{e e':V}:aX "end" e' (pH b lv rc sd l e)=pH b lv rc sd l e':=by
 unfold pH;rw[oi (by decide +kernel),oi (by decide +kernel),oi (by decide +kernel),oi (by decide +kernel),oi (by decide +kernel),WV]
theorem Dj{b lv rc sd:Addr}{l l':Int}{e:V}:aX "left" (.int l') (pH b lv rc sd l e)=pH b lv rc sd l' e:=by
 unfold pH;rw[oi (by decide +kernel),oi (by decide +kernel),oi (by decide +kernel),oi (by decide +kernel),WV]
theorem mc_no{b lv rc sd:Addr}{l:Int}{e:V}{m:Str}(h:¬ m∈(["book","live","records","said","left","end"]:List Str)):(pH b lv rc sd l e).lookup m=none:=by
 simp only[List.mem_cons,List.not_mem_nil,or_false,not_or]at h;unfold pH;rw[sf h.1,sf h.2.1,sf h.2.2.1,sf h.2.2.2.1,sf h.2.2.2.2.1,sf h.2.2.2.2.2];rfl
theorem bM.sX{K:ay}{H:Hp}{CF C:Addr}{wt:Bool}{m:Mc}(h:bM K H CF C wt m):a6 H (foot m):=by
 intro c hc;simp only[foot,List.mem_cons,List.mem_flatMap]at hc;rcases hc with rfl | rfl | rfl | rfl | ⟨f,hf,hc⟩
 ·obtain⟨dx,ev,e,_⟩:=h.ob;exact⟨_,e,.inr (.inl ⟨_,_,_,rfl⟩)⟩
 ·exact⟨_,h.lv,.inl ⟨_,rfl⟩⟩
 ·obtain⟨ys,e,_⟩:=h.rc;exact⟨_,e,.inl ⟨_,rfl⟩⟩
 ·exact⟨_,h.sd,.inl ⟨_,rfl⟩⟩
 ·exact(h.fr f hf).sX c hc
theorem aW{H:Hp}{a:Addr}{o:HO}:az [a] H (upd H a o):=λc p n e=>by
 rw[uN (λz=>n (by rw[z];exact abi.mpr rfl))];exact e
theorem eB{F:List Addr}{H H':Hp}(s:aA H H'):az F H H':=λc o _ e=>s c o e
theorem bM.same{K:ay}{H H':Hp}{CF C:Addr}{wt:Bool}{m:Mc}(e:aA H H')(h:bM K H CF C wt m):bM K H' CF C wt m:=by
 obtain⟨⟨dx,ev,h1,h2⟩,bk,lv,rc,sd,fr,nd⟩:=h;exact⟨⟨dx,ev,e _ _ h1,h2.same e⟩,bk.to (eB e) (λc hc=>hc),e _ _ lv,rc.same e,e _ _ sd,λf hf=>(fr f hf).same e,nd⟩
theorem bM.own{K:ay}{H H':Hp}{CF C dx:Addr}{wt:Bool}{m:Mc}{l:Int}{ev:V}{fin:List (Str ⊕ Int)}(h:bM K H CF C wt m)(k:az [m.ma] H H')(e:H' m.ma=some (.ins C dx (pH m.b m.lv m.rc m.sd l ev)))(he:fE K H' ev fin):bM K H' CF C wt {m with left:=l,fin:=fin}:=by
 have nd:=h.nd;simp only[foot,List.nodup_cons,List.mem_cons,not_or]at nd;have sub:∀c∈[m.ma],c∈foot m:=λc hc=>by rw[cj hc];exact List.mem_cons_self
 have mu:=h.sX.sub sub;refine⟨⟨dx,ev,e,he⟩,h.bk.to (k.sub sub) (λc hc=>hc),k _ _ ?_ h.lv,h.rc.keep k mu ?_,k _ _ ?_ h.sd,λf hf=>(h.fr f hf).keep k mu ?_,h.nd⟩
 ·exact λz=>nd.1.1 (cj z).symm
 ·exact λz=>nd.1.2.1 (cj z).symm
 ·exact λz=>nd.1.2.2.1 (cj z).symm
 ·intro c hc z;rw[cj z]at hc;exact nd.1.2.2.2 (abS.mpr ⟨f,hf,hc⟩)
theorem bM.says{K:ay}{H H':Hp}{CF C:Addr}{wt:Bool}{m:Mc}{sd:List Int}(h:bM K H CF C wt m)(k:az [m.sd] H H')(e:H' m.sd=some (.lst (sd.map V.int))):bM K H' CF C wt {m with said:=sd}:=by
 have nd:=h.nd;simp only[foot,List.nodup_cons,List.mem_cons,not_or]at nd;have sub:∀c∈[m.sd],c∈foot m:=λc hc=>by rw[cj hc];simp[foot]
 have mu:=h.sX.sub sub;obtain⟨dx,ev,h1,h2⟩:=h.ob;refine⟨⟨dx,ev,k _ _ ?_ h1,h2.keep k mu⟩,h.bk.to (k.sub sub) (λc hc=>hc),k _ _ ?_ h.lv,h.rc.keep k mu ?_,e,λf hf=>(h.fr f hf).keep k mu ?_,h.nd⟩
 ·exact λz=>nd.1.2.2.1 (cj z)
 ·exact λz=>nd.2.1.2.1 (cj z)
 ·exact λz=>nd.2.2.1.1 (cj z)
 ·intro c hc z;rw[cj z]at hc;exact nd.2.2.2.1 (abS.mpr ⟨f,hf,hc⟩)
theorem cw{m:Mc}{fs:List Fm}{f:Fm}(hf:m.aT=fs++[f]):foot m=m.ma::m.lv::m.rc::m.sd::(fs.flatMap eA++eA f):=by
 unfold foot;rw[hf];simp
theorem bM.top{K:ay}{H H':Hp}{CF C:Addr}{wt:Bool}{m:Mc}{fs:List Fm}{f f':Fm}(h:bM K H CF C wt m)(hf:m.aT=fs++[f])(a1:f'.fa=f.fa)(a2:f'.bl=f.bl)(a3:f'.sl=f.sl)(k:az (eA f) H H')(hF:eQ K H' CF wt f'):bM K H' CF C wt {m with aT:=fs++[f']}:=by
 have nd:=h.nd;rw[cw hf]at nd
 have ef:foot {m with aT:=fs++[f']}=foot m:=by
  rw[cw (m:={m with aT:=fs++[f']}) rfl,cw hf];show m.ma::m.lv::m.rc::m.sd::(fs.flatMap eA++eA f')=_;unfold eA;rw[a1,a2,a3]
 have sub:∀c∈eA f,c∈foot m:=λc hc=>by rw[cw hf];simp[hc]
 have mu:=h.sX.sub sub;simp only[List.nodup_cons,List.mem_cons,List.mem_append,not_or]at nd;obtain⟨dx,ev,h1,h2⟩:=h.ob;refine⟨⟨dx,ev,k _ _ (λz=>nd.1.2.2.2.2 z) h1,h2.keep k mu⟩,h.bk.to (k.sub sub) (λc hc=>by rw[← ef];exact hc),k _ _ (λz=>nd.2.1.2.2.2 z) ?_,h.rc.keep k mu (λz=>nd.2.2.1.2.2 z),k _ _ (λz=>nd.2.2.2.1.2 z) h.sd,λg hg=>?_,by rw[ef];exact h.nd⟩
 ·have:=h.lv;rw[hf]at this;show H m.lv=some (.lst ((fs++[f']).map λf=>.ref f.fa));rw[this,List.map_append,List.map_append];simp[a1]
 ·rcases abw.mp hg with z | z
  ·refine(h.fr g (by rw[hf];exact abx _ z)).keep k mu (λc hc hz=>?_);have nn:=nd.2.2.2.2;rw[acb]at nn;exact nn.2.2 c (abS.mpr ⟨g,z,hc⟩) c hz rfl
  ·rw[cj z];exact hF
theorem eQ.fs{K:ay}{H:Hp}{CF:Addr}{wt:Bool}{f:Fm}(h:eQ K H CF wt f):f.fa≠f.bl/\f.fa≠f.sl:=by
 obtain⟨⟨dx,h1⟩,⟨ys,h2,_⟩,⟨zs,h4,_⟩,_⟩:=h;exact⟨HJ h1 h2 (by intro z;cases z),HJ h1 h4 (by intro z;cases z)⟩
theorem eQ.oH{K:ay}{H H1:Hp}{CF:Addr}{wt:Bool}{f:Fm}{ys:List V}{st:List Vl}(h:eQ K H CF wt f)(s:aA H H1)(hy:eP K H1 wt ys st):eQ K (upd H1 f.sl (.lst ys)) CF wt {f with st:=st}/\az (eA f) H (upd H1 f.sl (.lst ys)):=by
 obtain⟨n1,n2⟩:=h.fs;have h1:=h.same s;have kx:az [f.sl] H1 (upd H1 f.sl (.lst ys)):=aW;have mu:a6 H1 [f.sl]:=h1.sX.sub (λc hc=>by rw[cj hc];simp[eA]);obtain⟨⟨dx,e1⟩,⟨bs,e2,e3⟩,⟨zs,e4,e5⟩,ne⟩:=h1;refine⟨⟨⟨dx,(uN n2).trans e1⟩,⟨bs,(uN ne).trans e2,e3.keep kx mu⟩,⟨ys,uS,hy.keep kx mu⟩,ne⟩,λc o hc e=>?_⟩;rw[uN (λz=>hc (by rw[z];simp[eA]))];exact s c o e
theorem eQ.Vq{K:ay}{H H1:Hp}{CF:Addr}{wt:Bool}{f:Fm}{ys:List V}{bx:List Vl}(h:eQ K H CF wt f)(s:aA H H1)(hy:eP K H1 wt ys bx):eQ K (upd H1 f.bl (.lst ys)) CF wt {f with bx:=bx}/\az (eA f) H (upd H1 f.bl (.lst ys)):=by
 obtain⟨n1,n2⟩:=h.fs;have h1:=h.same s;have kx:az [f.bl] H1 (upd H1 f.bl (.lst ys)):=aW;have mu:a6 H1 [f.bl]:=h1.sX.sub (λc hc=>by rw[cj hc];simp[eA]);obtain⟨⟨dx,e1⟩,⟨bs,e2,e3⟩,⟨zs,e4,e5⟩,ne⟩:=h1;refine⟨⟨⟨dx,(uN n1).trans e1⟩,⟨ys,uS,hy.keep kx mu⟩,⟨zs,(uN ne.symm).trans e4,e5.keep kx mu⟩,ne⟩,λc o hc e=>?_⟩;rw[uN (λz=>hc (by rw[z];simp[eA]))];exact s c o e
theorem eQ.setAt{K:ay}{H:Hp}{CF dx:Addr}{wt:Bool}{f:Fm}{a:Nat}(h:eQ K H CF wt f):eQ K (upd H f.fa (.ins CF dx (se f.part a f.bl f.sl))) CF wt {f with at':=a}/\az (eA f) H (upd H f.fa (.ins CF dx (se f.part a f.bl f.sl))):=by
 obtain⟨n1,n2⟩:=h.fs;have kx:az [f.fa] H (upd H f.fa (.ins CF dx (se f.part a f.bl f.sl))):=aW;have mu:a6 H [f.fa]:=h.sX.sub (λc hc=>by rw[cj hc];simp[eA]);obtain⟨⟨dx',e1⟩,⟨bs,e2,e3⟩,⟨zs,e4,e5⟩,ne⟩:=h;refine⟨⟨⟨dx,uS⟩,⟨bs,(uN n1.symm).trans e2,e3.keep kx mu⟩,⟨zs,(uN n2.symm).trans e4,e5.keep kx mu⟩,ne⟩,λc o hc e=>?_⟩;rw[uN (λz=>hc (by rw[z];simp[eA]))];exact e
theorem bM.last{K:ay}{H:Hp}{CF C:Addr}{wt:Bool}{m:Mc}{fs:List Fm}{f:Fm}(h:bM K H CF C wt m)(hf:m.aT=fs++[f]):eQ K H CF wt f:=h.fr f (by rw[hf];simp)
theorem jT{m:Mc}{fs:List Fm}{f:Fm}(hf:m.aT=fs++[f]):∀c∈eA f,c∈foot m:=λc hc=>by rw[cw hf];simp[hc]
theorem gZ{m:Mc}{fs:List Fm}{f f':Fm}(hf:m.aT=fs++[f])(a1:f'.fa=f.fa)(a2:f'.bl=f.bl)(a3:f'.sl=f.sl):foot {m with aT:=fs++[f']}=foot m:=by
 rw[cw (m:={m with aT:=fs++[f']}) rfl,cw hf];show m.ma::m.lv::m.rc::m.sd::(fs.flatMap eA++eA f')=_;unfold eA;rw[a1,a2,a3]
structure PF where
 part:Nat
 at':Nat
 bx:List Vl
 st:List Vl
def Fm.pf(f:Fm):PF:=⟨f.part,f.at',f.bx,f.st⟩
structure PM where
 ms:cW
 ps:List Pt
 aT:List PF
 recs:List Rk
 said:List Int
 left:Int
 fin:List (Str ⊕ Int)
def Mc.pm(m:Mc):PM:=⟨m.ms,m.ps,m.aT.map Fm.pf,m.recs,m.said,m.left,m.fin⟩
inductive JU:Rw->PF->List Int->PF->List Int->Prop
 | push {w:Int} {f:PF} {sd:List Int}:JU (.push w) f sd {f with st:=f.st++[.num w]} sd
 | load {b:Nat} {f:PF} {sd:List Int} {x:Vl}:f.bx[b]?=some x->JU (.load b) f sd {f with st:=f.st++[x]} sd
 | store {b:Nat} {f:PF} {sd:List Int} {st:List Vl} {x:Vl}:f.st=st++[x]->b < f.bx.length->JU (.store b) f sd {f with bx:=f.bx.set b x,st:=st} sd
 | dup {f:PF} {sd:List Int} {st:List Vl} {x:Vl}:f.st=st++[x]->JU (.bare "dup") f sd {f with st:=f.st++[x]} sd
 | swap {f:PF} {sd:List Int} {st:List Vl} {x y:Vl}:f.st=st++[x,y]->JU (.bare "swap") f sd {f with st:=st++[y,x]} sd
 | drop {f:PF} {sd:List Int} {st:List Vl} {x:Vl}:f.st=st++[x]->JU (.bare "drop") f sd {f with st:=st} sd
 | say {f:PF} {sd:List Int} {st:List Vl} {x:Vl}:f.st=st++[x]->x≠.none->JU (.bare "say") f sd {f with st:=st} (sd++[eS x])
theorem jU{α:Type}{l:List α}{x:α}:(l++[x])[(l++[x]).length - 1]?=some x:=by simp
theorem eP.lastOf{K:ay}{H:Hp}{wt:Bool}{ys:List V}{st:List Vl}{x:Vl}(h:eP K H wt ys (st++[x])):∃zs y,ys=zs++[y]/\eP K H wt zs st/\xc K H wt y x:=by
 have hl:=h.1;rw[List.length_append,List.length_singleton]at hl;obtain⟨y,hy,hv⟩:=h.at (i:=st.length) (x:=x) (by simp);refine⟨ys.take st.length,y,?_,?_,hv⟩
 ·have e:=ack st.length ys
  have d:ys.drop st.length=[y]:=by
   rw[List.drop_eq_getElem?_toList_append,hy,List.drop_of_length_le (by omega)];rfl
  rw[d]at e;exact e.symm
 ·have:=h.take st.length;rw[List.take_left' rfl]at this;exact this
theorem jq{l:List V}{y:V}:um (l++[y]) (-1)=some y:=by
 unfold um Hw;rw[if_neg (by omega),if_pos (by simp;omega)];have:((-1:Int) + (((l++[y]).length:Nat):Int)).toNat=l.length:=by simp;omega
 show((l++[y])[((-1:Int) + (((l++[y]).length:Nat):Int)).toNat]?)=some y;rw[this];simp
theorem vO{H H':Hp}{a:Addr}(s:aA H H')(hn:H a=none)(o:HO):aA H (upd H' a o):=λc p e=>by
 rw[uN (nN e hn)];exact s c p e
theorem eQ.putSt{K:ay}{H H':Hp}{CF:Addr}{wt:Bool}{f:Fm}{ys:List V}{st:List Vl}(h:eQ K H CF wt f)(k:az [f.sl] H H')(e:H' f.sl=some (.lst ys))(hy:eP K H' wt ys st):eQ K H' CF wt {f with st:=st}/\az (eA f) H H':=by
 obtain⟨n1,n2⟩:=h.fs;have mu:a6 H [f.sl]:=h.sX.sub (λc hc=>by rw[cj hc];simp[eA]);obtain⟨⟨dx,e1⟩,⟨bs,e2,e3⟩,⟨zs,e4,e5⟩,ne⟩:=h;exact⟨⟨⟨dx,k _ _ (λz=>n2 (cj z)) e1⟩,⟨bs,k _ _ (λz=>ne (cj z)) e2,e3.keep k mu⟩,⟨ys,e,hy⟩,ne⟩,k.sub (λc hc=>by rw[cj hc];simp[eA])⟩
theorem eP.QH{K:ay}{H:Hp}{wt:Bool}{ys:List V}{st:List Vl}{x y:Vl}(h:eP K H wt ys (st++[x,y])):∃zs a b,ys=zs++[a,b]/\eP K H wt zs st/\xc K H wt a x/\xc K H wt b y:=by
 have e:st++[x,y]=(st++[x])++[y]:=by simp
 rw[e]at h;obtain⟨zs,b,rfl,hz,hb⟩:=h.lastOf;obtain⟨zs,a,rfl,hz,ha⟩:=hz.lastOf;exact⟨zs,a,b,by simp,hz,ha,hb⟩
theorem tk2{α:Type}{zs:List α}{a b:α}:(zs++[a,b]).drop ((zs++[a,b]).length - 2)=[a,b]/\(zs++[a,b]).take ((zs++[a,b]).length - 2)=zs:=by
 have e:(zs++[a,b]).length - 2=zs.length:=by simp
 rw[e];exact⟨List.drop_left' rfl,List.take_left' rfl⟩
abbrev Ub:=List (Int×Int×Int)
def Uc(K:ay)(H:Hp)(ys:List V)(ss:Ub):Prop:=ys.length=ss.length/\∀(j:Nat) y x,ys[j]?=some y->ss[j]?=some x->∃t:Addr,y=.ref t/\a8 K H t [.int x.1,.int x.2.1,.int x.2.2]
theorem Uc.at{K:ay}{H:Hp}{ys:List V}{ss:Ub}(h:Uc K H ys ss){i:Nat}{y:V}(hy:ys[i]?=some y):∃x,ss[i]?=some x/\∃t:Addr,y=.ref t/\a8 K H t [.int x.1,.int x.2.1,.int x.2.2]:=by
 have hi:i < ss.length:=by rw[← h.1];exact(dD hy).1
 exact⟨ss[i],dN hi,h.2 i y _ hy (dN hi)⟩
def Yq:Option Int->V
 | none=>.non
 | some i=>.int i
def jJ(ss:Ub)(p:Int):Option Int:=(ss.find? λx=>decide (x.1<=p)&&decide (p < x.2.1)).map (·.2.2)
theorem caught_here{ss:Ub}{p:Int}{i:Nat}{x:Int×Int×Int}(hx:ss[i]?=some x)(ha:∀j,j < i->∀y,ss[j]?=some y->¬ (y.1<=p/\p < y.2.1))(hp:x.1<=p/\p < x.2.1):jJ ss p=some x.2.2:=by
 have:ss.find? (λx=>decide (x.1<=p)&&decide (p < x.2.1))=some x:=by
  rw[List.find?_eq_some_iff_getElem];refine⟨by simp[hp],i,(dD hx).1,(dD hx).2,λj hj=>?_⟩;have hjl:j < ss.length:=Nat.lt_trans hj (dD hx).1;have:=ha j hj ss[j] (dN hjl);simp only[Bool.not_eq_true',Bool.and_eq_false_iff,decide_eq_false_iff_not];by_cases z:ss[j].1<=p
  ·exact .inr λy=>this ⟨z,y⟩
  ·exact .inl z
 unfold jJ;rw[this];rfl
theorem A2{ss:Ub}{p:Int}(ha:∀j,j < ss.length->∀y,ss[j]?=some y->¬ (y.1<=p/\p < y.2.1)):jJ ss p=none:=by
 have:ss.find? (λx=>decide (x.1<=p)&&decide (p < x.2.1))=none:=by
  rw[List.find?_eq_none];intro x hx;obtain⟨j,hj,e⟩:=List.mem_iff_getElem.mp hx;have:=ha j hj x (by rw[dN hj,e]);simp only[Bool.and_eq_true,decide_eq_true_eq];exact this
 unfold jJ;rw[this];rfl
def Gs(ss:List (Nat×Nat×Nat)):List (Int×Int×Int):=ss.map λx=>((x.1:Int),(x.2.1:Int),(x.2.2:Int))
theorem Uc.JM{K:ay}{H:Hp}{ys:List V}{ss:List (Nat×Nat×Nat)}(h:aG K H ys (ss.map JK)):Uc K H ys (Gs ss):=by
 refine⟨by rw[h.1,List.length_map];unfold Gs;rw[List.length_map],λj y x hy hx=>?_⟩;unfold Gs at hx;rw[List.getElem?_map]at hx
 cases e:ss[j]? with
 | none=>rw[e]at hx;cases hx
 | some s =>
  rw[e]at hx;cases hx;obtain⟨t,xs,rfl,hT,hR⟩:=aR.cf (h.2 j y (JK s) hy (by rw[aa1,e];rfl));have hl:=hR.1
  match xs,hl,hT,hR with
  | [x0,x1,x2],_,hT,hR =>
   have z0:=aR.aQ (hR.2 0 x0 _ rfl rfl);have z1:=aR.aQ (hR.2 1 x1 _ rfl rfl);have z2:=aR.aQ (hR.2 2 x2 _ rfl rfl);subst z0;subst z1;subst z2;exact⟨t,rfl,hT⟩
theorem vP{p a:Int}{b s:Addr}:(se p a b s).length < 1000:=by show 4 < 1000;decide
theorem vQ{b lv rc sd:Addr}{l:Int}{e:V}:(pH b lv rc sd l e).length < 1000:=by show 6 < 1000;decide
theorem Dl{K:ay}{H:Hp}{v:V}{k:Kd}(h:aR K H v (.tuple (oG k))):KAt K H v k:=by
 obtain⟨t,xs,rfl,hT,hR⟩:=aR.cf h;refine⟨t,rfl,?_⟩
 have e:xs=QF k:=by
  have hl:=hR.1;have at':∀(i:Nat) (x:V) (d:PyData),xs[i]?=some x->(oG k)[i]?=some d->aR K H x d:=hR.2
  cases k with
  | any =>
   obtain⟨x0,rfl⟩:=WT hl;have z:=at' 0 x0 _ rfl rfl;cases z;rfl
  | num =>
   obtain⟨x0,rfl⟩:=WT hl;have z:=at' 0 x0 _ rfl rfl;cases z;rfl
  | whole c =>
   obtain⟨x0,x1,rfl⟩:=Yk hl;have z:=at' 0 x0 _ rfl rfl;have z1:=aR.aQ (at' 1 x1 _ rfl rfl);cases z;rw[z1];rfl
  | raw c m =>
   obtain⟨x0,x1,x2,rfl⟩:=ex3 hl;have z:=at' 0 x0 _ rfl rfl;have z1:=aR.aQ (at' 1 x1 _ rfl rfl);have z2:=aR.aQ (at' 2 x2 _ rfl rfl);cases z;rw[z1,z2];rfl
 rw[← e];exact hT
theorem Ol.JM{K:ay}{H:Hp}{ys:List V}{ks:List Kd}(h:aG K H ys (df ks)):Ol K H ys ks:=by
 refine⟨by rw[h.1,aab],λj y k hy hk=>?_⟩;exact Dl (h.2 j y _ hy (by rw[aa1,hk];rfl))
theorem JV{xs:List V}{n:Nat}(h:n<=xs.length):yE xs (some (n:Int)) none=xs.drop n:=by
 unfold yE;rw[HT.Af,HT.EE];have:min n xs.length=n:=by omega
 rw[this,List.take_of_length_le (by simp)]
theorem Ow{K:ay}{H:Hp}{ss:List Str}{xs:List V}(h:aG K H xs (ss.map PyData.str)):xs=ss.map V.str:=by
 have hl:=h.1;rw[aab]at hl;apply List.ext_getElem?;intro i;by_cases hi:i < xs.length
 ·have z:=h.2 i xs[i] (.str (ss[i]'(by omega))) (dN hi) (by rw[aa1,dN (by omega)];rfl)
  have e:xs[i]=.str (ss[i]'(by omega)):=by
   generalize xs[i]=y at z ⊢;cases z;rfl
  rw[dN hi,e,aa1,dN (by omega)];rfl
 ·rw[List.getElem?_eq_none (by omega),List.getElem?_eq_none (by simp;omega)]
theorem sg{K:ay}{d:Addr}{l:List Str}(c:∀H:Hp,aR K H (.ref d) (.tuple (l.map PyData.str)))(H:Hp):a8 K H d (l.map V.str):=by
 obtain⟨a,xs,e,h1,h2⟩:=aR.cf (c H);cases e;have z:=Ow (ss:=l) h2;rw[← z];exact h1
def Yr:List Str:=["jump","zero","kin"]
def Sj:List Str:=["make","fill","begin","get","put"]
def JW:List Str:=["add","sub","mul","div","rem","less","same"]
def fq(ss:List (Nat×Nat×Nat))(p:Nat):Option Nat:=(ss.find? λx=>decide (x.1<=p)&&decide (p < x.2.1)).map (·.2.2)
theorem vR(p:Nat):∀ss:List (Nat×Nat×Nat),jJ (Gs ss) (p:Int)=(fq ss p).map λn=>(n:Int)
 | []=>rfl
 | x::r=>by
  have ih:=vR p r;unfold jJ fq at ih ⊢;unfold Gs at ih ⊢;rw[List.map_cons,List.find?_cons,List.find?_cons]
  have e:(decide ((x.1:Int)<=(p:Int))&&decide ((p:Int) < (x.2.1:Int)))=(decide (x.1<=p)&&decide (p < x.2.1)):=by
   rw[abQ.mpr Int.ofNat_le,abQ.mpr Int.ofNat_lt]
  show Option.map _ (match (decide ((x.1:Int)<=(p:Int))&&decide ((p:Int) < (x.2.1:Int)))with | true=>_ | false=>_)=_;rw[e]
  cases (decide (x.1<=p)&&decide (p < x.2.1))with
  | true=>rfl
  | false=>exact ih
def Vr(p:PM)(fs:List PF)(f:PF)(t:Nat):PM :=
 if f.at' < t then {p with aT:=fs++[{f with at':=t}]}
 else if 0 < p.left then {p with aT:=fs++[{f with at':=t}],left:=p.left - 1}
 else {p with aT:=fs++[f],fin:=[.inl "weary"]}
def iY(ps:List Pt):List PF->Option (List PF×PF×Nat)
 | []=>none
 | f::r=>match (ps[f.part]?).bind λp=>fq p.spans f.at' with
  | some t=>some (r.reverse,f,t)
  | none=>iY ps r
def vS(p:PM)(n:Int):PM:=match iY p.ps p.aT.reverse with
 | none=>{p with aT:=[],fin:=[.inl "fault",.inr n]}
 | some (fs,f,t)=>Vr p fs {f with st:=[.num n]} t
def qD:List Str:=["push","load","store","dup","swap","drop","say"]
theorem JU.sign{r:Rw}{f f':PF}{sd sd':List Int}(h:JU r f sd f' sd'):z7 r∈qD:=by
 cases h with
 | push=>exact(by decide +kernel:("push" : Str)∈qD)
 | load _=>exact(by decide +kernel:("load" : Str)∈qD)
 | store _ _=>exact(by decide +kernel:("store" : Str)∈qD)
 | dup _=>exact(by decide +kernel:("dup" : Str)∈qD)
 | swap _=>exact(by decide +kernel:("swap" : Str)∈qD)
 | drop _=>exact(by decide +kernel:("drop" : Str)∈qD)
 | say _ _=>exact(by decide +kernel:("say" : Str)∈qD)
theorem rw_inv{K:ay}{H:Hp}{v:V}{r:Rw}(h:aR K H v (Gp r)):∃t,v=.ref t/\a8 K H t (Sb r):=by
 obtain⟨rt,rx,rfl,hRT,hRR⟩:=aR.cf h
 have hrx:rx=Sb r:=by
  match rx,hRR with
  | [],hRR=>have:=hRR.1;simp at this
  | y::ys,hRR =>
   have z:=hRR.2 0 y _ rfl rfl;cases z
   have el:ys=(Sa r).map V.int:=by
    have hl:=hRR.1;simp at hl;apply List.ext_getElem?;intro n;by_cases hn:n < ys.length
    ·have zz:=hRR.2 (n + 1) ys[n] (.int ((Sa r)[n]'(by omega))) (by rw[acO];exact dN hn) (by rw[acO,aa1,dN (by omega)];rfl);rw[dN hn,aR.aQ zz,aa1,dN (by omega)];rfl
    ·rw[List.getElem?_eq_none (by omega),List.getElem?_eq_none (by simp;omega)]
   rw[el];rfl
 subst hrx;exact⟨rt,rfl,hRT⟩
theorem big{n:Nat}(h:n<=1000000):n < sizeLine:=abb h (by decide)
theorem Vs{H:Hp}{G:List Addr}{c:Addr}(m:a6 H G)(n:H c=none):c∉G:=λz=>by
 obtain⟨o,e,_⟩:=m c z;rw[n]at e;cases e
theorem a6.same{H H':Hp}{F:List Addr}(m:a6 H F)(s:aA H H'):a6 H' F:=λc hc=>by
 obtain⟨o,e,z⟩:=m c hc;exact⟨o,s _ _ e,z⟩
theorem cJ{m:Mc}:m.ma∈foot m/\m.lv∈foot m/\m.rc∈foot m/\m.sd∈foot m:=by simp[foot]
theorem zh{m:Mc}{f:Fm}{c:Addr}(hf:f∈m.aT)(hc:c∈eA f):c∈foot m:=by
 simp only[foot,List.mem_cons,List.mem_flatMap];exact .inr (.inr (.inr (.inr ⟨f,hf,hc⟩)))
theorem gE{H H':Hp}{x dx C:Addr}(nx:H x=none)(ndx:H dx=none)(ne:dx≠x)(k:az [x] (upd (upd H dx (.own x)) x (.ins C dx [])) H'):aA H (upd (upd H dx (.own x)) x (.ins C dx []))/\aA H H':=by
 have y:aA H (upd (upd H dx (.own x)) x (.ins C dx [])):=(sN ndx _).trans (sN ((uN ne.symm).trans nx) _);exact⟨y,λc o e=>k c o (λz=>nN e nx (cj z)) (y c o e)⟩
inductive JX(ms:cW)(recs:List Rk):Rw->PF->PF->Nat->Bool->Prop
 | jump {f:PF} {t:Nat}:JX ms recs (.jump t) f f t true
 | zero {f:PF} {t:Nat} {st:List Vl} {x:Vl}:f.st=st++[x]->x≠.none->JX ms recs (.zero t) f {f with st:=st} t (decide (eS x=0))
 | kin {f:PF} {c t n:Nat} {st:List Vl} {r:Rk}:f.st=st++[.rcd n]->recs[n]?=some r->r.c < ms.length->JX ms recs (.kin c t) f f t (decide (c∈bz ms r.c))
def JY(p:PM)(fs:List PF)(x:Vl):PM:=match fs.reverse with
 | []=>{p with aT:=[],fin:=[.inl "gave",.inr (eS x)]}
 | g::r=>{p with aT:=r.reverse++[{g with st:=g.st++[x],at':=g.at' + 1}]}
inductive Vt(ms:cW):Rw->PF->List Rk->PF->List Rk->Prop
 | make {c:Nat} {f:PF} {rs:List Rk}:c < ms.length->Vt ms (.make c) f rs {f with st:=f.st++[.rcd rs.length]} (rs++[⟨c,false,0,List.replicate (fields ms c).length .none⟩])
 | beg {c n:Nat} {f:PF} {rs:List Rk} {st:List Vl} {r:Rk}:f.st=st++[.rcd n]->rs[n]?=some r->Vt ms (.beg c) f rs f (rs.set n {r with begun:=true})
 | get {c fl n:Nat} {f:PF} {rs:List Rk} {st:List Vl} {r:Rk} {x:Vl}:f.st=st++[.rcd n]->rs[n]?=some r->r.fs[fl]?=some x->Vt ms (.get c fl) f rs {f with st:=st++[x]} rs
 | fill {c fl n:Nat} {f:PF} {rs:List Rk} {st:List Vl} {r:Rk} {x:Vl}:f.st=st++[.rcd n,x]->rs[n]?=some r->fl < r.fs.length->r.fs.length<=100->Vt ms (.fill c fl) f rs {f with st:=st++[.rcd n]} (rs.set n {r with mask:=r.mask ||| 2 ^ fl,fs:=r.fs.set fl x})
 | put {c fl n:Nat} {f:PF} {rs:List Rk} {st:List Vl} {r:Rk} {x:Vl}:f.st=st++[.rcd n,x]->rs[n]?=some r->fl < r.fs.length->r.fs.length<=100->Vt ms (.put c fl) f rs {f with st:=st} (rs.set n {r with mask:=r.mask ||| 2 ^ fl,fs:=r.fs.set fl x})
inductive Dm(p:PM)(fs:List PF)(f:PF):Rw->PM->Prop
 | str {r:Rw} {g:PF} {sd:List Int}:JU r f p.said g sd->Dm p fs f r {p with aT:=fs++[{g with at':=g.at' + 1}],said:=sd}
 | give {st:List Vl} {x:Vl}:f.st=st++[x]->(fs=[]->x≠.none)->Dm p fs f (.bare "give") (JY p fs x)
 | toss {st:List Vl} {x:Vl}:f.st=st++[x]->x≠.none->Dm p fs f (.bare "toss") (vS {p with aT:=fs++[{f with st:=st}]} (eS x))
structure JZ(p:PM):Prop where
 wf:Wf p.ms
 few:My p.ms
 fr:p.aT.length<=12
 sd:p.said.length<=900000
 rl:p.recs.length<=900000
 st:∀f∈p.aT,f.st.length<=1000/\∃q,p.ps[f.part]?=some q
def J0(K:ay)(ms:cW)(ps:List Pt)(part:Nat)(r:Rw)(ks:List Kd):Prop:=∀(H:Hp) (mk pl:Addr) (xs:List V),cX K H mk ms->bg K H pl xs->aG K H xs (ps.map r6)->vI K H mk pl part (z7 r) ((Sa r).map V.int) ks
def g7(ms:cW)(recs:List Rk)(h:Nat)(st:List Vl)(ks:List Kd)(sign:Str):Option Str :=
 if st.length < ks.length then some "empty"
 else if ((st.drop (st.length - ks.length)).zip ks).all (λx=>hasB ms recs x.1 x.2)=true then
  (if (h:Int) < ((st.length - ks.length:Nat):Int) + iX sign then some "high" else none)
 else some "kind"
def Vu:Option Str->V
 | none=>.non
 | some s=>.str s
structure J1(K:ay)(p:PM)(f:PF)(r:Rw)(ks:List Kd):Prop where
 few:ks.length<=1000
 rc:∀r∈p.recs,r.c < p.ms.length
 st:∀n,.rcd n∈f.st->n < p.recs.length
 ask:J0 K p.ms p.ps f.part r ks
def A4(K:ay)(wt:Bool)(p p':PM):Prop:=(p.fin≠[]/\p'=p)∨(p.fin=[]/\JZ p/\∃(fs:List PF) (f:PF) (r:Rw) (pt:Pt) (ks:List Kd),p.aT=fs++[f]/\p.ps[f.part]?=some pt/\pt.rows[f.at']?=some r/\J1 K p f r ks /\
 ((∃w,wt=true/\g7 p.ms p.recs pt.height f.st ks (z7 r)=some w/\p'={p with fin:=[.inl "look",.inr f.part,.inr f.at',.inl w]})∨((wt=true->g7 p.ms p.recs pt.height f.st ks (z7 r)=none)/\Dm p fs f r p')))
inductive si(K:ay)(wt:Bool):Nat->PM->PM->Prop
 | done {p:PM}:p.fin≠[]->si K wt 0 p p
 | next {n:Nat} {p p1 p2:PM}:p.fin=[]->A4 K wt p p1->si K wt n p1 p2->si K wt (n + 1) p p2
def cB(ms:cW)(ps:List Pt)(j:Nat)(p:Pt)(ws:List Int)(bud:Int):PM:=⟨ms,ps,[⟨j,0,ws.map Vl.num++List.replicate (p.boxes - ws.length) .none,[]⟩],[],[],bud,[]⟩
def Gu(ps:List Pt)(f:PF):Option Nat:=(ps[f.part]?).bind λp=>fq p.spans f.at'
theorem sj{ps:List Pt}:∀l:List PF,(∀f∈l,Gu ps f=none)->iY ps l=none
 | [],_=>rfl
 | f::r,h=>by
  unfold iY;have e:=h f List.mem_cons_self;unfold Gu at e;rw[e];exact sj r λg hg=>h g (List.mem_cons_of_mem _ hg)
theorem yb{ps:List Pt}{f:PF}{t:Nat}(hf:Gu ps f=some t)(fs:List PF):∀l:List PF,(∀g∈l,Gu ps g=none)->iY ps (l++f::fs)=some (fs.reverse,f,t)
 | [],_=>by
  unfold Gu at hf;show(match (ps[f.part]?).bind λp=>fq p.spans f.at' with | some t=>some (fs.reverse,f,t) | none=>iY ps fs)=_;rw[hf]
 | g::r,h=>by
  have e:=h g List.mem_cons_self;unfold Gu at e;show(match (ps[g.part]?).bind λp=>fq p.spans g.at' with | some t=>some ((r++f::fs).reverse,g,t) | none=>iY ps (r++f::fs))=_;rw[e];exact yb hf fs r λg hg=>h g (List.mem_cons_of_mem _ hg)
def After(K:ay)(CF C:Addr)(wt:Bool)(H:Hp)(mm:Mc)(p':PM)(Q:Hp->Prop):Prop:=∀(m':Mc) (H':Hp),m'.pm=p'->(m'.ma=mm.ma/\m'.b=mm.b)->bM K H' CF C wt m'->(∀c∈foot m',c∈foot mm∨H c=none)->az (foot mm) H H'->Q H'
theorem zi{m:Mc}{fs:List Fm}{f:Fm}:({m with aT:=fs++[f]}:Mc).pm={m.pm with aT:=fs.map Fm.pf++[f.pf]}:=by
 unfold Mc.pm;simp
def TK(K:ay)(H H':Hp):Prop:=∀t xs,a8 K H t xs->a8 K H' t xs
theorem Vv{K:ay}{P P':Addr->Prop}{H H':Hp}(hP:∀c,P c->∃o,H c=some o/\pd o)(s:aA (cutH P H) (cutH P' H')):TK K H H':=λt xs h=>by
 have n:∀o,H t=some o->¬ pd o->¬ P t:=λo e m z=>by
  obtain⟨o',e',m'⟩:=hP t z;rw[e]at e';cases e';exact m m'
 rcases h with(h | ⟨o,h⟩) | h
 ·exact .inl (.inl (aY.mp (s t _ (aY.mpr ⟨n _ h (λm=>by rcases m with⟨ys,m⟩ | ⟨C,dx,fs,m⟩ | ⟨φ,m⟩<;>cases m),h⟩))).2)
 ·exact .inl (.inr ⟨o,(aY.mp (s t _ (aY.mpr ⟨n _ h (λm=>by rcases m with⟨ys,m⟩ | ⟨C,dx,fs,m⟩ | ⟨φ,m⟩<;>cases m),h⟩))).2⟩)
 ·exact .inr h
theorem Vw{K:ay}{H H':Hp}{v:V}{x:Vl}(k:TK K H H')(h:aR K H v (Dg x)):aR K H' v (Dg x):=by
 cases x with
 | none=>rw[uM h];exact .non
 | num w =>
  obtain⟨t,rfl,ht⟩:=vJ h;exact .jD (k _ _ ht) (.cons (.str _) (.cons (.int _) .nil))
 | rcd n =>
  obtain⟨t,rfl,ht⟩:=vK h;exact .jD (k _ _ ht) (.cons (.str _) (.cons (.int _) .nil))
theorem xc.tk{K:ay}{H H':Hp}{wt:Bool}{v:V}{x:Vl}(k:TK K H H')(h:xc K H wt v x):xc K H' wt v x:=by
 cases wt with
 | true=>exact Vw k (show aR K H v (Dg x)from h)
 | false=>exact h
theorem eP.tk{K:ay}{H H':Hp}{wt:Bool}{ys:List V}{xs:List Vl}(k:TK K H H')(h:eP K H wt ys xs):eP K H' wt ys xs:=⟨h.1,λj y x h1 h2=>(h.2 j y x h1 h2).tk k⟩
theorem HA.tk{K:ay}{H H':Hp}{wt:Bool}{v:V}{r:Rk}(k:TK K H H')(h:HA K H wt v r):HA K H' wt v r:=by
 obtain⟨t,ft,ys,h1,h2,h3,h4⟩:=h;exact⟨t,ft,ys,h1,k _ _ h2,k _ _ h3,h4.tk k⟩
theorem fE.tk{K:ay}{H H':Hp}{ev:V}{l:List (Str ⊕ Int)}(k:TK K H H')(h:fE K H ev l):fE K H' ev l:=by
 rcases h with h | ⟨n,t,h1,h2⟩
 ·exact .inl h
 ·exact .inr ⟨n,t,h1,k _ _ h2⟩
theorem bM.tk{K:ay}{H H':Hp}{CF C:Addr}{wt:Bool}{m:Mc}(h:bM K H CF C wt m)(k:TK K H H')(kp:∀a∈foot m,∀o,H a=some o->H' a=some o)(b:Si K (foot m) H' m.b m.ms m.ps):bM K H' CF C wt m:=by
 obtain⟨⟨dx,ev,h1,h2⟩,bk,lv,⟨ys,rc,rp⟩,sd,fr,nd⟩:=h;obtain⟨i0,i1,i2,i3⟩:=cJ (m:=m);refine⟨⟨dx,ev,kp _ i0 _ h1,h2.tk k⟩,b,kp _ i1 _ lv,⟨ys,kp _ i2 _ rc,rp.imp λy x z=>z.tk k⟩,kp _ i3 _ sd,λf hf=>?_,nd⟩;obtain⟨⟨dx,g1⟩,⟨bs,g2,g3⟩,⟨zs,g4,g5⟩,ne⟩:=fr f hf;exact⟨⟨dx,kp _ (zh hf (by simp[eA])) _ g1⟩,⟨bs,kp _ (zh hf (by simp[eA])) _ g2,g3.tk k⟩,⟨zs,kp _ (zh hf (by simp[eA])) _ g4,g5.tk k⟩,ne⟩
theorem Sk{K:ay}{P:Addr->Prop}{fp:List Addr}{H:Hp}{b:Addr}{ms:cW}{ps:List Pt}(h:aS K (λc=>P c∨c∈fp) H (.ref b) (wW ms ps)):Si K fp H b ms ps:=by
 obtain⟨b',mk,pl,xs,e,h1,h2,h3,h4⟩:=ze (show aR K _ _ (wW ms ps)from h);cases e;refine⟨mk,pl,xs,λHX kX=>?_⟩
 have s:aA (cutH (λc=>P c∨c∈fp) H) HX:=λc o e=>by
  obtain⟨n,e⟩:=aY.mp e;exact kX c o (λz=>n (.inr z)) e
 exact⟨s.tup h1,h2.same s,s.seq h3,h4.same s⟩
def Vx(CF C:Addr)(wt:Bool)(p:PM):Ob where
 lies K P H fp:=∃m:Mc,foot m=fp/\m.pm=p/\bM K H CF C wt m/\aS K (λc=>P c∨c∈fp) H (.ref m.b) (wW m.ms m.ps)
 keep K P H fp P' H' h hP kp s:=by
  obtain⟨m,rfl,e,hM,hB⟩:=h
  have hB':aS K (λc=>P' c∨c∈foot m) H' (.ref m.b) (wW m.ms m.ps):=aR.same (λc o q=>by
   obtain⟨n,q⟩:=aY.mp q;obtain⟨n',q'⟩:=aY.mp (s c o (aY.mpr ⟨λz=>n (.inl z),q⟩));exact aY.mpr ⟨λz=>by rcases z with z | z;exact n' z;exact n (.inr z),q'⟩) hB
  exact⟨m,rfl,e,hM.tk (Vv hP s) kp (Sk hB'),hB'⟩
 mu K P H fp h:=by
  obtain⟨m,rfl,e,hM,hB⟩:=h;exact λa ha=>hM.sX a ha
def QI(wt:Bool)(x:Vl):PyData:=if wt=true then Dg x else .int (eS x)
def MB(wt:Bool)(f:PF):PyData:=.tuple [.int (f.part:Int),.int (f.at':Int),.tuple (f.bx.map (QI wt)),.tuple (f.st.map (QI wt))]
def sY(p:PM):PyData:=.tuple [Sg p.fin,.list (p.said.map PyData.int),.int p.left]
section
variable {K:ay} {J:KF} {H0:Hp} {A0:Addr->Prop} {G:Addr->Prop} {al:List (List Addr)} {H:Hp} {st:aO} {wt:Bool}
theorem Sl(I:DI J H0 A0 G al H st){v:V}{x:Vl}(h:xc J H wt v x):aS J (Fb G al st) H v (QI wt x):=by
 cases wt with
 | false=>rw[show v=.int (eS x)from h];exact .int _
 | true =>
  have h:aR J H v (Dg x):=h
  cases x with
  | none=>rw[uM h];exact .non
  | num w =>
   obtain⟨t,rfl,ht⟩:=vJ h;exact aR.jD (I.yX ht) (.cons (.str _) (.cons (.int _) .nil))
  | rcd n =>
   obtain⟨t,rfl,ht⟩:=vK h;exact aR.jD (I.yX ht) (.cons (.str _) (.cons (.int _) .nil))
theorem Fn(I:DI J H0 A0 G al H st){t:Addr}{ys:List V}{xs:List Vl}(ht:a8 J H t ys)(h:eP J H wt ys xs):aS J (Fb G al st) H (.ref t) (.tuple (xs.map (QI wt))):=by
 have z:dC (aS J (Fb G al st) H) ys (xs.map (QI wt)):=dC.map ⟨h.1,λi y x a b=>Sl I (h.2 i y x a b)⟩;exact aR.tup (I.yX ht) z.1 z.2
theorem Ox(I:DI J H0 A0 G al H st){ev:V}{l:List (Str ⊕ Int)}(h:fE J H ev l):aS J (Fb G al st) H ev (Sg l):=by
 rcases h with⟨h1,h2⟩ | ⟨n,t,h1,h2⟩
 ·subst h1;subst h2;exact .non
 ·subst h1;unfold Sg;rw[if_neg n];exact aR.jD (I.yX h2) (Dh l)
end
theorem A5{K:ay}{P:Addr->Prop}{H H':Hp}{t l:Addr}{ev:V}{p:PM}(hP:∀c,P c->∃o,H c=some o/\pd o)(s:aA H H')(nl:H l=none)(gt:a8 K H' t [ev,.ref l,.int p.left])(g:H' l=some (.lst (p.said.map V.int)))(hE:fE K H' ev p.fin):aS K P H' (.ref t) (sY p):=by
 have I:DI (k0 K) H' (λ_=>True) P [] H' []:=⟨rfl,List.nodup_nil,(λa ha=>nomatch ha),(λk fp c h=>by simp at h),.refl,(λa ha=>nomatch ha),(λa ha=>nomatch ha),λc z=>let ⟨o,e,m⟩:=hP c z;⟨o,s _ _ e,m⟩,trivial⟩
 have nf:¬ Fb P [] [] l:=λz=>by
  rcases z with z | ⟨k,fp,ce,e,_⟩
  ·obtain⟨o,e,_⟩:=hP l z;rw[nl]at e;cases e
  ·simp at e
 have r:aS K (Fb P [] []) H' (.ref t) (sY p):=aR.jD (I.yX gt) (.cons (Ox I hE) (.cons (aS.lst nf g AR) (.cons (.int _) .nil)));exact r.sub (λc z=>.inl z)
theorem Oy{m:Mc}{a:Addr}{r:List Addr}(h:foot m=a::r):m.ma=a:=by
 unfold foot at h;cases h;rfl
@[reducible] def vT(CF C:Addr)(wt:Bool)(k:Nat)(st:aO)(Q:DC):Prop:=match st[k]? with
 | some (.obj o)=>∃p:PM,o=Vx CF C wt p/\p.aT.length<=100/\Q (.dat (.list (p.aT.map (MB wt)))) st
 | _=>False
def jV:List Str:=["add","sub","mul","div","rem","less","same"]
def Dn(ms:cW)(ps:List Pt)(p:Pt):Rw->List Kd
 | .push _=>[]
 | .load _=>[]
 | .jump _=>[]
 | .make _=>[]
 | .store _=>[.any]
 | .zero _=>[.num]
 | .kin _ _=>[.whole 0]
 | .beg c=>[.raw c (2 ^ (fields ms c).length - 1)]
 | .get c _=>[.whole c]
 | .fill c f=>[.raw c 0,((fields ms c)[f]?).getD .any]
 | .put c f=>[.whole c,((fields ms c)[f]?).getD .any]
 | .call q=>((ps[q]?).map Pt.takes).getD []
 | .bare s=>if s∈(["dup","drop"]:List Str)then [.any]else if s="swap" then [.any,.any]else if s∈jV then [.num,.num]else if s∈(["toss","say"]:List Str)then [.num]else [p.gives]
theorem J2:∀s∈AY,s≠"give"->d5 aZ s=some (.tuple (df (if s∈(["dup","drop"]:List Str)then [.any]else if s="swap" then [.any,.any]else if s∈jV then [.num,.num]else if s∈(["toss","say"]:List Str)then [.num]else []))):=by
 intro s hs hg;simp only[AY,List.mem_cons,List.not_mem_nil,or_false]at hs;rcases hs with rfl | rfl | rfl | rfl | rfl | rfl | rfl | rfl | rfl | rfl | rfl | rfl | rfl
 all_goals first | rfl | exact absurd rfl hg
theorem Oz{K:ay}{H:Hp}{mk pl:Addr}{ms:cW}{zs:List Nat}{ps:List Pt}{xs:List V}{j:Nat}{p:Pt}{r:Rw}(hM:cX K H mk ms)(hg:Good ms zs)(hL:bg K H pl xs)(hP:aG K H xs (ps.map r6))(hp:ps[j]?=some p)(hr:r.Ok zs ps.length p.boxes p.rows.length):vI K H mk pl j (z7 r) ((Sa r).map V.int) (Dn ms ps p r):=by
 have cl:∀c,c < zs.length->c < ms.length:=λc h=>by rw[hg.len];exact h
 have fl:∀c f z,zs[c]?=some z->f < z->c < ms.length/\(fields ms c)[f]?=some (((fields ms c)[f]?).getD .any):=λc f z hz hf=>by
  have hc:=cl c (dD hz).1;obtain⟨z',h1,h2⟩:=hg.Dc c hc;rw[hz]at h1;cases h1;refine⟨hc,?_⟩;rw[dN (by omega)];rfl
 cases r with
 | push w=>exact .always (by show d5 aZ "push"=some (.tuple (df []));rfl)
 | load w=>exact .always (by show d5 aZ "load"=some (.tuple (df []));rfl)
 | store w=>exact .always (by show d5 aZ "store"=some (.tuple (df [.any]));rfl)
 | jump w=>exact .always (by show d5 aZ "jump"=some (.tuple (df []));rfl)
 | zero w=>exact .always (by show d5 aZ "zero"=some (.tuple (df [.num]));rfl)
 | kin c w=>exact .always (by show d5 aZ "kin"=some (.tuple (df [.whole 0]));rfl)
 | make c=>exact .always (by show d5 aZ "make"=some (.tuple (df []));rfl)
 | beg c=>exact .ofR hM hg.wf hg.JJ (.begin (cl c hr))
 | get c f=>exact .ofR hM hg.wf hg.JJ .get
 | fill c f =>
  obtain⟨z,h1,h2⟩:∃z,zs[c]?=some z/\f < z:=hr;obtain⟨h3,h4⟩:=fl c f z h1 h2;exact .ofR hM hg.wf hg.JJ (.fill h3 h4)
 | put c f =>
  obtain⟨z,h1,h2⟩:∃z,zs[c]?=some z/\f < z:=hr;obtain⟨h3,h4⟩:=fl c f z h1 h2;exact .ofR hM hg.wf hg.JJ (.put h3 h4)
 | call q =>
  have hq:q < ps.length:=hr;obtain⟨v,hv,hvr⟩:=jS hP (dN hq);obtain⟨t,l0,l4,l5,ks,AZ,z8,f1,rfl,hTt,Gq,hk,rg,JN,JO,JP,FQ⟩:=lD hvr
  have e:Dn ms ps p (.call q)=ps[q].takes:=by
   show((ps[q]?).map Pt.takes).getD []=_;rw[dN hq];rfl
  rw[e];exact .call hL hv hTt Gq hk
 | bare s =>
  by_cases hgv:s="give"
  ·subst hgv;obtain⟨v,hv,hvr⟩:=jS hP hp;obtain⟨t,l0,l4,l5,ks,AZ,z8,f1,rfl,hTt,Gq,hk,rg,JN,JO,JP,FQ⟩:=lD hvr
   have e:Dn ms ps p (.bare "give")=[p.gives]:=by
    show(if ("give" : Str)∈(["dup","drop"]:List Str)then [Kd.any]else if ("give" : Str)="swap" then [Kd.any,.any]else if ("give" : Str)∈jV then [Kd.num,.num]else if ("give" : Str)∈(["toss","say"]:List Str)then [Kd.num]else [p.gives])=[p.gives];rw[aa4 (by decide +kernel),aa4 (by decide +kernel),aa4 (by decide +kernel),aa4 (by decide +kernel)]
   rw[e];exact .give hL hv hTt rg
  ·have z:=J2 s hr hgv;refine .always ?_;show d5 aZ s=some (.tuple (df (if s∈(["dup","drop"]:List Str)then [.any]else if s="swap" then [.any,.any]else if s∈jV then [.num,.num]else if s∈(["toss","say"]:List Str)then [.num]else [p.gives])))
   have hin:s∈(["dup","drop"]:List Str)∨s="swap"∨s∈jV∨s∈(["toss","say"]:List Str):=by
    have all:∀s∈AY,s≠"give"->s∈(["dup","drop"]:List Str)∨s="swap"∨s∈jV∨s∈(["toss","say"]:List Str):=by decide +kernel
    exact all s hr hgv
   rw[z];by_cases a1:s∈(["dup","drop"]:List Str)
   ·rw[aa7 a1,aa7 a1]
   ·rw[aa4 a1,aa4 a1];by_cases a2:s="swap"
    ·rw[aa7 a2,aa7 a2]
    ·rw[aa4 a2,aa4 a2];by_cases a3:s∈jV
     ·rw[aa7 a3,aa7 a3]
     ·rw[aa4 a3,aa4 a3]
      have a4:s∈(["toss","say"]:List Str):=by
       rcases hin with h | h | h | h
       ·exact absurd h a1
       ·exact absurd h a2
       ·exact absurd h a3
       ·exact h
      rw[aa7 a4,aa7 a4]
structure Ys(ms:cW)(n:Nat)(r:Rk):Prop where
 c:r.c < ms.length
 fs:r.fs.length=(fields ms r.c).length
 hi:r.mask < 2 ^ r.fs.length
 no:∀f x,r.fs[f]?=some x->r.mask.testBit f=false->x=.none
 all:r.begun=true->∀f,f < r.fs.length->r.mask.testBit f=true
 vs:∀k,.rcd k∈r.fs->k < n
structure Yt(p:PM):Prop where
 rc:∀r∈p.recs,Ys p.ms p.recs.length r
 st:∀f∈p.aT,(∀k,.rcd k∈f.st->k < p.recs.length)/\(∀k,.rcd k∈f.bx->k < p.recs.length)
structure Yu(rs rs':List Rk):Prop where
 le:rs.length<=rs'.length
 at':∀(i:Nat) r,rs[i]?=some r->∃r',rs'[i]?=some r'/\r'.c=r.c/\(r.begun=true->r'.begun=true)/\r.mask&&&r'.mask=r.mask/\r'.fs.length=r.fs.length
theorem Dp(v:Int){m:Int}{n:Nat}(e:m=(n:Int))(h:0 < n):∃c:Nat,v % m=(c:Int)/\c < n:=by
 subst e;have a:=Int.emod_nonneg v (show(n:Int)≠0 by omega);have b:=Int.emod_lt_of_pos v (show(0:Int) < (n:Int)by omega);exact⟨(v % (n:Int)).toNat,by omega,by omega⟩
theorem Fo{α:Type}{fin:List PyData->aO->DC->Prop}{dg:wV}{dt:DT}{de:DX}{xs:List PyData}{env:cc}{aH:aO}{Q:DC}(P:α->Prop)(f:α->PyData)(hl:xs.length<=1000000)
  (hs:∀(i:Nat) d,xs[i]?=some d->∀(W:PyData->Prop) (N:Prop),(∀a,P a->W (f a))->dg (.dat d) env aH λkQ cZ=>cZ=aH/\dt kQ aH λb rN=>rN=aH/\if b=true then de kQ aH λy Am=>rK y Am λdy CI=>CI=aH/\W dy else N)
  (hd:∀as:List α,as.length=xs.length->(∀a∈as,P a)->fin (as.map f) aH Q):WR fin dg dt de xs (λ_=>True) env aH Q:=by
 refine Jr (λi ys=>∃as:List α,ys=as.map f/\as.length=i/\∀a∈as,P a) hl ⟨[],rfl,rfl,(λ_ h=>nomatch h)⟩ (λi ys d hd' hy=>?_) (λys hy=>?_)
 ·obtain⟨as,rfl,ha,hp⟩:=hy;refine hs i d hd' (λdy=>∃bs:List α,as.map f++[dy]=bs.map f/\bs.length=i + 1/\∀a∈bs,P a) _ λa h=>⟨as++[a],by rw[List.map_append];rfl,by simp[ha],λb hb=>?_⟩
  rcases abw.mp hb with z | z
  ·exact hp b z
  ·rw[cj z];exact h
 ·obtain⟨as,rfl,ha,hp⟩:=hy;exact hd as ha hp
theorem Vy{α:Type}{fin:List PyData->aO->DC->Prop}{dg:wV}{dt:DT}{de:DX}{xs:List PyData}{env:cc}{aH:aO}{Q:DC}(as:List α)(g f:α->PyData)(hx:xs=as.map g)(hl:as.length<=1000000)
  (hs:∀(i:Nat) a,as[i]?=some a->∀(P:PyData->Prop) (N:Prop),P (f a)->dg (.dat (g a)) env aH λkQ cZ=>cZ=aH/\dt kQ aH λb rN=>rN=aH/\if b=true then de kQ aH λy Am=>rK y Am λdy CI=>CI=aH/\P dy else N)
  (hd:fin (as.map f) aH Q):WR fin dg dt de xs (λ_=>True) env aH Q:=by
 subst hx;refine Jr (λi ys=>ys=(as.take i).map f) (by rw[List.length_map];exact hl) (by simp) (λi ys d hd' hy=>?_) (λys hy=>?_)
 ·rw[aa1]at hd'
  cases w:as[i]? with
  | none=>rw[w]at hd';cases hd'
  | some a =>
   rw[w]at hd';cases hd';refine hs i a w (λdy=>ys++[dy]=(as.take (i + 1)).map f) (ys=(as.take (i + 1)).map f) ?_;rw[hy,List.take_add_one,w,aba];rfl
 ·rw[aab,List.take_length]at hy;rw[hy];exact hd
theorem oq{α:Type}(x:α):∀n:Nat,(List.replicate n [x]).flatten=List.replicate n x
 | 0=>rfl
 | n + 1=>by rw[abm,abz,oq x n,abm];rfl
def Dq:List Nat:=[0,1,1]
def cC:cW:=[(none,[]),(some 0,[.num]),(some 1,[])]
structure Gv(p:Pt):Prop where
 tk:∀k∈p.takes,C9 Dq k
 gv:C9 Dq p.gives
 l4:p.takes.length<=4
 bx:p.takes.length<=p.boxes/\p.boxes<=8
 hi:p.height=1
 sp:p.spans=[]
 rw:∃w:Int,(-2147483648<=w/\w < 2147483648)/\(p.rows=[.push w,.bare "toss"]∨p.rows=[.push w,.bare "give"])
theorem Yv(ns:List Int):yE (ns.map V.int) none (some 8)=(ns.take 8).map V.int:=by
 unfold yE;rw[HT.Af,show(some (8:Int))=some ((8:Nat):Int)from rfl,HT.EE,List.drop_zero,List.length_map,Nat.sub_zero,← List.map_take];exact congrArg (List.map V.int) (List.take_eq_take_iff.mpr (by omega))
def fF(K:ay):Sp:=λvs H Q _=>∃(a:Addr) (ns:List Int) (k:Int),vs=[.ref a,.int k]/\bg K H a (ns.map V.int)/\0<=k/\k<=1000/\∀(v:Int) (H':Hp),aA H H'->Q (.int v) H'
def vU:C5:=λds Q=>∃(ns:List Int) (k:Int),ds=[.list (ns.map PyData.int),.int k]/\0<=k/\k<=1000/\∀v:Int,Q (.int v)
theorem cM:w9 vU:=by
 rintro ds Q Q' f ⟨ns,k,e,h0,h1,q⟩;exact⟨ns,k,e,h0,h1,λv=>f _ (q v)⟩
theorem cN{K:ay}:Jl K (fF K) vU:=by
 rintro vs H Q P ds hP hv ⟨ns,k,rfl,h0,h1,q⟩;obtain⟨v,u,rfl,r1,r2⟩:=U9 hv;obtain⟨a,ys,rfl,g1,_,g2⟩:=aS.dE r1;rw[n8 g2]at g1;rw[aS.aQ r2];exact⟨a,ns,k,rfl,g1,h0,h1,λv H' s=>q v _ H' s (.int _)⟩
def pJ:C5:=λds Q=>∃(c:Int),ds=[.int c]/\∀k:Kd,C9 Dq k->Q (.tuple (oG k))
def iJ(K:ay):Sp:=RQ K pJ
theorem sZ:w9 pJ:=by
 rintro ds Q Q' f ⟨c,z1,q⟩;exact⟨c,z1,by intros;apply f;apply q<;>assumption⟩
theorem tj{K:ay}:Jl K (iJ K) pJ:=xY
def fG(_K:ay):Sp:=λvs H Q _=>∃c:Int,vs=[.int c]/\∀(n:Int) (H':Hp),aA H H'->Se n->Q (.int n) H'
def vV:C5:=λds Q=>∃(c:Int),ds=[.int c]/\∀n:Int,Se n->Q (.int n)
theorem lE:w9 vV:=by
 rintro ds Q Q' f ⟨c,e,q⟩;exact⟨c,e,λn h=>f _ (q n h)⟩
theorem lG{K:ay}:Jl K (fG K) vV:=by
 rintro vs H Q P ds hP hv ⟨c,rfl,q⟩;obtain⟨v,rfl⟩:=WT hv.1;rw[aS.aQ (hv.2 0 v _ rfl rfl)];exact⟨c,rfl,λn H' s hn=>q n hn _ H' s (.int _)⟩
def pL:C5:=λds Q=>∃(ns:List Int) (k:Nat),ds=[.list (ns.map PyData.int),.int (k:Int)]/\k<=20/\∀p:Pt,Gv p->Q (r6 p)
def iK(K:ay):Sp:=RQ K pL
theorem A6:w9 pL:=by
 rintro ds Q Q' f ⟨ns,k,z2,hk,q⟩;exact⟨ns,k,z2,hk,by intros;apply f;apply q<;>assumption⟩
theorem A7{K:ay}:Jl K (iK K) pL:=xY
def jW(K:ay)(wt:Bool):Sp:=λvs H Q _=>∃(x v:V) (y:Vl),vs=[x,v]/\xc K H wt v y/\y≠.none/\Q (.int (eS y)) H
def jX(K:ay)(af:Addr)(C:Addr)(wt:Bool):Sp:=λvs H Q _=>∃(mm:Mc) (fs:List Fm) (f:Fm) (st:List Vl) (x:Vl),vs=[.ref mm.ma,.ref f.fa]/\bM K H af C wt mm/\mm.aT=fs++[f]/\f.st=st++[x]/\(fs=[]->x≠.none)/\(∀g∈fs,g.st.length<=1000)/\mm.aT.length<=12 /\
 After K af C wt H mm (JY mm.pm (fs.map Fm.pf) x) (Q .non)
theorem OA{α:Type}{xs:List α}{i:Nat}(h:i < xs.length):(xs.take (xs.length - i))[(xs.take (xs.length - i)).length - 1]?=some (xs[xs.length - i - 1]'(by omega)):=by
 rw[abl,show min (xs.length - i) xs.length - 1=xs.length - i - 1 by omega,ab6 (by omega)];exact dN (by omega)
theorem OB{α:Type}{xs:List α}{i:Nat}(h:i < xs.length):(xs.take (xs.length - i)).dropLast=xs.take (xs.length - (i + 1)):=by
 rw[List.dropLast_eq_take,List.take_take,abl]
 congr 1
 omega
theorem Sm{α:Type}{xs:List α}{i:Nat}(h:i < xs.length):(xs.drop (xs.length - i)).reverse++[xs[xs.length - i - 1]'(by omega)]=(xs.drop (xs.length - (i + 1))).reverse:=by
 have e:xs.drop (xs.length - (i + 1))=xs[xs.length - i - 1]'(by omega)::xs.drop (xs.length - i):=by
  rw[show xs.length - (i + 1)=xs.length - i - 1 by omega,acz (by omega)]
  congr 2
  omega
 rw[e,aca]
def vW(K:ay):Sp:=λvs H Q _=>∃(sl:Addr) (xs:List V) (n:Nat),vs=[.ref sl,.int (n:Int)]/\H sl=some (.lst xs)/\n<=xs.length/\n<=100 /\
 ∀(l:Addr) (H':Hp),H l=none->H' l=some (.lst (xs.drop (xs.length - n)))->H' sl=some (.lst (xs.take (xs.length - n)))->(∀c o,c≠sl->H c=some o->H' c=some o)->Q (.ref l) H'
def Yw:Vl->Str
 | .rcd _=>"record"
 | _=>"number"
def e7(K:ay)(wt:Bool):Sp:=λvs H Q _=>∃(x:V) (y:Vl),y≠.none/\vs=[x,.str (Yw y),.int (eS y)]/\∀v H',aA H H'->xc K H' wt v y->Q v H'
def eD(K:ay)(af:Addr)(C:Addr)(wt:Bool):Sp:=λvs H Q _=>∃(mm:Mc) (fs:List Fm) (f:Fm) (g:PF) (r:Rw) (rt:Addr) (sd:List Int),vs=[.ref mm.ma,.ref f.fa,.ref rt]/\bM K H af C wt mm/\mm.aT=fs++[f]/\a8 K H rt (Sb r)/\JU r f.pf mm.said g sd/\f.st.length<=1000/\mm.said.length<=900000 /\
 ∀(f':Fm) (H':Hp),f'.pf=g->f'.fa=f.fa->f'.bl=f.bl->f'.sl=f.sl->bM K H' af C wt {mm with aT:=fs++[f'],said:=sd}->az (foot mm) H H'->Q .non H'
def pM(K:ay):Sp:=λvs H Q _=>∃(a:Addr) (ys:List V) (ss:Ub) (p:Int),vs=[.ref a,.int p]/\bg K H a ys/\Uc K H ys ss/\Q (Yq (jJ ss p)) H
def J3(H:Hp)(l:Addr):Nat:=match H l with
 | some (.lst xs)=>xs.length
 | _=>0
theorem A8{H:Hp}{l:Addr}{xs:List V}(h:H l=some (.lst xs)):J3 H l=xs.length:=by unfold J3;rw[h]
def jY(K:ay)(af:Addr):Sp:=λvs H Q _=>∃(pl lv:Addr) (xs:List V) (ps:List Pt) (aT:List Fm),vs=[.ref pl,.ref lv]/\H lv=some (.lst (aT.map λf=>.ref f.fa))/\(∀HX,az [lv] H HX->bg K HX pl xs/\aG K HX xs (ps.map r6))/\(∀f∈aT,(∃dx,H f.fa=some (.ins af dx (se f.part f.at' f.bl f.sl)))/\∃p,ps[f.part]?=some p) /\
 (∀(H':Hp),(∀f∈aT,Gu ps f.pf=none)->H' lv=some (.lst [])->az [lv] H H'->Q .non H') /\
 ∀(fs gs:List Fm) (f:Fm) (t:Nat) (H':Hp),aT=fs++f::gs->(∀g∈gs,Gu ps g.pf=none)->Gu ps f.pf=some t->H' lv=some (.lst ((fs++[f]).map λf=>.ref f.fa))->az [lv] H H'->Q (.int (t:Int)) H'
def qE(K:ay)(af:Addr)(C:Addr)(wt:Bool):Sp:=λvs H Q _=>∃(mm:Mc),vs=[.ref mm.ma]/\bM K H af C wt mm /\
 (0 < mm.left->∀H',bM K H' af C wt {mm with left:=mm.left - 1}->az [mm.ma] H H'->Q (.bl true) H')/\(mm.left<=0->∀H',bM K H' af C wt {mm with fin:=[.inl "weary"]}->az [mm.ma] H H'->Q (.bl false) H')
def qF(K:ay)(af:Addr)(C:Addr)(wt:Bool):Sp:=λvs H Q _=>∃(mm:Mc) (fs:List Fm) (f:Fm) (t:Nat),vs=[.ref mm.ma,.ref f.fa,.int (t:Int)]/\bM K H af C wt mm/\mm.aT=fs++[f] /\
 After K af C wt H mm (Vr mm.pm (fs.map Fm.pf) f.pf t) (Q .non)
theorem bM.cut{K:ay}{H H':Hp}{CF C:Addr}{wt:Bool}{m:Mc}{fs gs:List Fm}(h:bM K H CF C wt m)(hf:m.aT=fs++gs)(k:az [m.lv] H H')(e:H' m.lv=some (.lst (fs.map λf=>.ref f.fa))):bM K H' CF C wt {m with aT:=fs}/\∀c∈foot {m with aT:=fs},c∈foot m:=by
 have nd:=h.nd;have ef:foot m=m.ma::m.lv::m.rc::m.sd::(fs.flatMap eA++gs.flatMap eA):=by unfold foot;rw[hf];simp
 have ef2:foot {m with aT:=fs}=m.ma::m.lv::m.rc::m.sd::fs.flatMap eA:=rfl;rw[ef]at nd;simp only[List.nodup_cons,List.mem_cons,List.mem_append,not_or]at nd;have sub:∀c∈[m.lv],c∈foot m:=λc hc=>by rw[cj hc];exact cJ.2.1
 have zj:∀c∈foot {m with aT:=fs},c∈foot m:=λc hc=>by
  rw[ef2]at hc;rw[ef];simp only[List.mem_cons]at hc;simp only[List.mem_cons,List.mem_append];rcases hc with hc | hc | hc | hc | hc
  ·exact .inl hc
  ·exact .inr (.inl hc)
  ·exact .inr (.inr (.inl hc))
  ·exact .inr (.inr (.inr (.inl hc)))
  ·exact .inr (.inr (.inr (.inr (.inl hc))))
 have mu:=h.sX.sub sub;obtain⟨dx,ev,h1,h2⟩:=h.ob;refine⟨⟨⟨dx,ev,k _ _ (λz=>nd.1.1 (cj z)) h1,h2.keep k mu⟩,h.bk.to (k.sub sub) zj,e,h.rc.keep k mu (λz=>nd.2.1.1 (cj z).symm),k _ _ (λz=>nd.2.1.2.1 (cj z).symm) h.sd,λg hg=>(h.fr g (by rw[hf];exact abx _ hg)).keep k mu (λc hc hz=>?_),?_⟩,zj⟩
 ·rw[cj hz]at hc;exact nd.2.1.2.2.1 (abS.mpr ⟨g,hg,hc⟩)
 ·have nn:=nd.2.2.2.2;rw[List.nodup_append]at nn;rw[ef2];simp only[List.nodup_cons,List.mem_cons,not_or];exact⟨⟨nd.1.1,nd.1.2.1,nd.1.2.2.1,nd.1.2.2.2.1⟩,⟨nd.2.1.1,nd.2.1.2.1,nd.2.1.2.2.1⟩,⟨nd.2.2.1.1,nd.2.2.1.2.1⟩,nd.2.2.2.1.1,nn.1⟩
theorem bM.Vz{K:ay}{H H1:Hp}{CF C dx l:Addr}{wt:Bool}{m:Mc}{fs:List Fm}{f:Fm}{ys:List V}{st:List Vl}(h:bM K H CF C wt m)(hf:m.aT=fs++[f])(s:aA H H1)(nl:H l=none)(g:H1 l=some (.lst ys))(hy:eP K H1 wt ys st)(ob:H1 f.fa=some (.ins CF dx (se f.part f.at' f.bl f.sl))):bM K (upd H1 f.fa (.ins CF dx (se f.part f.at' f.bl l))) CF C wt {m with aT:=fs++[{f with sl:=l,st:=st}]}/\az (foot m) H (upd H1 f.fa (.ins CF dx (se f.part f.at' f.bl l))):=by
 have M1:=h.same s;have Yx:=h.sX;have nd:=h.nd;have mu:a6 H1 [f.fa]:=M1.sX.sub (λc hc=>by rw[cj hc];exact jT hf _ (by simp[eA]));have k:az [f.fa] H1 (upd H1 f.fa (.ins CF dx (se f.part f.at' f.bl l))):=aW;have nlf:l∉foot m:=Vs Yx nl
 have ef:∀c,c∈foot {m with aT:=fs++[{f with sl:=l,st:=st}]}->c∈foot m∨c=l:=λc hc=>by
  rw[cw (m:={m with aT:=fs++[{f with sl:=l,st:=st}]}) rfl]at hc;rw[cw hf];simp only[eA,List.mem_cons,List.mem_append,List.not_mem_nil,or_false]at hc ⊢;rcases hc with z | z | z | z | z | z | z | z
  ·exact .inl (.inl z)
  ·exact .inl (.inr (.inl z))
  ·exact .inl (.inr (.inr (.inl z)))
  ·exact .inl (.inr (.inr (.inr (.inl z))))
  ·exact .inl (.inr (.inr (.inr (.inr (.inl z)))))
  ·exact .inl (.inr (.inr (.inr (.inr (.inr (.inl z))))))
  ·exact .inl (.inr (.inr (.inr (.inr (.inr (.inr (.inl z)))))))
  ·exact .inr z
 have kA:az (foot m) H (upd H1 f.fa (.ins CF dx (se f.part f.at' f.bl l))):=(eB s).trans (k.sub λc hc=>by rw[cj hc];exact jT hf _ (by simp[eA]));rw[cw hf]at nd nlf;simp only[eA,List.nodup_cons,List.nodup_append,List.mem_cons,List.mem_append,List.not_mem_nil,or_false,not_or,not_false_eq_true,List.nodup_nil,and_true]at nd nlf;obtain⟨⟨dx',ev,h1,h2⟩,bk,lv,rc,sd,fr,_⟩:=M1;have hF:=fr f (by rw[hf];simp);have nfl:l≠f.fa:=nlf.2.2.2.2.2.1;have hne:f.bl≠l:=λe=>nlf.2.2.2.2.2.2.1 e.symm
 refine⟨⟨⟨dx',ev,k _ _ (λz=>nd.1.2.2.2.2.1 (cj z)) h1,h2.keep k mu⟩,?_,?_,rc.keep k mu (λz=>nd.2.2.1.2.2.1 (cj z)),k _ _ (λz=>nd.2.2.2.1.2.1 (cj z)) sd,λg' hg=>?_,?_⟩,kA⟩
 ·obtain⟨mk,pl,xs,hb⟩:=h.bk;refine⟨mk,pl,xs,λHX kX=>hb HX λc o n e=>kX c o (λhc=>?_) (kA c o n e)⟩;rcases ef c hc with z | z
  ·exact n z
  ·rw[z,nl]at e;cases e
 ·have z:=k _ _ (λz=>nd.2.1.2.2.2.1 (cj z)) lv;rw[hf]at z;show _=some (HO.lst ((fs++[{f with sl:=l,st:=st}]).map λf:Fm=>V.ref f.fa));rw[z,aba,aba];rfl
 ·rcases abw.mp hg with z | z
  ·refine(fr g' (by rw[hf];exact abx _ z)).keep k mu (λc hc hz=>?_);rw[cj hz]at hc;exact nd.2.2.2.2.2.2 f.fa (abS.mpr ⟨g',z,hc⟩) f.fa (.inl rfl) rfl
  ·rw[cj z];obtain⟨_,⟨bs,e2,e3⟩,_,_⟩:=hF;obtain⟨n1,n2⟩:=(fr f (by rw[hf];simp)).fs;exact⟨⟨dx,uS⟩,⟨bs,(uN n1.symm).trans e2,e3.keep k mu⟩,⟨ys,(uN nfl).trans g,hy.keep k mu⟩,hne⟩
 ·rw[cw (m:={m with aT:=fs++[{f with sl:=l,st:=st}]}) rfl];simp only[eA,List.nodup_cons,List.nodup_append,List.mem_cons,List.mem_append,List.not_mem_nil,or_false,not_or,not_false_eq_true,List.nodup_nil,and_true];obtain⟨a1,a2,a3,a4,b1,b2,b3⟩:=nd;refine⟨⟨a1.1,a1.2.1,a1.2.2.1,a1.2.2.2.1,a1.2.2.2.2.1,a1.2.2.2.2.2.1,λe=>nlf.1 e.symm⟩,⟨a2.1,a2.2.1,a2.2.2.1,a2.2.2.2.1,a2.2.2.2.2.1,λe=>nlf.2.1 e.symm⟩,⟨a3.1,a3.2.1,a3.2.2.1,a3.2.2.2.1,λe=>nlf.2.2.1 e.symm⟩,⟨a4.1,a4.2.1,a4.2.2.1,λe=>nlf.2.2.2.1 e.symm⟩,b1,⟨⟨b2.1.1,λe=>nfl e.symm⟩,λe=>hne e⟩,λc hc d hd e=>?_⟩;rcases hd with z | z | z
  ·exact b3 c hc d (.inl z) e
  ·exact b3 c hc d (.inr (.inl z)) e
  ·rw[e,z]at hc;exact nlf.2.2.2.2.1 hc
def qG(K:ay)(af:Addr)(C:Addr)(wt:Bool):Sp:=λvs H Q _=>∃(mm:Mc) (n:Int),vs=[.ref mm.ma,.int n]/\bM K H af C wt mm/\(∀f∈mm.aT,∃p,mm.ps[f.part]?=some p) /\
 After K af C wt H mm (vS mm.pm n) (Q .non)
def ou(K:ay)(af:Addr)(C:Addr)(wt:Bool):Sp:=λvs H Q _=>∃(mm:Mc) (fs:List Fm) (f:Fm) (r:Rw) (rt:Addr) (p':PM),vs=[.ref mm.ma,.ref f.fa,.ref rt]/\bM K H af C wt mm/\mm.aT=fs++[f]/\a8 K H rt (Sb r)/\JZ mm.pm/\Dm mm.pm (fs.map Fm.pf) f.pf r p' /\
 After K af C wt H mm p' (Q .non)
def jr(K:ay)(af:Addr)(C:Addr)(wt:Bool):Sp:=λvs H Q _=>∃(mm:Mc) (fs:List Fm) (f:Fm) (r:Rw) (rt:Addr) (p:Pt) (ks:List Kd),vs=[.ref mm.ma,.ref f.fa,.ref rt]/\bM K H af C wt mm/\mm.aT=fs++[f]/\a8 K H rt (Sb r)/\mm.ps[f.part]?=some p/\Wf mm.ms/\f.st.length<=1000/\ks.length<=1000/\(∀r∈mm.recs,r.c < mm.ms.length)/\(∀n,.rcd n∈f.st->n < mm.recs.length)/\J0 K mm.ms mm.ps f.part r ks /\
 ∀(H':Hp),aA H H'->Q (Vu (if wt=true then g7 mm.ms mm.recs p.height f.st ks (z7 r)else none)) H'
def gq(K:ay):Sp:=λvs H Q _=>∃(a:Addr) (ms:cW) (c:Nat),vs=[.ref a,.int c]/\cX K H a ms/\Wf ms/\c < ms.length/\∀(r:Addr) (H':Hp),aA H H'->H r=none->H' r=some (.lst (kK (bz ms c)))->Q (.ref r) H'
def gr(K:ay):Sp:=λvs H Q _=>∃(a:Addr) (ms:cW) (c:Nat),vs=[.ref a,.int c]/\cX K H a ms/\Wf ms/\My ms/\c < ms.length /\
 ∀(r:Addr) (ks:List V) (H':Hp),aA H H'->H r=none->H' r=some (.lst ks)->aG K H ks (df (fields ms c))->Q (.ref r) H'
def jZ(K:ay):Sp:=λvs H Q _=>∃(a:Addr) (ms:cW) (c:Nat),vs=[.ref a,.int c]/\cX K H a ms/\Wf ms/\My ms/\c < ms.length /\
 ∀(H':Hp),aA H H'->Q (.int (2 ^ (fields ms c).length - 1)) H'
def dh(K:ay):Sp:=λvs H Q _=>∃(mk rw:Addr) (ms:cW) (sign:Str) (xs:List V) (ks:List Kd),vs=[.ref mk,.ref rw]/\cX K H mk ms/\Wf ms/\My ms/\a8 K H rw (.str sign::xs)/\Df ms sign xs ks /\
 ∀(r:Addr) (ys:List V) (H':Hp),aA H H'->H r=none->H' r=some (.lst ys)->aG K H' ys (df ks)->Q (.ref r) H'
theorem OC:d5 aZ "call"=none:=by decide +kernel
theorem OD:d5 aZ "give"=none:=by decide +kernel
theorem Sn{ms:cW}{sign:Str}{xs:List V}{ks:List Kd}(h:Df ms sign xs ks):d5 aZ sign=none/\¬ (V.str sign=V.str "call")/\¬ (V.str sign=V.str "give"):=by
 cases h<;>exact⟨by decide +kernel,by decide +kernel,by decide +kernel⟩
def vX(K:ay):Sp:=λvs H Q _=>∃(b mk pl rw:Addr) (part:Nat) (sign:Str) (xs:List V) (ks:List Kd),vs=[.ref b,.int part,.ref rw]/\a8 K H b [.ref mk,.ref pl]/\a8 K H rw (.str sign::xs)/\vI K H mk pl part sign xs ks /\
 ∀(r:Addr) (ys:List V) (H':Hp),aA H H'->H r=none->H' r=some (.lst ys)->aG K H' ys (df ks)->Q (.ref r) H'
def lH(K:ay):Sp:=λvs H Q _=>∃(a:Addr) (ms:cW) (c o:Nat),vs=[.ref a,.int c,.int o]/\cX K H a ms/\Wf ms/\c < ms.length/\∀(H':Hp),aA H H'->Q (.bl (decide (o∈bz ms c))) H'
def dG(K:ay):Sp:=λvs H Q _=>∃(a:Addr) (ms:cW) (v:V) (t:Addr) (r:Rk) (k:Kd),vs=[.ref a,v,.ref t]/\cX K H a ms/\Wf ms/\HA K H true v r/\r.c < ms.length/\a8 K H t (QF k)/\k≠.any/\k≠.num/\∀(H':Hp),aA H H'->Q (.bl (Oo ms r k)) H'
def lI(K:ay):Sp:=λvs H Q _=>∃(a:Addr) (ms:cW) (hp:Addr) (rs:List V) (rcs:List Rk) (v:V) (x:Vl) (t:Addr) (k:Kd),vs=[.ref a,.ref hp,v,.ref t]/\cX K H a ms/\Wf ms/\bg K H hp rs/\Mz (HA K H true) rs rcs/\(∀r∈rcs,r.c < ms.length)/\aR K H v (Dg x)/\(∀n,x=.rcd n->n < rcs.length)/\a8 K H t (QF k) /\
 ∀(H':Hp),aA H H'->Q (.bl (hasB ms rcs x k)) H'
def sq(K:ay):Sp:=λvs H Q _=>∃(rw:Addr) (sign:Str) (xs:List V),vs=[.ref rw]/\a8 K H rw (.str sign::xs)/\Q (.int (iX sign)) H
def uO(K:ay)(af:Addr)(C:Addr)(wt:Bool):Sp:=λvs H Q _=>∃(mm:Mc) (p':PM),vs=[.ref mm.ma]/\bM K H af C wt mm/\A4 K wt mm.pm p' /\
 After K af C wt H mm p' (Q .non)
def uP(K:ay)(af:Addr)(C:Addr)(wt:Bool):Sp:=λvs H Q _=>∃(mm:Mc),vs=[.ref mm.ma]/\bM K H af C wt mm/\mm.said.length<=900000 /\
 ∀(t l:Addr) (ev:V) (H':Hp),aA H H'->H l=none->H' l=some (.lst (mm.said.map V.int))->a8 K H' t [ev,.ref l,.int mm.left]->fE K H' ev mm.fin->Q (.ref t) H'
def fH(K:ay)(af:Addr)(C:Addr)(wt:Bool):Sp:=λvs H Q _=>∃(mm:Mc) (n:Nat) (p2:PM),vs=[.ref mm.ma]/\bM K H af C wt mm/\si K wt n mm.pm p2/\p2.said.length<=900000 /\
 ∀(t l:Addr) (ev:V) (H':Hp),az (foot mm) H H'->(l∉foot mm->H l=none)->a8 K H' t [ev,.ref l,.int p2.left]->H' l=some (.lst (p2.said.map V.int))->fE K H' ev p2.fin->Q (.ref t) H'
def bC:Kd->Bool
 | .num=>true
 | _=>false
theorem A9(k:Kd):PyData.eqv (.tuple (oG k)) (.tuple [.str "number"])=bC k:=by
 cases k with
 | any=>decide +kernel
 | num=>decide +kernel
 | whole c=>rfl
 | raw c m=>rfl
def pO(K:ay):Sp:=λvs H Q _=>∃(tl:Addr) (g:V) (ys:List V) (ks:List Kd) (gk:Kd),vs=[.ref tl,g]/\bg K H tl ys/\aG K H ys (df ks)/\aR K H g (.tuple (oG gk))/\ks.length<=100 /\
 ∀(H':Hp),aA H H'->Q (.bl ((ks++[gk]).all bC)) H'
def js(ps:List Pt)(j:Int)(n:Nat):Prop:=∃p,0<=j/\ps[j.toNat]?=some p/\(p.takes++[p.gives]).all bC=true/\n=p.takes.length
def dm(ps:List Pt)(j:Int)(n:Nat):Option Pt:=if 0<=j then(ps[j.toNat]?).bind λp=>if (p.takes++[p.gives]).all bC=true/\n=p.takes.length then some p else none else none
theorem iL{ps:List Pt}{j:Int}{n:Nat}{p:Pt}:dm ps j n=some p↔0<=j/\ps[j.toNat]?=some p/\(p.takes++[p.gives]).all bC=true/\n=p.takes.length:=by
 unfold dm
 constructor
 ·intro h;split at h
  ·rename_i h0
   cases e:ps[j.toNat]? with
   | none=>rw[e]at h;cases h
   | some q =>
    rw[e]at h;have h:(if (q.takes++[q.gives]).all bC=true/\n=q.takes.length then some q else none)=some p:=h;split at h
    ·rename_i hh;cases h;exact⟨h0,rfl,hh.1,hh.2⟩
    ·cases h
  ·cases h
 ·rintro⟨h0,h1,h2⟩;rw[aa7 h0,h1];show(if (p.takes++[p.gives]).all bC=true/\n=p.takes.length then some p else none)=some p;rw[aa7 h2]
def oy(p:Pt):PyData:=match p.rows with
 | [.push w,.bare s]=>.tuple [.str (if s="give" then "gave" else "fault"),.int w]
 | _=>.none
theorem vY{p:Pt}{w:Int}(e:p.rows=[.push w,.bare "toss"]):oy p=.tuple [.str "fault",.int w]:=by
 unfold oy;rw[e];show PyData.tuple [.str (if ("toss" : Str)="give" then "gave" else "fault"),.int w]=_;rw[if_neg (by decide +kernel)]
theorem vZ{p:Pt}{w:Int}(e:p.rows=[.push w,.bare "give"]):oy p=.tuple [.str "gave",.int w]:=by
 unfold oy;rw[e];show PyData.tuple [.str (if ("give" : Str)="give" then "gave" else "fault"),.int w]=_;rw[if_pos rfl]
def Ba(ps:List Pt)(j:Int)(n:Nat)(bud:Int):PyData:=match dm ps j n with
 | some p=>.tuple [oy p,.list [],.int bud]
 | none=>.none
def iZ(K:ay)(ar:Addr):Sp:=λvs H Q E=>∃(pl il:Addr) (xs zs:List V) (ps:List Pt) (j:Int),vs=[.ref pl,.int j,.ref il]/\bg K H pl xs/\aG K H xs (ps.map r6)/\(∀p∈ps,p.takes.length<=100)/\bg K H il zs /\
 (js ps j zs.length->∀(H':Hp),aA H H'->Q .non H')/\(¬ js ps j zs.length->∀(H':Hp),aA H H'->E (.ref ar) none H')
def Gw(D:List Addr)(H H' HX:Hp):Prop:=∀c o,c∉D->H' c=some o->(∀z,H c=some z->¬ xb z)->HX c=some o
theorem a8.yc{K:ay}{H HX:Hp}{t:Addr}{xs:List V}(e:∀c o,H c=some o->¬ xb o->HX c=some o)(h:a8 K H t xs):a8 K HX t xs:=by
 rcases h with(h | ⟨u,h⟩) | h
 ·exact .inl (.inl (e _ _ h (by rintro(⟨xs,z⟩ | ⟨C,dx,fs,z⟩ | ⟨φ,z⟩)<;>cases z)))
 ·exact .inl (.inr ⟨u,e _ _ h (by rintro(⟨xs,z⟩ | ⟨C,dx,fs,z⟩ | ⟨φ,z⟩)<;>cases z)⟩)
 ·exact .inr h
theorem aG.yc{K:ay}{H HX:Hp}{α:Type}{f:α->PyData}{g:α->List V}{xs:List V}{ks:List α}(inv:∀v k,aR K H v (f k)->∃t:Addr,v=.ref t/\a8 K H t (g k))(mk:∀(t:Addr) k,a8 K HX t (g k)->aR K HX (.ref t) (f k))(e:∀c o,H c=some o->¬ xb o->HX c=some o)(h:aG K H xs (ks.map f)):aG K HX xs (ks.map f):=by
 refine aG.of (by rw[h.1,aab]) λj k hk=>?_
 obtain⟨v,hv,hr⟩:=aG.at h (i:=j) (d:=f k) (by rw[aa1,hk];rfl);obtain⟨t,rfl,ht⟩:=inv v k hr;exact⟨_,hv,mk t k (a8.yc e ht)⟩
theorem So{K:ay}{H:Hp}(v:V)(s:Nat×Nat×Nat)(h:aR K H v (JK s)):∃t:Addr,v=.ref t/\a8 K H t (Ym s):=by
 obtain⟨t,xs,rfl,hT,hR⟩:=aR.cf h;have hl:=hR.1;obtain⟨x0,x1,x2,rfl⟩:=ex3 hl;have z0:=aR.aQ (hR.2 0 x0 _ rfl rfl);have z1:=aR.aQ (hR.2 1 x1 _ rfl rfl);have z2:=aR.aQ (hR.2 2 x2 _ rfl rfl);subst z0;subst z1;subst z2;exact⟨t,rfl,hT⟩
theorem yd{K:ay}{H HX:Hp}{xs:List V}{ks:List Kd}(e:∀c o,H c=some o->¬ xb o->HX c=some o)(h:aG K H xs (df ks)):aG K HX xs (df ks) :=
 aG.yc (g:=QF) (λ_ _ z=>Dl z) (λ_ _ z=>ya z) e h
theorem Gx{K:ay}{H HX:Hp}{xs:List V}{ks:List Rw}(e:∀c o,H c=some o->¬ xb o->HX c=some o)(h:aG K H xs (ks.map Gp)):aG K HX xs (ks.map Gp) :=
 aG.yc (g:=Sb) (λ_ _ z=>rw_inv z) (λ_ _ z=>Vn z) e h
theorem Gy{K:ay}{H HX:Hp}{xs:List V}{ks:List (Nat×Nat×Nat)}(e:∀c o,H c=some o->¬ xb o->HX c=some o)(h:aG K H xs (ks.map JK)):aG K HX xs (ks.map JK) :=
 aG.yc (g:=Ym) So (λ_ _ z=>Vo z) e h
theorem Gw.sub{D G:List Addr}{H H1 H2 HX:Hp}(k:Gw D H H2 HX)(s:∀c o,c∉G->H1 c=some o->H2 c=some o)(g:∀c∈D,c∈G∨H1 c=none):Gw G H H1 HX:=λc o n e m =>
 k c o (λz=>(g c z).elim n (λy=>by rw[y]at e;cases e)) (s c o n e) m
def su(K:ay):Sp:=λvs H Q _=>∃(b:Addr) (ms:cW) (ps:List Pt),vs=[.ref b]/\aR K H (.ref b) (wW ms ps)/\ms.length<=8/\ps.length<=8 /\
 ∀(r:Addr) (H':Hp),aA H H'->(∃(mk pl:Addr) (xs:List V),∀HX,Gw [] H H' HX->a8 K HX r [.ref mk,.ref pl]/\cX K HX mk ms/\bg K HX pl xs/\aG K HX xs (ps.map r6))->Q (.ref r) H'
def i4(_K:ay)(C:Addr):Sp:=λvs H Q _=>∃(x dx bl:Addr) (p:Int),vs=[.ref x,.int p,.ref bl]/\H x=some (.ins C dx []) /\
 ∀(sl:Addr) (H':Hp),H sl=none->H' x=some (.ins C dx (se p 0 bl sl))->H' sl=some (.lst [])->(∀c o,c≠x->H c=some o->H' c=some o)->Q .non H'
def pP(K:ay)(af:Addr):Sp:=λvs H Q _=>∃(pl vl:Addr) (ps:List Pt) (xs ys:List V) (j:Nat) (p:Pt) (n:V),vs=[.ref pl,.int (j:Int),.ref vl,n]/\bg K H pl xs/\aG K H xs (ps.map r6)/\ps[j]?=some p/\bg K H vl ys/\ys.length<=p.boxes/\p.boxes<=8 /\
 ∀(fa bl sl:Addr) (H':Hp),H fa=none->H bl=none->H sl=none->bl≠sl->(∃dx,H' fa=some (.ins af dx (se (j:Int) 0 bl sl)))->H' bl=some (.lst (ys++List.replicate (p.boxes - ys.length) n))->H' sl=some (.lst [])->aA H H'->Q (.ref fa) H'
def g8(K:ay)(wt:Bool):Sp:=λvs H Q _=>∃(x:V),vs=[x]/\∀v,xc K H wt v .none->Q v H
theorem bM.push{K:ay}{H H1:Hp}{CF C:Addr}{wt:Bool}{m:Mc}{f:Fm}(h:bM K H CF C wt m)(s:aA H H1)(hF:eQ K H1 CF wt f)(fr:∀c∈eA f,H c=none)(nf:(eA f).Nodup):bM K (upd H1 m.lv (.lst ((m.aT++[f]).map λf=>.ref f.fa))) CF C wt {m with aT:=m.aT++[f]}/\az (foot m) H (upd H1 m.lv (.lst ((m.aT++[f]).map λf=>.ref f.fa))):=by
 have M1:=h.same s;have Yx:=h.sX;have nd:=M1.nd;have kx:az [m.lv] H1 (upd H1 m.lv (.lst ((m.aT++[f]).map λf=>.ref f.fa))):=aW;have sub:∀c∈[m.lv],c∈foot m:=λc hc=>by rw[cj hc];simp[foot]
 have mu:=M1.sX.sub sub;have kA:az (foot m) H (upd H1 m.lv (.lst ((m.aT++[f]).map λf=>.ref f.fa))):=(eB s).trans (kx.sub sub);have ef:foot {m with aT:=m.aT++[f]}=foot m++eA f:=by simp[foot]
 have dis:∀c∈eA f,c∉foot m:=λc hc hz=>by
  obtain⟨o,e,_⟩:=Yx c hz;rw[fr c hc]at e;cases e
 have VA:=nd;simp only[foot,List.nodup_cons,List.mem_cons,not_or]at VA;obtain⟨dx,ev,h1,h2⟩:=M1.ob;refine⟨⟨⟨dx,ev,kx _ _ (λz=>VA.1.1 (cj z)) h1,h2.keep kx mu⟩,?_,uS,M1.rc.keep kx mu (λz=>VA.2.1.1 (cj z).symm),kx _ _ (λz=>VA.2.1.2.1 (cj z).symm) M1.sd,λg hg=>?_,?_⟩,kA⟩
 ·obtain⟨mk,pl,xs,hb⟩:=h.bk;refine⟨mk,pl,xs,λHX kX=>hb HX λc o n e=>kX c o ?_ (kA c o n e)⟩;rw[ef,abw,not_or];exact⟨n,λhz=>by rw[fr c hz]at e;cases e⟩
 ·rcases abw.mp hg with z | z
  ·refine(M1.fr g z).keep kx mu (λc hc hz=>?_);rw[cj hz]at hc;exact VA.2.1.2.2 (abS.mpr ⟨g,z,hc⟩)
  ·rw[cj z];refine hF.keep kx mu (λc hc hz=>dis c hc (sub c hz))
 ·rw[ef,acb];exact⟨nd,nf,λc hc d hd e=>dis d hd (by rw[← e];exact hc)⟩
def gu(K:ay)(af:Addr)(C:Addr)(wt:Bool):Sp:=λvs H Q _=>∃(mm:Mc) (vl:Addr) (ys:List V) (us:List Vl) (j:Nat) (p:Pt),vs=[.ref mm.ma,.int (j:Int),.ref vl]/\bM K H af C wt mm/\mm.ps[j]?=some p/\bg K H vl ys/\eP K H wt ys us/\us.length<=p.boxes/\p.boxes<=8/\mm.aT.length<=100 /\
 ∀(f:Fm) (H':Hp),bM K H' af C wt {mm with aT:=mm.aT++[f]}->f.part=j->f.at'=0->f.bx=us++List.replicate (p.boxes - us.length) .none->f.st=[]->(∀c∈eA f,H c=none)->az (foot mm) H H'->Q .non H'
theorem Sq{b lv rc sd:Addr}{l:Int}{e:V}:aX "end" e (aX "left" (.int l) (aX "said" (.ref sd) (aX "records" (.ref rc) (aX "live" (.ref lv) (aX "book" (.ref b) [])))))=pH b lv rc sd l e:=by
 have e1:aX "book" (.ref b) []=([("book",.ref b)]:List (Str×V)):=rfl;have e2:aX "live" (.ref lv) ([("book",.ref b)]:List (Str×V))=([("book",.ref b),("live",.ref lv)]:List (Str×V)):=by rw[oi (by decide +kernel)];rfl
 have e3:aX "records" (.ref rc) ([("book",.ref b),("live",.ref lv)]:List (Str×V))=([("book",.ref b),("live",.ref lv),("records",.ref rc)]:List (Str×V)):=by rw[oi (by decide +kernel),oi (by decide +kernel)];rfl
 have e4:aX "said" (.ref sd) ([("book",.ref b),("live",.ref lv),("records",.ref rc)]:List (Str×V))=([("book",.ref b),("live",.ref lv),("records",.ref rc),("said",.ref sd)]:List (Str×V)):=by rw[oi (by decide +kernel),oi (by decide +kernel),oi (by decide +kernel)];rfl
 have e5:aX "left" (.int l) ([("book",.ref b),("live",.ref lv),("records",.ref rc),("said",.ref sd)]:List (Str×V))=([("book",.ref b),("live",.ref lv),("records",.ref rc),("said",.ref sd),("left",.int l)]:List (Str×V)):=by rw[oi (by decide +kernel),oi (by decide +kernel),oi (by decide +kernel),oi (by decide +kernel)];rfl
 rw[e1,e2,e3,e4,e5,oi (by decide +kernel),oi (by decide +kernel),oi (by decide +kernel),oi (by decide +kernel),oi (by decide +kernel)];rfl
theorem lJ{f:Str}{v:V}{l:List (Str×V)}{n:Nat}(h:l.length<=n):(aX f v l).length<=n + 1:=abj (dO _ _ _) (by omega)
theorem Sr{H2 H3:Hp}{x l:Addr}{o o':HO}(k:az [x] H2 H3)(hx:H3 x=some o)(hl:H3 l=none):az [x] H2 (upd (upd H3 l (.lst [])) x o')/\upd (upd H3 l (.lst [])) x o' x=some o'/\upd (upd H3 l (.lst [])) x o' l=some (.lst [])/\H2 l=none/\l≠x/\(∀c p,c≠x->H3 c=some p->upd (upd H3 l (.lst [])) x o' c=some p):=by
 have ne:=nN hx hl
 have k':∀c p,c≠x->H3 c=some p->upd (upd H3 l (.lst [])) x o' c=some p:=λc p n e=>by
  rw[uN n,uN (nN e hl)];exact e
 refine⟨λc p n e=>k' c p (λz=>n (by rw[z];exact abi.mpr rfl)) (k c p n e),uS,(uN ne.symm).trans uS,?_,ne.symm,k'⟩
 cases e:H2 l with
 | none=>rfl
 | some p=>rw[k l p (λz=>ne (cj z).symm) e]at hl;cases hl
def bQ(K:ay)(af:Addr)(C:Addr)(wt:Bool)(ar:Addr):Sp:=λvs H Q E=>∃(x dx b il:Addr) (j bud:Int) (ms:cW) (ps:List Pt) (ws:List Int),vs=[.ref x,.ref b,.int j,.ref il,.int bud]/\H x=some (.ins C dx [])/\aR K H (.ref b) (wW ms ps)/\ms.length<=8/\ps.length<=8/\(∀p∈ps,p.takes.length<=100)/\bg K H il (ws.map V.int) /\
 (∀(jn:Nat) (p:Pt),j=(jn:Int)->ps[jn]?=some p->(p.takes++[p.gives]).all bC=true->ws.length=p.takes.length->(ws.length<=p.boxes/\p.boxes<=8)/\∀(bb lv rc sd:Addr) (f:Fm) (H':Hp),f.part=jn->f.at'=0->f.bx=ws.map Vl.num++List.replicate (p.boxes - ws.length) .none->f.st=[]->bM K H' af C wt ⟨x,bb,lv,rc,sd,ms,ps,[f],[],[],bud,[]⟩->(∀c∈foot ⟨x,bb,lv,rc,sd,ms,ps,[f],[],[],bud,[]⟩,c≠x->H c=none)->az [x] H H'->(∀G,a6 H G->Si K (foot ⟨x,bb,lv,rc,sd,ms,ps,[f],[],[],bud,[]⟩++G) H' bb ms ps)->(∀HX,(∀c o,c∉foot ⟨x,bb,lv,rc,sd,ms,ps,[f],[],[],bud,[]⟩->(∀z,H c=some z->¬ xb z)->H' c=some o->HX c=some o)->aR K HX (.ref bb) (wW ms ps))->Q .non H') /\
 (¬ js ps j ws.length->∀H',aA H H'->E (.ref ar) none H')
@[reducible] def J4(CF C:Addr)(wt:Bool)(CD:Addr)(xs:List DV)(st:aO)(Q:DC)(Ex:Addr->Gi->Prop):Prop:=match rS st xs with
 | some ds=>∃(ms:cW) (ps:List Pt) (j:Int) (ws:List Int) (bud:Int),ds=[wW ms ps,.int j,.list (ws.map PyData.int),.int bud]/\(ms.length<=8/\ps.length<=8/\∀p∈ps,p.takes.length<=100) /\
  (∀(jn:Nat) (p:Pt),j=(jn:Int)->ps[jn]?=some p->(p.takes++[p.gives]).all bC=true->ws.length=p.takes.length->(ws.length<=p.boxes/\p.boxes<=8)/\Q (.ref st.length) (st++[.obj (Vx CF C wt (cB ms ps jn p ws bud))]))/\(¬ js ps j ws.length->Ex CD [])
 | none=>False
theorem Bb{J:KF}{CF C CD:Addr}{wt:Bool}:ANX J C (bQ J CF C wt CD) (J4 CF C wt CD):=by
 intro H0 A0 G al H st vs ds Q Ex R E I hp q kn kx x dx nx ndx ne;unfold J4 at q;split at q
 ·rename_i es e;obtain⟨ms,ps,ji,ws,bud,rfl,⟨c1,c2,c3⟩,q,qe⟩:=q;have rd:=EX I hp e;obtain⟨v0,v1,v2,v3,rfl⟩:=Yl rd.1;have y:=(gE (H':=upd (upd H dx (.own x)) x (.ins C dx [])) nx ndx ne az.refl).1;have r0:=rd.2 0 v0 _ rfl rfl;have r1:=rd.2 1 v1 _ rfl rfl;have r2:=rd.2 2 v2 _ rfl rfl;have r3:=rd.2 3 v3 _ rfl rfl;obtain⟨b,_,_,_,rfl,_⟩:=ze r0;rw[aR.aQ r1,aR.aQ r3];obtain⟨il,ys,rfl,g1,_,g2⟩:=aS.dE (Jm r2);rw[n8 g2]at g1;refine⟨x,dx,b,il,ji,bud,ms,ps,ws,rfl,uS,aR.same y r0,c1,c2,c3,y.seq g1,λj p ej c4 c5 c6=>?_,λnd H' s=>kx _ [] none H' (qe nd) (y.trans s) (.inl rfl)⟩;obtain⟨bx,q⟩:=q j p ej c4 c5 c6;refine⟨bx,λbb lv rc sd f H' e1 e2 e3 e4 M fr k1 _ bk=>⟨rfl,?_⟩⟩;have s1:=(gE nx ndx ne k1).2
  have z1:∀c∈foot ⟨x,bb,lv,rc,sd,ms,ps,[f],[],[],bud,[]⟩,H c=none:=λc hc=>by
   by_cases e:c=x
   ·rw[e];exact nx
   ·exact y.free (fr c hc e)
  have ep:(⟨x,bb,lv,rc,sd,ms,ps,[f],[],[],bud,[]⟩:Mc).pm=cB ms ps j p ws bud:=by
   unfold Mc.pm cB;show(⟨ms,ps,[f.pf],[],[],bud,[]⟩:PM)=_;unfold Fm.pf;rw[e1,e2,e3,e4]
  have apart:∀(c:Addr),c∉foot ⟨x,bb,lv,rc,sd,ms,ps,[f],[],[],bud,[]⟩->(∀z,upd (upd H dx (.own x)) x (.ins C dx []) c=some z->¬ xb z)->¬ (Fb G (al++[foot ⟨x,bb,lv,rc,sd,ms,ps,[f],[],[],bud,[]⟩]) (st++[.obj (Vx CF C wt (cB ms ps j p ws bud))]) c∨c∈foot ⟨x,bb,lv,rc,sd,ms,ps,[f],[],[],bud,[]⟩):=λc n m z=>by
   rcases z with(z | ⟨jj,fp,ce,w1,w2,w3,w4⟩) | z
   ·obtain⟨o',e',m'⟩:=I.gs c z;exact m o' (y _ _ e') m'
   ·by_cases w:jj < al.length
    ·rw[aaX w]at w1;rw[aaX (by rw[← I.len];exact w)]at w3;obtain⟨o',e',m'⟩:=I.w8 (.inr ⟨jj,fp,ce,w1,w2,w3,w4⟩);exact m o' (y _ _ e') m'
    ·rw[aa3 (by omega)]at w1;rw[cj (abd w1)]at w2;exact n w2
   ·exact n z
  obtain⟨E1,I1⟩:=I.more (c:=.obj (Vx CF C wt (cB ms ps j p ws bud))) z1 M.nd s1 (λa ha=>by obtain⟨o,e,_⟩:=M.sX a ha;exact⟨o,e⟩) ⟨(by simp[foot]),_,rfl,ep,M,bk _ λc o n m e=>aY.mpr ⟨apart c n m,e⟩⟩;exact kn (.ref st.length) _ _ _ _ E1 I1 ⟨x,_,by rw[← I.len,List.getElem?_append_right (Nat.le_refl _),Nat.sub_self];rfl,rfl⟩ q
 ·exact q.elim
def zk(K:ay)(ar:Addr):Sp:=λvs H Q E=>∃(b il:Addr) (j bud:Int) (ms:cW) (ps:List Pt) (ws:List Int),vs=[.ref b,.int j,.ref il,.int bud]/\aR K H (.ref b) (wW ms ps)/\ms.length<=8/\ps.length<=8/\(∀p∈ps,p.takes.length<=100)/\bg K H il (ws.map V.int) /\
 (∀(jn:Nat) (p:Pt),j=(jn:Int)->ps[jn]?=some p->(p.takes++[p.gives]).all bC=true->ws.length=p.takes.length->(ws.length<=p.boxes/\p.boxes<=8)/\∃n p2,si K false n (cB ms ps jn p ws bud) p2/\p2.said.length<=900000 /\
 ∀(t l:Addr) (ev:V) (H':Hp),aA H H'->H l=none->a8 K H' t [ev,.ref l,.int p2.left]->H' l=some (.lst (p2.said.map V.int))->fE K H' ev p2.fin->Q (.ref t) H')/\(¬ js ps j ws.length->∀H',aA H H'->E (.ref ar) none H')
def QJ(K:ay)(ar:Addr):TZ:=λds Q Ex=>∃(j bud:Int) (ms:cW) (ps:List Pt) (ws:List Int),ds=[wW ms ps,.int j,.list (ws.map PyData.int),.int bud]/\ms.length<=8/\ps.length<=8/\(∀p∈ps,p.takes.length<=100)/\(∀(jn:Nat) (p:Pt),j=(jn:Int)->ps[jn]?=some p->(p.takes++[p.gives]).all bC=true->ws.length=p.takes.length->(ws.length<=p.boxes/\p.boxes<=8)/\∃n p2,si K false n (cB ms ps jn p ws bud) p2/\p2.said.length<=900000/\Q (sY p2))/\(¬ js ps j ws.length->Ex ar [])
theorem Ss{K:ay}{ar:Addr}:Jz (QJ K ar):=by
 rintro ds Q Q' X X' f f2 ⟨j,bud,ms,ps,ws,e,h1,h2,h3,h4,h5⟩;exact⟨j,bud,ms,ps,ws,e,h1,h2,h3,λjn p a b c d=>let ⟨z,n,p2,r,s,q⟩:=h4 jn p a b c d;⟨z,n,p2,r,s,f _ q⟩,λn=>f2 _ _ (h5 n)⟩
theorem Su{K:ay}{ar:Addr}:R4 K (zk K ar) (QJ K ar):=by
 rintro vs H Q E P ds hP hv ⟨j,bud,ms,ps,ws,rfl,h1,h2,h3,h4,h5⟩;obtain⟨v0,v1,v2,v3,rfl⟩:=Yl hv.1;have r0:=hv.2 0 v0 _ rfl rfl;obtain⟨b,bs,rfl,_,_,_⟩:=aS.cf (show aS K P H v0 (.tuple _)from r0);have r1:=aS.aQ (hv.2 1 v1 _ rfl rfl);obtain⟨il,is,rfl,hI,_,Yy⟩:=aS.dE (hv.2 2 v2 _ rfl rfl);have r3:=aS.aQ (hv.2 3 v3 _ rfl rfl);subst r1;subst r3;have ei:is=ws.map V.int:=n8 Yy;subst ei;refine⟨b,il,j,bud,ms,ps,ws,rfl,r0.now,h1,h2,h3,hI,λjn p a b c d=>?_,λn H' s=>h5 n none H' s (.inl rfl)⟩;obtain⟨z,n,p2,r,s,q⟩:=h4 jn p a b c d;exact⟨z,n,p2,r,s,λt l ev H' s nl gt g hE=>q _ H' s (A5 hP s nl gt g hE)⟩
def eE(K:ay)(ar:Addr):Sp:=λvs H Q E=>∃(b il:Addr) (j bud:Int) (ms:cW) (ps:List Pt) (ws:List Int),vs=[.ref b,.int j,.ref il,.int bud]/\aR K H (.ref b) (wW ms ps)/\ms.length<=8/\ps.length<=8/\(∀p∈ps,p.takes.length<=100)/\bg K H il (ws.map V.int) /\
 (∀(jn:Nat) (p:Pt),j=(jn:Int)->ps[jn]?=some p->(p.takes++[p.gives]).all bC=true->ws.length=p.takes.length->(ws.length<=p.boxes/\p.boxes<=8)/\∃n p2,si K true n (cB ms ps jn p ws bud) p2/\p2.said.length<=900000 /\
 ∀(t l:Addr) (ev:V) (H':Hp),aA H H'->H l=none->a8 K H' t [ev,.ref l,.int p2.left]->H' l=some (.lst (p2.said.map V.int))->fE K H' ev p2.fin->Q (.ref t) H')/\(¬ js ps j ws.length->∀H',aA H H'->E (.ref ar) none H')
def oJ(K:ay)(ar:Addr):TZ:=λds Q Ex=>∃(j bud:Int) (ms:cW) (ps:List Pt) (ws:List Int),ds=[wW ms ps,.int j,.list (ws.map PyData.int),.int bud]/\ms.length<=8/\ps.length<=8/\(∀p∈ps,p.takes.length<=100)/\(∀(jn:Nat) (p:Pt),j=(jn:Int)->ps[jn]?=some p->(p.takes++[p.gives]).all bC=true->ws.length=p.takes.length->(ws.length<=p.boxes/\p.boxes<=8)/\∃n p2,si K true n (cB ms ps jn p ws bud) p2/\p2.said.length<=900000/\Q (sY p2))/\(¬ js ps j ws.length->Ex ar [])
theorem v5{K:ay}{ar:Addr}:Jz (oJ K ar):=by
 rintro ds Q Q' X X' f f2 ⟨j,bud,ms,ps,ws,e,h1,h2,h3,h4,h5⟩;exact⟨j,bud,ms,ps,ws,e,h1,h2,h3,λjn p a b c d=>let ⟨z,n,p2,r,s,q⟩:=h4 jn p a b c d;⟨z,n,p2,r,s,f _ q⟩,λn=>f2 _ _ (h5 n)⟩
theorem v7{K:ay}{ar:Addr}:R4 K (eE K ar) (oJ K ar):=by
 rintro vs H Q E P ds hP hv ⟨j,bud,ms,ps,ws,rfl,h1,h2,h3,h4,h5⟩;obtain⟨v0,v1,v2,v3,rfl⟩:=Yl hv.1;have r0:=hv.2 0 v0 _ rfl rfl;obtain⟨b,bs,rfl,_,_,_⟩:=aS.cf (show aS K P H v0 (.tuple _)from r0);have r1:=aS.aQ (hv.2 1 v1 _ rfl rfl);obtain⟨il,is,rfl,hI,_,Yy⟩:=aS.dE (hv.2 2 v2 _ rfl rfl);have r3:=aS.aQ (hv.2 3 v3 _ rfl rfl);subst r1;subst r3;have ei:is=ws.map V.int:=n8 Yy;subst ei;refine⟨b,il,j,bud,ms,ps,ws,rfl,r0.now,h1,h2,h3,hI,λjn p a b c d=>?_,λn H' s=>h5 n none H' s (.inl rfl)⟩;obtain⟨z,n,p2,r,s,q⟩:=h4 jn p a b c d;exact⟨z,n,p2,r,s,λt l ev H' s nl gt g hE=>q _ H' s (A5 hP s nl gt g hE)⟩
def tm(K:ay)(H:Hp)(wt:Bool)(y:V)(f:Fm):Prop:=∃(t tb ts:Addr) (bvs svs:List V),y=.ref t/\a8 K H t [.int (f.part:Int),.int (f.at':Int),.ref tb,.ref ts]/\a8 K H tb bvs/\eP K H wt bvs f.bx/\a8 K H ts svs/\eP K H wt svs f.st
theorem tm.same{K:ay}{H H':Hp}{wt:Bool}{y:V}{f:Fm}(e:aA H H')(h:tm K H wt y f):tm K H' wt y f:=by
 obtain⟨t,tb,ts,bvs,svs,h1,h2,h3,h4,h5,h6⟩:=h;exact⟨t,tb,ts,bvs,svs,h1,e.tup h2,e.tup h3,h4.same e,e.tup h5,h6.same e⟩
def i5(K:ay)(af:Addr):Sp:=λvs H Q _=>∃(wt:Bool) (f:Fm),vs=[.ref f.fa]/\eQ K H af wt f/\∀y H',aA H H'->tm K H' wt y f->Q y H'
def FTs(K:ay)(H:Hp)(wt:Bool)(ys:List V)(fs:List Fm):Prop:=ys.length=fs.length/\∀(j:Nat) y f,ys[j]?=some y->fs[j]?=some f->tm K H wt y f
theorem tm.VB{K:ay}{H:Hp}{wt:Bool}{y:V}{f:Fm}{r:Addr}{zs:List V}{o:HO}(h:tm K H wt y f)(hr:H r=some (.lst zs)):tm K (upd H r o) wt y f:=by
 have kx:az [r] H (upd H r o):=aW;have mu:a6 H [r]:=λc hc=>by rw[cj hc];exact⟨_,hr,.inl ⟨_,rfl⟩⟩
 obtain⟨t,tb,ts,bvs,svs,h1,h2,h3,h4,h5,h6⟩:=h;exact⟨t,tb,ts,bvs,svs,h1,a8.keep kx mu h2,a8.keep kx mu h3,h4.keep kx mu,a8.keep kx mu h5,h6.keep kx mu⟩
def gF(K:ay)(af:Addr)(C:Addr)(wt:Bool):Sp:=λvs H Q _=>∃(mm:Mc),vs=[.ref mm.ma]/\bM K H af C wt mm/\mm.aT.length<=100 /\
 ∀(l:Addr) (ys:List V) (H':Hp),aA H H'->H l=none->H' l=some (.lst ys)->FTs K H' wt ys mm.aT->Q (.ref l) H'
theorem ye{J:KF}{CF C:Addr}{wt:Bool}:AM J C "frames" (gF J CF C wt) (vT CF C wt):=by
 intro H0 A0 G al H st k a r Q R I ha q kn;unfold vT at q;split at q
 ·rename_i o hs;obtain⟨p,rfl,h9,q⟩:=q;obtain⟨_,m,ef,rfl,hM,hB⟩:=I.cel k _ _ ha hs;have ea:=Oy ef;subst ea;obtain⟨dx,ev,h1,h2⟩:=hM.ob;refine⟨dx,_,h1,mc_no (by decide +kernel),m,rfl,hM,by have:(m.aT.map Fm.pf).length<=100:=h9;rw[aab]at this;exact this,λl ys H' s nl g hF=>kn.laid I s (.d ?_) q⟩;have I':=I.same s;show aS J _ H' (.ref l) (.list ((m.aT.map Fm.pf).map (MB wt)));rw[acH];refine aS.lst (I'.XZ nl s I) g (dC.map ⟨hF.1,λi y x hy hx=>?_⟩);obtain⟨t,tb,ts,bvs,svs,rfl,k2,k3,k4,k5,k6⟩:=hF.2 i y x hy hx;exact aR.jD (I'.yX k2) (.cons (.int _) (.cons (.int _) (.cons (Fn I' k3 k4) (.cons (Fn I' k5 k6) .nil))))
 ·exact q.elim
theorem Dr:Good cC Dq where
 wf:=⟨by decide,by decide,λm h=>by cases h;rfl,λi m h hi=>by
  match i,h,hi with
  | 1,h,_=>cases h;exact⟨0,rfl,by decide⟩
  | 2,h,_=>cases h;exact⟨1,rfl,by decide⟩
  | n + 3,h,_=>simp[cC]at h⟩
 len:=rfl
 R9:=λm h=>by cases h;rfl
 z0:=rfl
 six:=by decide
 go:=λi m hi h=>by
  match i,h,hi with
  | 1,h,_=>cases h;exact⟨0,0,rfl,by decide,rfl,rfl⟩
  | 2,h,_=>cases h;exact⟨1,1,rfl,by decide,rfl,rfl⟩
  | n + 3,h,_=>simp[cC]at h
 kds:=λi m h k hk=>by
  match i,h with
  | 0,h=>cases h;cases hk
  | 1,h=>cases h;rw[cj hk];trivial
  | 2,h=>cases h;cases hk
  | n + 3,h=>simp[cC]at h
theorem VC{K:ay}{ps:List Pt}{j:Nat}{p:Pt}{r:Rw}(hp:ps[j]?=some p)(hr:r.Ok Dq ps.length p.boxes p.rows.length):J0 K cC ps j r (Dn cC ps p r):=λ_ _ _ _ hM hL hP=>Oz hM Dr hL hP hp hr
theorem VD{K:ay}{wt:Bool}{ps:List Pt}{j:Nat}{p:Pt}{ws:List Int}{bud:Int}(P:Gv p)(hp:ps[j]?=some p)(hd:(p.takes++[p.gives]).all bC=true):∃n p2,si K wt n (cB cC ps j p ws bud) p2/\p2.said.length<=900000/\sY p2=.tuple [oy p,.list [],.int bud]:=by
 obtain⟨w,hw,e⟩:=P.rw
 have hg:p.gives=.num:=by
  have:=abI.mp hd p.gives (abf _ abD)
  cases h:p.gives with
  | num=>rfl
  | any=>rw[h]at this;cases this
  | whole c=>rw[h]at this;cases this
  | raw c m=>rw[h]at this;cases this
 have r0:p.rows[0]?=some (.push w):=by rcases e with e | e<;>rw[e]<;>rfl
 have fine:∀(f:PF) (sd:List Int),sd=[]->f.part=j->f.st.length<=1->JZ ⟨cC,ps,[f],[],sd,bud,[]⟩:=λf sd es ep hl=>by
  subst es;exact⟨Dr.wf,Dr.JJ,(by show 1<=12;decide),abB _,abB _,λg hg=>by rw[cj hg];exact⟨by omega,p,by rw[ep];exact hp⟩⟩
 have look:∀(f:PF) (r:Rw),f.part=j->(∀n,Vl.rcd n∉f.st)->r.Ok Dq ps.length p.boxes p.rows.length->(Dn cC ps p r).length<=1->J1 K ⟨cC,ps,[f],[],[],bud,[]⟩ f r (Dn cC ps p r):=λf r ep hn ok hl=>⟨by omega,(λr hr=>nomatch hr),λn hn'=>absurd hn' (hn n),by rw[ep];exact VC hp ok⟩
 let f0:PF:=⟨j,0,ws.map Vl.num++List.replicate (p.boxes - ws.length) .none,[]⟩
 let f1:PF:=⟨j,1,ws.map Vl.num++List.replicate (p.boxes - ws.length) .none,[.num w]⟩
 have s1:A4 K wt (cB cC ps j p ws bud) ⟨cC,ps,[f1],[],[],bud,[]⟩:=by
  refine .inr ⟨rfl,fine f0 [] rfl rfl (abB _),[],f0,.push w,p,[],rfl,hp,r0,look f0 (.push w) rfl (λn h=>nomatch h) hw (abB _),.inr ⟨λ_=>?_,?_⟩⟩
  ·show g7 cC [] p.height [] [] "push"=none;show(if (0:Nat) < 0 then some ("empty" : Str)else if true=true then(if (p.height:Int) < ((0:Nat):Int) + iX "push" then some "high" else none)else some "kind")=none;rw[aa4 (by decide),aa7 rfl,P.hi,show iX "push"=1 by decide +kernel,aa4 (by decide)]
  ·exact Dm.str (p:=cB cC ps j p ws bud) (fs:=[]) (f:=f0) (r:=.push w) (g:={f0 with st:=f0.st++[.num w]}) (sd:=[]) .push
 have at1:∀(s:Str),p.rows[1]?=some (.bare s)->s∈AY->Dn cC ps p (.bare s)=[.num]->iX s=0->∀p2,Dm ⟨cC,ps,[f1],[],[],bud,[]⟩ [] f1 (.bare s) p2->A4 K wt ⟨cC,ps,[f1],[],[],bud,[]⟩ p2:=by
  intro s hr hs ha hl p2 hrow;refine .inr ⟨rfl,fine f1 [] rfl rfl (aaZ _),[],f1,.bare s,p,[.num],rfl,hp,hr,?_,.inr ⟨λ_=>?_,hrow⟩⟩
  ·rw[← ha];exact look f1 (.bare s) rfl (λn h=>by cases cj h) hs (by rw[ha];exact aaZ _)
  ·show g7 cC [] p.height [.num w] [.num] s=none;show(if (1:Nat) < 1 then some ("empty" : Str)else if true=true then(if (p.height:Int) < ((0:Nat):Int) + iX s then some "high" else none)else some "kind")=none;rw[aa4 (by decide),aa7 rfl,P.hi,hl,aa4 (by decide)]
 have told:∀(n:Str) (p2:PM),A4 K wt ⟨cC,ps,[f1],[],[],bud,[]⟩ p2->p2.said=[]->p2.left=bud->p2.fin=[.inl n,.inr w]->oy p=.tuple [.str n,.int w]->∃n p2,si K wt n (cB cC ps j p ws bud) p2/\p2.said.length<=900000/\sY p2=.tuple [oy p,.list [],.int bud]:=by
  intro n p2 h2 es el ef ee;refine⟨2,p2,.next rfl s1 (.next rfl h2 (.done (by rw[ef];exact List.cons_ne_nil _ _))),by rw[es];exact Nat.zero_le _,?_⟩;unfold sY;rw[es,el,ef,ee];rfl
 rcases e with e | e
 ·refine told "fault" _ (at1 "toss" (by rw[e];rfl) (by decide +kernel) ?_ (by decide +kernel) _ (.toss (st:=[]) (x:=.num w) rfl (λh=>nomatch h))) ?_ ?_ ?_ (vY e)
  ·show(if ("toss" : Str)∈(["dup","drop"]:List Str)then [Kd.any]else if ("toss" : Str)="swap" then [.any,.any]else if ("toss" : Str)∈jV then [.num,.num]else if ("toss" : Str)∈(["toss","say"]:List Str)then [.num]else [p.gives])=_;rw[aa4 (by decide +kernel),aa4 (by decide +kernel),aa4 (by decide +kernel),aa7 (by decide +kernel)]
  all_goals
   unfold vS
   rw[sj _ λg hg=>by
    rw[cj hg];unfold Gu;rw[show ps[({f1 with st:=[]}:PF).part]?=some p from hp];show fq p.spans 1=none;rw[P.sp];rfl]
   try rfl
 ·refine told "gave" _ (at1 "give" (by rw[e];rfl) (by decide +kernel) ?_ (by decide +kernel) _ (.give (st:=[]) (x:=.num w) rfl (λ_ h=>nomatch h))) rfl rfl rfl (vZ e);show(if ("give" : Str)∈(["dup","drop"]:List Str)then [Kd.any]else if ("give" : Str)="swap" then [.any,.any]else if ("give" : Str)∈jV then [.num,.num]else if ("give" : Str)∈(["toss","say"]:List Str)then [.num]else [p.gives])=_;rw[aa4 (by decide +kernel),aa4 (by decide +kernel),aa4 (by decide +kernel),aa4 (by decide +kernel),hg]
def lK(ps:List Pt)(j:Int)(ws:List Int)(bud:Int)(way:Nat):PyData:=match dm ps j ws.length with
 | none=>.tuple [.str "refused",.none]
 | some p=>.tuple [.str "told",if way < 2 then .tuple [oy p,.list [],.int bud]else .list [MB (decide (way=3)) ⟨j.toNat,0,ws.map Vl.num++List.replicate (p.boxes - ws.length) .none,[]⟩]]
def lL:C5:=λds Q=>∃(ps:List Pt) (j bud:Int) (ws:List Int) (way:Nat),ds=[wW cC ps,.int j,.list (ws.map PyData.int),.int bud,.int (way:Int)]/\way < 4/\ps.length<=8/\(∀p∈ps,Gv p)/\(∀w∈ws,Se w)/\Q (lK ps j ws bud way)
def gw(K:ay):Sp:=RQ K lL
theorem zl:w9 lL:=by
 rintro ds Q Q' f ⟨ps,j,bud,ws,way,e,h1,h2,h3,h4,q⟩;exact⟨ps,j,bud,ws,way,e,h1,h2,h3,h4,f _ q⟩
theorem zm{K:ay}:Jl K (gw K) lL:=xY
def sv:C5:=λds Q=>∃(ps:List Pt) (j bud:Int) (ws:List Int),ds=[.list (ps.map r6),.int j,.list (ws.map PyData.int),.int bud]/\(∀p∈ps,Gv p)/\Q (Ba ps j ws.length bud)
def j2(K:ay):Sp:=RQ K sv
theorem Ds:w9 sv:=by
 rintro ds Q Q' f ⟨ps,j,bud,ws,e,hp,q⟩;exact⟨ps,j,bud,ws,e,hp,f _ q⟩
theorem Dt{K:ay}:Jl K (j2 K) sv:=xY
def j3:C5:=λds Q=>∃(ps:List Pt) (j:Nat) (p:Pt) (ws:List Int) (wt:Bool),ds=[.list (ps.map r6),.int (j:Int),.list (ws.map PyData.int),.bool wt]/\ps[j]?=some p/\ws.length<=p.boxes/\p.boxes<=8/\Q (.list [MB wt ⟨j,0,ws.map Vl.num++List.replicate (p.boxes - ws.length) .none,[]⟩])
def fv(K:ay):Sp:=RQ K j3
theorem xf:w9 j3:=by
 rintro ds Q Q' f ⟨ps,j,p,ws,wt,e,h1,h2,h3,q⟩;exact⟨ps,j,p,ws,wt,e,h1,h2,h3,f _ q⟩
theorem xg{K:ay}:Jl K (fv K) j3:=xY
def lM:C5:=λds Q=>∃(ps:List Pt) (j bud:Int) (ws:List Int),ds=[wW cC ps,.int j,.list (ws.map PyData.int),.int bud]/\ps.length<=8/\(∀p∈ps,Gv p)/\(∀w∈ws,Se w)/\Q (.bool true)
def gx(K:ay):Sp:=RQ K lM
theorem j4:w9 lM:=by
 rintro ds Q Q' f ⟨ps,j,bud,ws,e,h1,h2,h3,q⟩;exact⟨ps,j,bud,ws,e,h1,h2,h3,f _ q⟩
theorem j5{K:ay}:Jl K (gx K) lM:=xY
def zo(K:ay):Sp:=λvs H Q _=>∃(a:Addr) (ns:List Int),vs=[.ref a]/\bg K H a (ns.map V.int)/\ns.length<=63/\∀H',Q (.bl true) H'
section
variable {P:Program} {w:World} {K:ay} {mg:Str->Option Value} {base:Heap}
theorem gy:aB ["_law_script","_law_k","_law_far","_law_cell_here"] ["_law_script","_law_k"] (dS px):=by walk_at "sc"
theorem zp{f:Addr}{fd:FuncData}(F:eO K "_law_cell" "_law_cell" px f fd)(bI:mg "len"=none){af:Addr}(aj:ai K af):bh P w K mg base aU 1 f fd ["_law_script","_law_k"] (fF K):=by
 refine F.ok gy (λvs H Q E h=>?_) (λcdv A outer s H vs Q E hr h=>?_)
 ·obtain⟨a,ns,k,rfl,hS,h0,h1,q⟩:=h;rfl
 obtain⟨a,ns,k,rfl,hS,h0,h1,q⟩:=h;refine⟨_,(qK (br (tR xG (pv 1) (bL bu rfl bI gI (pK (pv 0) pN)) (aP _)) (qO (aI (aC bq (pv 0) (pv 1) (λ_ _=>rfl)))) bc)
   (qK (bB (i:=2) gy.nd rfl (aaW rfl) (a9 CJ pI (a9 kS (pv 1) pI)))
   (qK (uZ abG rfl (iG (Ag EI (pv 0) EF (EG pI))) (bU (i:=3) gy.nd rfl (aaW rfl)) (qO (bB (i:=2) gy.nd rfl (aaW rfl) (a9 kS (a9 CJ (pv 2) pI) (a9 fM (pv 3) pI)))))
   (qO (aI (a9 fM (a9 Nv (pv 2) (pv 2)) pI)))))),?_⟩
 refine⟨_,rfl,_,rfl,a,_,rfl,.inl hS,_,_,rfl,rfl,_,rfl,?_⟩;refine vi (λc=>?_) (λc=>?_)
 ·have c':k < (((ns.map V.int).length:Nat):Int):=abo c;rw[aab]at c';have hk:k.toNat < ns.length:=by omega
  have ek:((k.toNat:Nat):Int)=k:=by omega
  refine⟨_,rfl,_,rfl,a,_,_,_,rfl,rfl,hS,(?_:um (ns.map V.int) k=some (.int ns[k.toNat])),q _ _ (aA.refl _)⟩;have z:um (ns.map V.int) ((k.toNat:Nat):Int)=some (.int ns[k.toNat]):=aN (by rw[aa1,dN hk];rfl);rw[ek]at z;exact z
 ·walk_at "rd";refine⟨a,_,rfl,hS,λp hp=>?_⟩;refine⟨p,rfl,⟨_,bg.of uS⟩,?_⟩;have sm:aA H (upd H p (.lst (yE (ns.map V.int) none (some 8)))):=λb o e=>by rw[uN (nN e hp)];exact e
  rw[Yv]at sm ⊢;refine va (xs:=(ns.take 8).map V.int) (λi σ H2=>∃(far:Int) (v:Option V),σ=[some (.ref a),some (.int k),some (.int far),v]/\H2=upd H p (.lst ((ns.take 8).map V.int))/\0<=far/\far < 2000000000 * (32:Int) ^ i) ?_ ?_ ?_ ?_
  ·exact⟨_,none,rfl,rfl,by omega,by simp;omega⟩
  ·rintro i σ H2 hi ⟨far,v,rfl,rfl,_⟩;exact bg.of uS
  ·rintro i y σ H2 hi ⟨far,v,rfl,rfl,f0,f1⟩
   obtain⟨z,rfl⟩:∃z,y=V.int z:=by
    rw[aa1]at hi
    cases e:(ns.take 8)[i]? with
    | none=>rw[e]at hi;cases hi
    | some z=>rw[e]at hi;exact⟨z,(abc hi).symm⟩
   have hp1:(1:Int)<=32 ^ i:=by
    have:=Int.pow_pos (n:=32) (m:=i) (by decide);omega
   have hm0:=Int.emod_nonneg z (show(1000033:Int)≠0 by decide);have hm1:=Int.emod_lt_of_pos z (show(0:Int) < 1000033 by decide);walk_at "rd";rw[Int.pow_succ];omega
  ·rintro σ H2 ⟨far,v,rfl,rfl,f0,f1⟩;have hl:((ns.take 8).map V.int).length<=8:=by simp;omega
   have HB:(32:Int) ^ ((ns.take 8).map V.int).length<=32 ^ 8:=by
    have:=Nat.pow_le_pow_right (n:=32) (by decide) hl
    exact_mod_cast this
   have e8:(32:Int) ^ 8=1099511627776:=by decide
   rw[e8]at HB;refine⟨_,rfl,_,rfl,_,_,rfl,rfl,⟨⟨by omega,by omega⟩,by omega,by omega⟩,_,_,rfl,rfl,(by show(0:Int) < 998244353;decide),q _ _ sm⟩
theorem qH:aB ["_law_cell_here","_law_some"] ["_law_cell_here"] (dS pz):=by walk_at "sc"
theorem zq{f:Addr}{fd:FuncData}(F:eO K "_law_kind" "_law_kind" pz f fd){af:Addr}(aj:ai K af):bh P w K mg base aU 1 f fd ["_law_cell_here"] (iJ K):=by
 refine F.ok qH (λvs H Q E h=>?_) (λcdv A outer s H vs Q E hr h=>?_)
 ·obtain⟨PP,ds,hP,hv,c,rfl,q⟩:=h;exact hv.1
 obtain⟨PP,ds,hP,hv,c,rfl,q⟩:=h;refine gM hP hv ?_;show Gg _ _ _ _ [some _,none] [];clear hP hv;refine aK (bV (i:=1) qH.nd rfl (aaW rfl) (da (ah (bf (ah bK aw)) (ah (bf (ah bK aw)) (ah (bf (ah bK aw)) (ah (bf (ah bK aw)) (ah (bf (ah bK aw)) (ah (bf (ah bK (ah (iQ (n6 (aq 0) aJ) aJ) aw))) (ah (bf (ah bK (ah aJ (ah aJ aw)))) aw))))))))) (λR kk=>?_);walk_at "vc";obtain⟨w,ew,hw⟩:=Dp (c / 7) (m:=3) (n:=3) rfl (by decide);rw[ew];refine⟨⟨by decide,by decide⟩,by decide,kk _ _ ?_⟩;clear kk R;refine jI (cI (vx (aq 1) (iQ (aq 0) aJ) (λ_ _=>rfl))) ?_;walk_at "vc";obtain⟨n,en,hn⟩:=Dp c (m:=7) (n:=7) rfl (by decide);rw[en];refine⟨by decide,?_⟩
 match n,hn with
 | 0,_=>exact⟨_,rfl,q .num trivial⟩
 | 1,_=>exact⟨_,rfl,q .num trivial⟩
 | 2,_=>exact⟨_,rfl,q .num trivial⟩
 | 3,_=>exact⟨_,rfl,q .num trivial⟩
 | 4,_=>exact⟨_,rfl,q .any trivial⟩
 | 5,_=>exact⟨_,rfl,q (.whole w) (show w < 3 from hw)⟩
 | 6,_=>exact⟨_,rfl,q (.raw 1 0) ⟨1,rfl,by decide⟩⟩
theorem qI:aB ["_law_cell_here","_law_edge"] ["_law_cell_here"] (dS pA):=by walk_at "sc"
theorem zr{f:Addr}{fd:FuncData}(F:eO K "_law_word" "_law_word" pA f fd)(v8:mg "max"=none)(Bd:mg "min"=none){af:Addr}(aj:ai K af):bh P w K mg base aU 1 f fd ["_law_cell_here"] (fG K):=by
 refine F.ok qI (λvs H Q E h=>?_) (λcdv A outer s H vs Q E hr h=>?_)
 ·obtain⟨c,rfl,q⟩:=h;rfl
 obtain⟨c,rfl,q⟩:=h;refine⟨_,(qK (br (tR cm (a9 fM (pv 0) pI) pI (aP _)) (qO (aI (a9 gH (a9 fM (a9 nW (pv 0) pI) pI) pI))) bc)
   (qK (br (tR cm (a9 fM (pv 0) pI) pI (aP _)) (qO (aI (a9 gH (a9 fM (a9 CJ (a9 nW (pv 0) pI) pI) pI) pI))) bc)
   (qK (br (tR cm (a9 fM (pv 0) pI) pI (aP _)) (qK (bB (i:=1) qI.nd rfl (aaW rfl) (a9 gH (a9 kS (a9 HW pI (a9 fM (a9 nW (pv 0) pI) pI)) (a9 fM (a9 nW (pv 0) pI) pI)) pI))
   (qO (aI (bL (xH rfl) rfl v8 Io (pK (bL (FD rfl) rfl Bd Ra (pK (aC bq (cK (pK (pv 1) (pK (a9 gH pI (pv 1)) pN))) (a9 fM (a9 nW (pv 0) pI) pI) (λ_ _=>rfl)) (pK pI pN))) (pK (a9 gH pI pI) pN)))))) bc)
   (qO (aI (a9 gH (a9 fM (a9 nW (pv 0) pI) pI) pI)))))),?_⟩
 have d4:(0:Int) < 4/\(4:Int) < 1073741824:=by decide
 refine⟨_,rfl,_,_,rfl,rfl,(by show(0:Int) < 4;decide),rfl,_,rfl,?_⟩;refine vi (λ_=>?_) (λ_=>?_)
 ·refine⟨_,rfl,_,_,rfl,rfl,d4,_,_,rfl,rfl,(by show(0:Int) < 9;decide),_,_,rfl,rfl,q _ _ (aA.refl _) ?_⟩;show -2147483648<=c / 4 % 9 - 4/\c / 4 % 9 - 4<=2147483647;omega
 refine⟨_,rfl,_,_,rfl,rfl,(by show(0:Int) < 4;decide),rfl,_,rfl,?_⟩;refine vi (λ_=>?_) (λ_=>?_)
 ·refine⟨_,rfl,_,_,rfl,rfl,d4,_,_,rfl,rfl,.inr ⟨by decide,by decide⟩,_,_,rfl,rfl,(by show(0:Int) < 4294967296;decide),_,_,rfl,rfl,q _ _ (aA.refl _) ?_⟩;show -2147483648<=c / 4 * 2654435761 % 4294967296 - 2147483648/\c / 4 * 2654435761 % 4294967296 - 2147483648<=2147483647;omega
 refine⟨_,rfl,_,_,rfl,rfl,(by show(0:Int) < 4;decide),rfl,_,rfl,?_⟩;refine vi (λ_=>?_) (λ_=>?_)
 ·refine⟨_,rfl,_,_,rfl,rfl,d4,_,_,rfl,rfl,(by show(0:Int) < 32;decide),_,_,rfl,rfl,⟨by show 0<=c / 4 % 32;omega,by show c / 4 % 32<=1000000;omega,by decide⟩,?_⟩;refine⟨_,rfl,_,_,rfl,rfl,(by show(0:Int) < 128/\(128:Int) < 1073741824;decide),_,_,rfl,rfl,(by show(0:Int) < 3;decide),_,_,rfl,rfl,_,_,rfl,rfl,?_⟩;obtain⟨e,he⟩:∃e:Int,e=1 * 2 ^ (c / 4 % 32).toNat + c / 128 % 3 - 1:=⟨_,rfl⟩;refine⟨_,rfl,_,rfl,_,_,rfl,rfl,HI,λl hl=>?_⟩;have s1:=sN hl (.lst [.int (1 * 2 ^ (c / 4 % 32).toNat + c / 128 % 3 - 1),.int (0 - (1 * 2 ^ (c / 4 % 32).toNat + c / 128 % 3 - 1))]);refine⟨_,rfl,_,_,rfl,rfl,(by show(0:Int) < 384/\(384:Int) < 1073741824;decide),_,_,rfl,rfl,(by show(0:Int) < 2;decide),?_⟩
  obtain⟨x,hx⟩:∃x:Int,um [V.int e,V.int (0 - e)] (c / 384 % 2)=some (V.int x):=by
   rcases (by omega:c / 384 % 2=0∨c / 384 % 2=1)with z | z<;>rw[z]
   ·exact⟨_,aN (j:=0) rfl⟩
   ·exact⟨_,aN (j:=1) rfl⟩
  rw[he]at hx;refine⟨l,_,_,_,rfl,rfl,bg.of uS,hx,?_⟩;refine⟨_,_,rfl,_,_,rfl,rfl,_,_,rfl,q _ _ s1 ?_⟩;show -2147483648<=(if (0 - 2147483648:Int) > (if (2147483647:Int) < x then 2147483647 else x)then(0 - 2147483648:Int)else if (2147483647:Int) < x then 2147483647 else x)/\(if (0 - 2147483648:Int) > (if (2147483647:Int) < x then 2147483647 else x)then(0 - 2147483648:Int)else if (2147483647:Int) < x then 2147483647 else x)<=2147483647;split<;>split<;>omega
 ·refine⟨_,rfl,_,_,rfl,rfl,d4,_,_,rfl,rfl,(by show(0:Int) < 4294967296;decide),_,_,rfl,rfl,q _ _ (aA.refl _) ?_⟩;show -2147483648<=c / 4 % 4294967296 - 2147483648/\c / 4 % 4294967296 - 2147483648<=2147483647;omega
theorem cD:aB ["_law_script","_law_k","_law_cell_here","_law_takes","_law_gives","_law_word_here","_law_last"] ["_law_script","_law_k"] (dS pB):=by walk_at "sc"
theorem zt{f:Addr}{fd:FuncData}(F:eO K "_law_part" "_law_part" pB f fd)(bI:mg "len"=none)(cU:mg "range"=none){af:Addr}(aj:ai K af)(cy:c9 P w K mg base aU "_law_cell" 1 ["_law_script","_law_k"] (fF K))(tq:c9 P w K mg base aU "_law_kind" 1 ["_law_cell_here"] (iJ K))(iM:c9 P w K mg base aU "_law_word" 1 ["_law_cell_here"] (fG K)):bh P w K mg base aU 2 f fd ["_law_script","_law_k"] (iK K):=by
 refine F.ok cD (λvs H Q E h=>?_) (λcdv A outer s H vs Q E hr h=>?_)
 ·obtain⟨PP,ds,hP,hv,ns,k,rfl,hk,q⟩:=h;exact hv.1
 obtain⟨PP,ds,hP,hv,ns,k,rfl,hk,q⟩:=h;refine gM hP hv ?_;show Gg _ _ _ _ [some _,some _,none,none,none,none,none] [];clear hP hv;refine aK (bV (i:=2) cD.nd rfl (acY rfl) (bO cy cN cM (hr.mono (by decide)) rfl (ah (aq 0) (ah (gK aJ (aq 1)) aw)))) (λR kk=>?_);walk_at "vc";refine⟨ns,_,rfl,by omega,by omega,λc=>kk _ _ ?_⟩;clear kk R;refine aK (oa AQ (i:=3) cD.nd rfl (aaW rfl) 1 ["_law_j","_law_cell_here"] [2] ⟨rfl,rfl,rfl,rfl,rfl,rfl,rfl,rfl⟩ (jl rfl cU (ah (iQ (aq 2) aJ) aw)) (λ_ _ _ _=>(bU (i:=0) (show List.Nodup (["_law_j","_law_cell_here"]:List Str)by decide +kernel) rfl (aaW rfl))) (y6 (i:=0)) (Gd (by decide)) (λ_ _ _ _=>⟨vB,(bO tq tj sZ (hr.mono (by decide)) rfl (ah (n6 (aq 1) (gK (aq 0) aJ)) aw))⟩)) (λR kk=>?_);walk_at "vc";obtain⟨n,en,hn⟩:=Dp c (m:=5) (n:=5) rfl (by decide);rw[en];refine⟨by decide,⟨by omega,by omega⟩,?_⟩;refine Fo (C9 Dq) (λk=>.tuple (oG k)) (by rw[fC];omega) ?_ ?_
 ·intro i d hd W N hW;obtain⟨hi,rfl⟩:=n9 hd;walk_at "vc";rw[aa7 rfl];walk_at "vc";exact⟨rfl,rfl,⟨by omega,by omega⟩,_,rfl,λk hk=>⟨rfl,hW k hk⟩⟩
 intro ks lk hks;rw[fC]at lk;walk_at "vc";refine kk _ _ ?_;clear kk R;refine aK (bV (i:=4) cD.nd rfl (aaW rfl) (bO tq tj sZ (hr.mono (by decide)) rfl (ah (n6 (aq 2) aJ) aw))) (λR kk=>?_);walk_at "vc";refine⟨⟨by decide,by decide⟩,_,rfl,λg hg=>kk _ _ ?_⟩;clear kk R;refine aK (bV (i:=5) cD.nd rfl (aaW rfl) (bO iM lG lE (hr.mono (by decide)) rfl (ah (n6 (aq 2) aJ) aw))) (λR kk=>?_);walk_at "vc";refine⟨⟨by decide,by decide⟩,_,rfl,λw hw=>kk _ _ ?_⟩;clear kk R;refine aK (bV (i:=6) cD.nd rfl (aaW rfl) (bf (ah bK aw))) (λR kk=>?_);walk_at "vc";refine kk _ _ ?_;clear kk R;refine aK (gL (FY.dt (RK (AD (hr.units) (aq 4) (bf (ah bK aw))) (NV (AD (hr.units) (iQ (n6 (aq 2) aJ) aJ) aJ)))) (bw (bV (i:=6) cD.nd rfl (aaW rfl) (bf (ah bK aw)))) cT) (λR kk=>?_);walk_at "vc"
 have fin:∀last:Str,(last="toss"∨last="give")->R [some (.dat (.list (ns.map PyData.int))),some (.dat (.int (k:Int))),some (.dat (.int c)),some (.dat (.list (ks.map λk=>.tuple (oG k)))),some (.dat (.tuple (oG g))),some (.dat (.int w)),some (.dat (.tuple [.str last]))] []:=by
  intro last hl;refine kk _ _ ?_;clear kk R;refine jI (cI (bf (ah (aq 3) (ah (aq 4) (ah (gK (iR rfl bI (ah (aq 3) aw)) (iQ (aq 2) aJ)) (ah aJ (ah (da (ah (bf (ah bK (ah (aq 5) aw))) (ah (aq 6) aw))) (ah (da aw) aw)))))))) ?_;walk_at "vc";obtain⟨m,em,hm⟩:=Dp c (m:=2) (n:=2) rfl (by decide);rw[em,List.length_map];refine⟨by decide,?_⟩;have z:=q ⟨ks,g,ks.length + m,1,[.push w,.bare last],[]⟩ ⟨hks,hg,by show ks.length<=4;omega,by show ks.length<=ks.length + m/\ks.length + m<=8;omega,rfl,rfl,w,by unfold Se at hw;omega,by rcases hl with rfl | rfl;exact .inl rfl;exact .inr rfl⟩;exact z
 refine⟨⟨De _,by decide +kernel⟩,?_⟩;split
 ·refine⟨⟨by decide,by decide⟩,by decide,?_⟩;split
  ·exact fin "give" (.inr rfl)
  ·exact fin "toss" (.inl rfl)
 ·exact cu (fin "toss" (.inl rfl))
theorem xh:aB ["self","value"] ["self","value"] (dS jK):=by walk_at "sc"
theorem xi{f:Addr}{fd:FuncData}(F:eO K "bare" "Plain.bare" jK f fd){af:Addr}(aj:ai K af){C:Addr}(ac:ax K C):bh P w K mg base aU 1 f fd ["self","value"] (jW K false):=by
 refine F.ok xh (λvs H Q E h=>?_) (λcdv A outer s H vs Q E hr h=>?_)
 ·obtain⟨x,v,y,rfl,hv,hy,q⟩:=h;rfl
 obtain⟨x,v,y,rfl,hv,hy,q⟩:=h;refine⟨_,(qO (aI (pv 1))),?_⟩;have e:v=.int (eS y):=hv;subst e;exact⟨_,rfl,q⟩
theorem uu:aB ["self","value"] ["self","value"] (dS gQ):=by walk_at "sc"
theorem uv{f:Addr}{fd:FuncData}(F:eO K "bare" "Watched.bare" gQ f fd){af:Addr}(aj:ai K af){C:Addr}(ac:ax K C):bh P w K mg base aU 1 f fd ["self","value"] (jW K true):=by
 refine F.ok uu (λvs H Q E h=>?_) (λcdv A outer s H vs Q E hr h=>?_)
 ·obtain⟨x,v,y,rfl,hv,hy,q⟩:=h;rfl
 obtain⟨x,v,y,rfl,hv,hy,q⟩:=h;refine⟨_,(qO (aI (aC aE (pv 1) pI (λ_ _=>rfl)))),?_⟩
 cases y with
 | none=>exact absurd rfl hy
 | num w =>
  obtain⟨t,rfl,ht⟩:=vJ hv;exact⟨_,rfl,t,_,_,_,rfl,rfl,ht,aN (j:=1) rfl,q⟩
 | rcd n =>
  obtain⟨t,rfl,ht⟩:=vK hv;exact⟨_,rfl,t,_,_,_,rfl,rfl,ht,aN (j:=1) rfl,q⟩
theorem e9:aB ["self","frame","value","beneath"] ["self","frame"] (dS fN):=by walk_at "sc"
theorem jt{f:Addr}{fd:FuncData}(F:eO K "do_give" "Plain.do_give" fN f fd)(bI:mg "len"=none){af:Addr}(aj:ai K af){C:Addr}{wt:Bool}(ac:ax K C)(qJ:bJ P w K mg base aU C "bare" 1 ["self","value"] (jW K wt)):bh P w K mg base aU 2 f fd ["self","frame"] (jX K af C wt):=by
 refine F.ok e9 (λvs H Q E h=>?_) (λcdv A outer s H vs Q E hr h=>?_)
 ·obtain⟨mm,fs,fr,st,x,rfl,hM,hf',hst,hn,tw,TR,q⟩:=h;rfl
 obtain⟨mm,fs,fr,st,x,rfl,hM,hf',hst,hn,tw,TR,q⟩:=h;refine⟨_,(qK (bB (i:=2) e9.nd rfl (aaW rfl) (jC aa2 abp abq kT (aM (pv 1) rfl)))
   (qK (bG (jC aa2 abp abq kT (aM (pv 0) rfl)))
   (qK (br (tR cm (bL bu rfl bI gI (pK (aM (pv 0) rfl) pN)) pI (aP _)) (qK (cn (pv 0) (c8 (pK ba (pK (jk (pv 0) qJ dQ (hr.mono (by decide)) (pK (pv 2) pN)) pN))) rfl)
   (qO yA)) bc)
   (qK (bB (i:=3) e9.nd rfl (aaW rfl) (aC bq (aM (pv 0) rfl) (vb oV pI) (λ_ _=>rfl)))
   (qK (bG (sS aa2 abr abt dP (aM (pv 3) rfl) (pK (pv 2) pN)))
   (qO (cn (pv 3) (a9 kS (aM (pv 3) rfl) pI) rfl))))))),?_⟩
 have hF:=hM.last hf';obtain⟨⟨fdx,f1⟩,⟨bys,f2,f3⟩,⟨sys,f4,f5⟩,fne⟩:=id hF;have ff:=jT hf';rw[hst]at f5;obtain⟨zs,y,rfl,hz,hv⟩:=f5.lastOf;refine⟨_,rfl,fr.fa,af,fdx,_,_,rfl,f1,aj.cl,aj.gp,gY,.inl ⟨rfl,_,bg.of f4⟩,fr.sl,_,y,rfl,rfl,f4,jU,?_⟩;rw[List.dropLast_concat];obtain⟨a1,a2⟩:=hF.oH (aA.refl H) hz;have M1:=hM.top hf' (f':={fr with st:=st}) rfl rfl rfl a2 a1;have ef:=gZ (f':={fr with st:=st}) hf' rfl rfl rfl;have kx:az [fr.sl] H (upd H fr.sl (.lst zs)):=aW;have mu:a6 H [fr.sl]:=hF.sX.sub (λc hc=>by rw[cj hc];simp[eA]);have J5:=hv.keep kx mu;have K1:=a2.sub ff;generalize upd H fr.sl (.lst zs)=H1 at M1 J5 K1 ⊢;obtain⟨mdx,ev,m1,m2⟩:=M1.ob
 have L1:H1 mm.lv=some (.lst ((fs.map λf=>V.ref f.fa)++[.ref fr.fa])):=by
  have z:=M1.lv;rw[aba]at z;exact z
 refine⟨_,rfl,mm.ma,C,mdx,_,_,rfl,m1,ac.cl,ac.jQ,iI,.inl ⟨rfl,_,bg.of L1⟩,mm.lv,_,_,rfl,rfl,L1,jU,?_⟩;rw[ac8];obtain⟨M2,zj⟩:=M1.cut (fs:=fs) (gs:=[{fr with st:=st}]) rfl (H':=upd H1 mm.lv (.lst (fs.map λf=>V.ref f.fa))) aW uS;have Ud:az [mm.lv] H1 (upd H1 mm.lv (.lst (fs.map λf=>V.ref f.fa))):=aW;have Yz:a6 H1 [mm.lv]:=M1.sX.sub (λc hc=>by rw[cj hc];exact cJ.2.1);have YA:=J5.keep Ud Yz;have K2:az (foot mm) H (upd H1 mm.lv (.lst (fs.map λf=>V.ref f.fa))):=K1.trans (Ud.sub (λc hc=>by rw[cj hc];exact cJ.2.1));have Gz:∀c∈foot {mm with aT:=fs},c∈foot mm:=λc hc=>by have:=zj c hc;rw[ef]at this;exact this
 generalize upd H1 mm.lv (.lst (fs.map λf=>V.ref f.fa))=H2 at M2 YA K2 ⊢;obtain⟨ndx,nev,n1,n2⟩:=id M2.ob;refine⟨_,rfl,mm.ma,C,ndx,_,_,rfl,n1,ac.cl,ac.jQ,iI,mm.lv,_,rfl,.inl (bg.of M2.lv),rfl,_,rfl,?_⟩;rcases ac3 fs with rfl | ⟨gs,g,rfl⟩
 ·refine xO rfl ?_;refine⟨_,rfl,mm.ma,ndx,_,rfl,n1,mc_no (by decide +kernel),_,rfl,_,y,x,rfl,YA,hn rfl,HI,λt ht=>?_⟩;have u3:=sN ht (.tup [.str "gave",.int (eS x)]);have T3:a8 K (upd H2 t (.tup [.str "gave",.int (eS x)])) t [.str "gave",.int (eS x)]:=a8.of uS;have M3:=M2.same u3;have K3:=K2.trans (eB u3);have n1':=u3 _ _ n1;generalize upd H2 t (.tup [.str "gave",.int (eS x)])=H3 at u3 T3 M3 K3 n1' ⊢;refine⟨_,rfl,mm.ma,C,ndx,_,rfl,n1',ac.cl,ac.sW,vQ,?_⟩;rw[oo];have YB:a6 H3 [mm.ma]:=M3.sX.sub (λc hc=>by rw[cj hc];exact cJ.1);have Sv:az [mm.ma] H3 (upd H3 mm.ma (.ins C ndx (pH mm.b mm.lv mm.rc mm.sd mm.left (.ref t)))):=aW;exact q {mm with aT:=[],fin:=[.inl "gave",.inr (eS x)]} _ rfl ⟨rfl,rfl⟩ (M3.own Sv uS (.inr ⟨(by simp),t,rfl,a8.keep Sv YB T3⟩)) (λc hc=>.inl (Gz c hc)) (K3.trans (az.sub Sv (λc hc=>by rw[cj hc];exact cJ.1)))
 ·rw[List.concat_eq_append]at *;refine iP (λe=>?_) ?_
  ·have:=V.int.inj e;simp at this;omega
  dsimp only[gj]
  have L2':H2 mm.lv=some (.lst ((gs.map λf=>V.ref f.fa)++[.ref g.fa])):=by
   have z:=M2.lv;rw[aba]at z;exact z
  refine⟨_,rfl,mm.ma,C,ndx,_,_,rfl,n1,ac.cl,ac.jQ,iI,_,rfl,mm.lv,_,_,_,rfl,rfl,bg.of L2',jq,?_⟩;have F2:=M2.last (fs:=gs) (f:=g) rfl;obtain⟨⟨gdx,g1⟩,_,⟨gys,g4,g5⟩,gne⟩:=id F2;have lg:gys.length<=1000:=by rw[g5.1];exact tw g (by simp)
  refine⟨_,rfl,g.fa,af,gdx,_,_,rfl,g1,aj.cl,aj.gp,gY,.inl ⟨rfl,_,bg.of g4⟩,_,rfl,g.sl,_,y,rfl,rfl,g4,sK lg,?_⟩;obtain⟨b1,b2⟩:=F2.oH (aA.refl H2) (g5.snoc YA);have M3:=M2.top (fs:=gs) (f:=g) (f':={g with st:=g.st++[x]}) rfl rfl rfl rfl b2 b1;have e3:=gZ (m:={mm with aT:=gs++[g]}) (fs:=gs) (f:=g) (f':={g with st:=g.st++[x]}) rfl rfl rfl rfl;have fg:∀c∈eA g,c∈foot mm:=λc hc=>Gz c (jT (m:={mm with aT:=gs++[g]}) (fs:=gs) (f:=g) rfl c hc)
  have K3:=K2.trans (b2.sub fg);generalize upd H2 g.sl _=H3 at M3 K3 ⊢;have F3:=M3.last (fs:=gs) rfl;obtain⟨⟨hdx,i1⟩,_⟩:=id F3;refine⟨_,rfl,g.fa,af,hdx,_,_,rfl,i1,aj.cl,aj.ur,vM,_,_,rfl,rfl,_,rfl,g.fa,af,hdx,_,rfl,i1,aj.cl,aj.ur,vP,?_⟩;rw[qC];obtain⟨c1,c2⟩:=F3.setAt (dx:=hdx) (a:=g.at' + 1);have M4:=M3.top (fs:=gs) (f:={g with st:=g.st++[x]}) (f':={g with st:=g.st++[x],at':=g.at' + 1}) rfl rfl rfl rfl c2 c1;have e4:=gZ (m:={mm with aT:=gs++[{g with st:=g.st++[x]}]}) (fs:=gs) (f:={g with st:=g.st++[x]}) (f':={g with st:=g.st++[x],at':=g.at' + 1}) rfl rfl rfl rfl;refine q {mm with aT:=gs++[{g with st:=g.st++[x],at':=g.at' + 1}]} _ ?_ ⟨rfl,rfl⟩ M4 (λc hc=>.inl (Gz c (by rw[e4,e3]at hc;exact hc))) (K3.trans (c2.sub fg));unfold JY Mc.pm;simp[Fm.pf]
theorem Be:aB ["stack","many","values"] ["stack","many"] (dS zc):=by walk_at "sc"
theorem J6{f:Addr}{fd:FuncData}(F:eO K "taken" "taken" zc f fd)(cU:mg "range"=none){af:Addr}(aj:ai K af):bh P w K mg base aU 1 f fd ["stack","many"] (vW K):=by
 refine F.ok Be (λvs H Q E h=>?_) (λcdv A outer s H vs Q E hr h=>?_)
 ·obtain⟨sl,xs,n,rfl,hS,hn,kR,q⟩:=h;rfl
 obtain⟨sl,xs,n,rfl,hS,hn,kR,q⟩:=h;refine⟨_,(qK (qw (i:=2) Be.nd rfl (aaW rfl) 1 ["k","stack"] [0] ⟨rfl,rfl,rfl,rfl,rfl,rfl,rfl,rfl⟩ (xF rfl cU (pK (pv 1) pN)) (λ_ _ _ _=>⟨(bU (i:=0) (show List.Nodup (["k","stack"]:List Str)by decide +kernel) rfl (aaW rfl)),jE,(show PE _ _ (UE K _ _ _)from (jC aa2 abp abq kT (pv 1)))⟩))
   (qK (bG (jC aa2 PySem.F.slot_list_reverse PySem.F.type_list_reverse CU (pv 2)))
   (qO (aI (pv 2))))),?_⟩
 refine⟨_,rfl,_,rfl,by omega,by omega,λD hD=>?_⟩;have nD:sl≠D:=nN hS hD;refine Ir (lo:=0) (n:=((n:Nat):Int).toNat) (λi ws H2=>H2 D=some (.lst ws)/\ws=(xs.drop (xs.length - i)).reverse/\H2 sl=some (.lst (xs.take (xs.length - i)))/\∀c o,c≠sl->H c=some o->H2 c=some o) (Nat.le_of_lt (sK (by omega))) ⟨uS,by simp,(uN nD).trans (by rw[hS];simp),λc o h1 e=>by rw[uN (nN e hD)];exact e⟩ ?_ ?_ ?_
 ·rintro i ws H2 ⟨e1,rfl,_⟩;refine⟨e1,?_⟩;rw[List.length_reverse,abR];omega
 ·rintro i ws H2 hi ⟨e1,rfl,e3,e4⟩;have hix:i < xs.length:=by omega
  refine⟨rfl,_,rfl,.inl ⟨rfl,_,bg.of e3⟩,sl,_,_,rfl,rfl,e3,OA hix,(uN nD.symm).trans e1,uS,Sm hix,?_,λc o h1 e=>?_⟩
  ·rw[uN nD,uS,OB hix]
  ·rw[uN (nN e hD),uN h1];exact e4 c o h1 e
 rintro ws H2 ⟨e1,rfl,e3,e4⟩;rw[ab9]at e1 e3;refine⟨_,rfl,.inl ⟨rfl,_,bg.of e1⟩,D,_,rfl,rfl,e1,?_⟩;refine⟨_,rfl,q D _ hD ?_ ((uN nD).trans e3) (λc o h1 e=>?_)⟩
 ·rw[uS,List.reverse_reverse]
 ·rw[uN (nN e hD)];exact e4 c o h1 e
theorem uw:aB ["self","tag","number"] ["self","tag","number"] (dS gS):=by walk_at "sc"
theorem ux{f:Addr}{fd:FuncData}(F:eO K "tagged" "Plain.tagged" gS f fd){af:Addr}(aj:ai K af){C:Addr}(ac:ax K C):bh P w K mg base aU 1 f fd ["self","tag","number"] (e7 K false):=by
 refine F.ok uw (λvs H Q E h=>?_) (λcdv A outer s H vs Q E hr h=>?_)
 ·obtain⟨x,y,hy,rfl,q⟩:=h;rfl
 obtain⟨x,y,hy,rfl,q⟩:=h;refine⟨_,(qO (aI (pv 2))),?_⟩;exact⟨_,rfl,q _ H (aA.refl _) rfl⟩
theorem qL:aB ["self","tag","number"] ["self","tag","number"] (dS eW):=by walk_at "sc"
theorem qN{f:Addr}{fd:FuncData}(F:eO K "tagged" "Watched.tagged" eW f fd){af:Addr}(aj:ai K af){C:Addr}(ac:ax K C):bh P w K mg base aU 1 f fd ["self","tag","number"] (e7 K true):=by
 refine F.ok qL (λvs H Q E h=>?_) (λcdv A outer s H vs Q E hr h=>?_)
 ·obtain⟨x,y,hy,rfl,q⟩:=h;rfl
 obtain⟨x,y,hy,rfl,q⟩:=h;refine⟨_,(qO (aI (c8 (pK (pv 1) (pK (pv 2) pN))))),?_⟩;refine⟨_,rfl,_,rfl,HI,λt ht=>?_⟩;refine q _ _ (sN ht _) ?_;show aR K _ (.ref t) (Dg y)
 cases y with
 | none=>exact absurd rfl hy
 | num w=>exact .jD (a8.of uS) (.cons (.str _) (.cons (.int _) .nil))
 | rcd n=>exact .jD (a8.of uS) (.cons (.str _) (.cons (.int _) .nil))
theorem bX:aB ["self","frame","row","sign","stack","pair"] ["self","frame","row"] (dS dc):=by walk_at "sc"
theorem fI{f:Addr}{fd:FuncData}(F:eO K "do_straight" "Plain.do_straight" dc f fd){af:Addr}(aj:ai K af){C:Addr}{wt:Bool}(ac:ax K C)(OE:c9 P w K mg base aU "taken" 1 ["stack","many"] (vW K))(qJ:bJ P w K mg base aU C "bare" 1 ["self","value"] (jW K wt))(ju:bJ P w K mg base aU C "tagged" 1 ["self","tag","number"] (e7 K wt)):bh P w K mg base aU 2 f fd ["self","frame","row"] (eD K af C wt):=by
 refine F.ok bX (λvs H Q E h=>?_) (λcdv A outer s H vs Q E hr h=>?_)
 ·obtain⟨mm,fs,fr,g',r,rt,sd,rfl,hM,hf,hR,hK,kR,YC,q⟩:=h;rfl
 obtain⟨mm,fs,fr,g',r,rt,sd,rfl,hM,hf,hR,hK,kR,YC,q⟩:=h;refine⟨_,(qK (bB (i:=3) bX.nd rfl (aaW rfl) (aC aE (pv 2) pI (λ_ _=>rfl)))
   (qK (bB (i:=4) bX.nd rfl (aaW rfl) (aM (pv 1) rfl))
   (qO (br (tR cm (pv 3) ba (aP _)) (qO (bG (sS aa2 abr abt dP (pv 4) (pK (jk (pv 0) ju dQ (hr.mono (by decide)) (pK ba (pK (aC aE (pv 2) pI (λ_ _=>rfl)) pN))) pN)))) (qO (br (tR cm (pv 3) ba (aP _)) (qO (bG (sS aa2 abr abt dP (pv 4) (pK (aC bq (aM (pv 1) rfl) (aC aE (pv 2) pI (λ_ _=>rfl)) (λ_ _=>rfl)) pN)))) (qO (br (tR cm (pv 3) ba (aP _)) (qO (HQ (jC aa2 abp abq kT (pv 4)) (QV (aM (pv 1) rfl) (aC aE (pv 2) pI (λ_ _=>rfl)) set_list))) (qO (br (tR cm (pv 3) ba (aP _)) (qO (bG (sS aa2 abr abt dP (pv 4) (pK (aC bq (pv 4) (vb oV pI) (λ_ _=>rfl)) pN)))) (qO (br (tR cm (pv 3) ba (aP _)) (qK (bB (i:=5) bX.nd rfl (aaW rfl) (dr OE (hr.mono (by decide)) rfl (pK (pv 4) (pK pI pN))))
   (qO (bG (sS aa2 PySem.F.slot_list_extend PySem.F.type_list_extend FJ (pv 4) (pK (cK (pK (aC bq (pv 5) pI (λ_ _=>rfl)) (pK (aC bq (pv 5) pI (λ_ _=>rfl)) pN))) pN))))) (qO (br (tR cm (pv 3) ba (aP _)) (qO (bG (jC aa2 abp abq kT (pv 4)))) (qO (bG (sS aa2 abr abt dP (aM (pv 0) rfl) (pK (jk (pv 0) qJ dQ (hr.mono (by decide)) (pK (jC aa2 abp abq kT (pv 4)) pN)) pN)))))))))))))))))),?_⟩
 have hF:=hM.last hf;obtain⟨⟨fdx,f1⟩,⟨bys,f2,f3⟩,⟨sys,f4,f5⟩,fne⟩:=id hF;have lst:=f5.1;have ff:=jT hf;obtain⟨mdx,ev,m1,m2⟩:=hM.ob;refine⟨_,rfl,rt,_,_,_,rfl,rfl,hR,aN (j:=0) rfl,?_⟩;refine⟨_,rfl,fr.fa,af,fdx,_,_,rfl,f1,aj.cl,aj.gp,gY,?_⟩
 cases hK with
 | push =>
  rename_i w;refine⟨_,rfl,rfl,_,rfl,xO rfl ?_⟩;refine⟨_,rfl,.inl ⟨rfl,_,bg.of f4⟩,_,rfl,mm.ma,mdx,_,rfl,m1,mc_no (by decide +kernel),_,rfl,rt,_,_,_,rfl,rfl,hR,aN (j:=1) rfl,_,.num w,(λz=>nomatch z),rfl,λv H1 s1 hv=>?_⟩;obtain⟨a1,a2⟩:=hF.oH s1 ((f5.same s1).snoc hv);exact⟨fr.sl,sys,v,rfl,rfl,s1 _ _ f4,big (by omega),q {fr with st:=fr.st++[.num w]} _ rfl rfl rfl rfl (hM.top hf rfl rfl rfl a2 a1) (a2.sub ff)⟩
 | load hx =>
  rename_i b x;refine⟨_,rfl,rfl,_,rfl,iP (show ¬ V.str "load"=V.str "push" by decide +kernel) ?_⟩;refine⟨_,rfl,rfl,_,rfl,xO rfl ?_⟩;obtain⟨y,hy,hv⟩:=f3.at hx;refine⟨_,rfl,.inl ⟨rfl,_,bg.of f4⟩,_,rfl,fr.fa,af,fdx,_,_,rfl,f1,aj.cl,aj.uL,vN,_,rfl,rt,_,_,_,rfl,rfl,hR,aN (j:=1) rfl,fr.bl,_,_,_,rfl,rfl,bg.of f2,aN hy,?_⟩;obtain⟨a1,a2⟩:=hF.oH (aA.refl H) (f5.snoc hv);exact⟨fr.sl,sys,y,rfl,rfl,f4,big (by omega),q {fr with st:=fr.st++[x]} _ rfl rfl rfl rfl (hM.top hf rfl rfl rfl a2 a1) (a2.sub ff)⟩
 | store hst hb =>
  rename_i b st x;have hst:fr.st=_:=hst;refine⟨_,rfl,rfl,_,rfl,iP (show ¬ V.str "store"=V.str "push" by decide +kernel) ?_⟩;refine⟨_,rfl,rfl,_,rfl,iP (show ¬ V.str "store"=V.str "load" by decide +kernel) ?_⟩;refine⟨_,rfl,rfl,_,rfl,xO rfl ?_⟩;rw[hst]at f5;obtain⟨zs,y,rfl,hz,hv⟩:=f5.lastOf;refine⟨_,rfl,.inl ⟨rfl,_,bg.of f4⟩,fr.sl,_,y,rfl,rfl,f4,jU,?_⟩;rw[List.dropLast_concat];obtain⟨a1,a2⟩:=hF.oH (aA.refl H) hz;have M1:=hM.top hf (f':={fr with st:=st}) rfl rfl rfl a2 a1;have F1:=M1.last rfl;obtain⟨⟨gdx,g1⟩,⟨gys,g2,g3⟩,⟨gzs,g4,g5⟩,gne⟩:=id F1;have kx:az [fr.sl] H (upd H fr.sl (.lst zs)):=aW;have mu:a6 H [fr.sl]:=hF.sX.sub (λc hc=>by rw[cj hc];simp[eA]);have J5:=hv.keep kx mu;have gR:=a8.keep kx mu hR;have a2':=a2.sub ff;generalize upd H fr.sl (.lst zs)=H1 at M1 F1 g1 g2 g3 g4 g5 J5 gR a2' ⊢;have lb:=g3.1;refine⟨_,rfl,fr.fa,af,gdx,_,_,rfl,g1,aj.cl,aj.uL,vN,_,rfl,rt,_,_,_,rfl,rfl,gR,aN (j:=1) rfl,fr.bl,gys,_,b,rfl,rfl,g2,Om (by show b < gys.length;rw[lb];exact hb),?_⟩;obtain⟨b1,b2⟩:=F1.Vq (aA.refl H1) (g3.set J5 b);have M2:=M1.top (fs:=fs) (f:={fr with st:=st}) (f':={fr with bx:=fr.bx.set b x,st:=st}) rfl rfl rfl rfl b2 b1;exact q {fr with bx:=fr.bx.set b x,st:=st} _ rfl rfl rfl rfl M2 (a2'.trans (b2.sub ff))
 | dup hst =>
  rename_i st x;have hst:fr.st=_:=hst;refine⟨_,rfl,rfl,_,rfl,iP (by decide +kernel) ?_⟩;refine⟨_,rfl,rfl,_,rfl,iP (by decide +kernel) ?_⟩;refine⟨_,rfl,rfl,_,rfl,iP (by decide +kernel) ?_⟩;refine⟨_,rfl,rfl,_,rfl,xO rfl ?_⟩;have f5':=f5;rw[hst]at f5';obtain⟨zs,y,rfl,hz,hv⟩:=f5'.lastOf;refine⟨_,rfl,.inl ⟨rfl,_,bg.of f4⟩,_,rfl,_,rfl,fr.sl,_,_,_,rfl,rfl,bg.of f4,jq,?_⟩;obtain⟨a1,a2⟩:=hF.oH (aA.refl H) (f5.snoc hv);exact⟨fr.sl,_,y,rfl,rfl,f4,big (by omega),q {fr with st:=fr.st++[x]} _ rfl rfl rfl rfl (hM.top hf rfl rfl rfl a2 a1) (a2.sub ff)⟩
 | swap hst =>
  rename_i st x y;have hst:fr.st=_:=hst;refine⟨_,rfl,rfl,_,rfl,iP (by decide +kernel) ?_⟩;refine⟨_,rfl,rfl,_,rfl,iP (by decide +kernel) ?_⟩;refine⟨_,rfl,rfl,_,rfl,iP (by decide +kernel) ?_⟩;refine⟨_,rfl,rfl,_,rfl,iP (by decide +kernel) ?_⟩;refine⟨_,rfl,rfl,_,rfl,xO rfl ?_⟩;rw[hst]at f5;obtain⟨zs,u,v,rfl,hz,hu,hv⟩:=f5.QH;refine⟨_,rfl,fr.sl,_,2,rfl,f4,by simp,by decide,λl H1 nl g1 g2 k1=>?_⟩;rw[tk2.1]at g1;rw[tk2.2]at g2;have kx:az [fr.sl] H H1:=λc o hc e=>k1 c o (λz=>hc (by rw[z];exact List.mem_singleton.mpr rfl)) e
  have mu:a6 H [fr.sl]:=hF.sX.sub (λc hc=>by rw[cj hc];simp[eA]);obtain⟨a1,a2⟩:=hF.putSt kx g2 (hz.keep kx mu);have M1:=hM.top hf (f':={fr with st:=st}) rfl rfl rfl a2 a1;have hu1:=hu.keep kx mu;have J5:=hv.keep kx mu;refine⟨_,rfl,.inl ⟨rfl,_,bg.of g2⟩,_,rfl,l,_,_,_,rfl,rfl,bg.of g1,aN (j:=1) rfl,_,rfl,l,_,_,_,rfl,rfl,bg.of g1,aN (j:=0) rfl,HI,λl2 h2=>?_⟩;have s2:=sN h2 (.lst [v,u]);have lz:zs.length<=1000:=by rw[hst]at kR;have:=hz.1;simp at kR;omega
  refine⟨fr.sl,l2,zs,_,rfl,rfl,s2 _ _ g2,uS,Nat.le_of_lt (big (by simp;omega)),?_⟩;obtain⟨b1,b2⟩:=(M1.last rfl).oH s2 (((hz.keep kx mu).same s2).append (eP.snoc (eP.snoc eP.nil (J5.same s2)) (hu1.same s2)));have M2:=M1.top (fs:=fs) (f:={fr with st:=st}) (f':={fr with st:=st++[y,x]}) rfl rfl rfl rfl b2 b1;exact q {fr with st:=st++[y,x]} _ rfl rfl rfl rfl M2 ((a2.sub ff).trans (b2.sub ff))
 | drop hst =>
  rename_i st x;have hst:fr.st=_:=hst;refine⟨_,rfl,rfl,_,rfl,iP (by decide +kernel) ?_⟩;refine⟨_,rfl,rfl,_,rfl,iP (by decide +kernel) ?_⟩;refine⟨_,rfl,rfl,_,rfl,iP (by decide +kernel) ?_⟩;refine⟨_,rfl,rfl,_,rfl,iP (by decide +kernel) ?_⟩;refine⟨_,rfl,rfl,_,rfl,iP (by decide +kernel) ?_⟩;refine⟨_,rfl,rfl,_,rfl,xO rfl ?_⟩;rw[hst]at f5;obtain⟨zs,y,rfl,hz,hv⟩:=f5.lastOf;refine⟨_,rfl,.inl ⟨rfl,_,bg.of f4⟩,fr.sl,_,y,rfl,rfl,f4,jU,?_⟩;rw[ac8];obtain⟨a1,a2⟩:=hF.oH (aA.refl H) hz;exact q {fr with st:=st} _ rfl rfl rfl rfl (hM.top hf rfl rfl rfl a2 a1) (a2.sub ff)
 | say hst hn =>
  rename_i st x;have hst:fr.st=_:=hst;refine⟨_,rfl,rfl,_,rfl,iP (by decide +kernel) ?_⟩;refine⟨_,rfl,rfl,_,rfl,iP (by decide +kernel) ?_⟩;refine⟨_,rfl,rfl,_,rfl,iP (by decide +kernel) ?_⟩;refine⟨_,rfl,rfl,_,rfl,iP (by decide +kernel) ?_⟩;refine⟨_,rfl,rfl,_,rfl,iP (by decide +kernel) ?_⟩;refine⟨_,rfl,rfl,_,rfl,iP (by decide +kernel) ?_⟩;rw[hst]at f5;obtain⟨zs,y,rfl,hz,hv⟩:=f5.lastOf;have kx:az [fr.sl] H (upd H fr.sl (.lst zs)):=aW;have mu:a6 H [fr.sl]:=hF.sX.sub (λc hc=>by rw[cj hc];simp[eA]);obtain⟨a1,a2⟩:=hF.oH (aA.refl H) hz;have M1:=hM.top hf (f':={fr with st:=st}) rfl rfl rfl a2 a1;have J5:=hv.keep kx mu;refine⟨_,rfl,mm.ma,C,mdx,_,_,rfl,m1,ac.cl,ac.C8,Fl,.inl ⟨rfl,_,bg.of hM.sd⟩,_,rfl,mm.ma,mdx,_,rfl,m1,mc_no (by decide +kernel),_,rfl,.inl ⟨rfl,_,bg.of f4⟩,fr.sl,_,y,rfl,rfl,f4,jU,?_⟩;rw[List.dropLast_concat];refine⟨_,y,x,rfl,J5,hn,mm.sd,_,_,rfl,rfl,M1.sd,big (by rw[List.length_map];show mm.said.length<=1000000;omega),?_⟩;have M2:=M1.says (sd:=mm.said++[eS x]) (H':=upd (upd H fr.sl (.lst zs)) mm.sd (.lst (mm.said.map V.int++[.int (eS x)]))) aW (by rw[uS,List.map_append];rfl);refine q {fr with st:=st} _ rfl rfl rfl rfl M2 ((a2.sub ff).trans (az.sub aW (λc hc=>by rw[cj hc];simp[foot])))
theorem v9:aB ["stretches","at","stretch"] ["stretches","at"] (dS rV):=by walk_at "sc"
theorem Du{f:Addr}{fd:FuncData}(F:eO K "catcher" "catcher" rV f fd){af:Addr}(aj:ai K af):bh P w K mg base aU 1 f fd ["stretches","at"] (pM K):=by
 refine F.ok v9 (λvs H Q E h=>?_) (λcdv A outer s H vs Q E hr h=>?_)
 ·obtain⟨a,ys,ss,p,rfl,hS,hI,q⟩:=h;rfl
 obtain⟨a,ys,ss,p,rfl,hS,hI,q⟩:=h;refine⟨_,(qK (uZ abG rfl (iG (pv 0)) (bU (i:=2) v9.nd rfl (aaW rfl)) (qO (br (vd EA xG (aC aE (pv 2) pI (λ_ _=>rfl)) (pv 1) (aC aE (pv 2) pI (λ_ _=>rfl))) (qO (aI (aC aE (pv 2) pI (λ_ _=>rfl)))) bc)))
   (qO (aI dW))),?_⟩
 refine⟨_,rfl,a,rfl,⟨_,hS⟩,?_⟩;refine va (xs:=ys) (λi σ H2=>∃(o2:Option V),σ=[some (.ref a),some (.int p),o2]/\H2=H/\∀j,j < i->∀y,ss[j]?=some y->¬ (y.1<=p/\p < y.2.1)) ⟨_,rfl,rfl,λj h=>absurd h (Nat.not_lt_zero _)⟩ ?_ ?_ ?_
 ·rintro i σ H2 hi ⟨o2,rfl,rfl,_⟩;exact hS
 ·rintro i y σ H2 hy ⟨o2,rfl,rfl,ha⟩;obtain⟨x,hx,t,rfl,hT⟩:=hI.at hy;refine⟨_,rfl,t,_,_,_,rfl,rfl,hT,aN (j:=0) rfl,_,rfl,_,_,rfl,rfl,_,rfl,?_⟩
  have nxt:¬ (x.1<=p/\p < x.2.1)->∀j,j < i + 1->∀y,ss[j]?=some y->¬ (y.1<=p/\p < y.2.1):=λz j hj y hy'=>by
   by_cases e:j=i
   ·subst e;rw[hx]at hy';cases hy';exact z
   ·exact ha j (by omega) y hy'
  refine vi (λz1=>?_) (λz1=>?_)
  ·have z1':x.1<=p:=abo z1;refine⟨_,rfl,t,_,_,_,rfl,rfl,hT,aN (j:=1) rfl,_,_,rfl,rfl,_,rfl,?_⟩;refine vi (λz2=>?_) (λz2=>?_)
   ·have z2':p < x.2.1:=abo z2;rw[caught_here hx ha ⟨z1',z2'⟩]at q;exact⟨_,rfl,t,_,_,_,rfl,rfl,hT,aN (j:=2) rfl,q⟩
   ·exact⟨_,rfl,rfl,nxt λh=>z2 (abh h.2)⟩
  ·exact⟨_,rfl,cu ⟨_,rfl,rfl,nxt λh=>z1 (abh h.1)⟩⟩
 ·rintro σ H2 ⟨o2,rfl,rfl,ha⟩;rw[A2 λj hj=>ha j (by rw[hI.1];exact hj)]at q;exact q
theorem qP:aB ["parts","live","at"] ["parts","live"] (dS lj):=by walk_at "sc"
theorem zu{f:Addr}{fd:FuncData}(F:eO K "caught_at" "caught_at" lj f fd)(bI:mg "len"=none){af:Addr}(aj:ai K af)(GA:c9 P w K mg base aU "catcher" 1 ["stretches","at"] (pM K)):bh P w K mg base aU 2 f fd ["parts","live"] (jY K af):=by
 refine F.ok qP (λvs H Q E h=>?_) (λcdv A outer s H vs Q E hr h=>?_)
 ·obtain⟨pl,lv,xs,ps,aT,rfl,hL,hB,hF,q1,q2⟩:=h;rfl
 obtain⟨pl,lv,xs,ps,aT,rfl,hL,hB,hF,q1,q2⟩:=h;refine⟨_,(qK (uX abG (tR HZ (bL bu rfl bI gI (pK (pv 1) pN)) pI (aP _)) (qK (bB (i:=2) qP.nd rfl (aaW rfl) (dr GA (hr.mono (by decide)) rfl (pK (aC aE (aC bq (pv 0) (aM (aC bq (pv 1) (vb oV pI) (λ_ _=>rfl)) rfl) (λ_ _=>rfl)) pI (λ_ _=>rfl)) (pK (aM (aC bq (pv 1) (vb oV pI) (λ_ _=>rfl)) rfl) pN))))
   (qK (br (tR yB (pv 2) dW (aP _)) (qO (aI (pv 2))) bc)
   (qO (bG (jC aa2 abp abq kT (pv 1)))))))
   (qO (aI dW))),?_⟩
 refine Aa (λσ H2=>∃(k:Nat) (o:Option V),k<=aT.length/\σ=[some (.ref pl),some (.ref lv),o]/\H2 lv=some (.lst ((aT.take k).map λf=>.ref f.fa))/\az [lv] H H2/\∀g∈aT.drop k,Gu ps g.pf=none) (λ(_:St) (H2:Hp)=>J3 H2 lv) ⟨aT.length,none,Nat.le_refl _,rfl,by rw[List.take_length];exact hL,az.refl,λg hg=>by simp at hg⟩ ?_ ?_
 ·rintro σ H2 ⟨k,o,hk,rfl,g2,k2,hno⟩;refine⟨_,rfl,lv,_,rfl,.inl (bg.of g2),_,_,rfl,rfl,_,rfl,vi (λz=>?_) (λz=>?_)⟩
  ·have z':(0:Int) < ((((aT.take k).map λf=>V.ref f.fa).length:Nat):Int):=abo z;rw[aab,abl]at z';obtain⟨k,rfl⟩:∃j,k=j + 1:=⟨k - 1,by omega⟩;have hkl:k < aT.length:=by omega
   have et:aT.take (k + 1)=aT.take k++[aT[k]]:=by rw[abv hkl]
   have ed:aT.drop k=aT[k]::aT.drop (k + 1):=acz hkl;have ea:aT=aT.take k++aT[k]::aT.drop (k + 1):=by rw[← ed,ack]
   obtain⟨⟨dx,e1⟩,p,hp⟩:=hF _ (ach hkl);generalize aT[k]=f' at et ed ea e1 hp;have nf:f'.fa≠lv:=HJ e1 hL (by intro z;cases z);have e2:=k2 _ _ (λz=>nf (cj z)) e1;obtain⟨hS,hR⟩:=hB H2 k2;obtain⟨w0,MC,hwr⟩:=jS hR hp;obtain⟨t,l0,l4,l5,ks,AZ,z8,f1,rfl,hTt,Gq,hkk,rg,JN,JO,JP,FQ⟩:=lD hwr
   have ct:Gu ps f'.pf=fq p.spans f'.at':=by
    unfold Gu;show(ps[f'.part]?).bind _=_;rw[hp];rfl
   have g2':=g2;rw[et,aba,show([f'].map λf=>V.ref f.fa)=[V.ref f'.fa]from rfl]at g2;refine⟨_,rfl,_,rfl,_,rfl,lv,_,_,_,rfl,rfl,bg.of g2,jq,f'.fa,af,dx,_,_,rfl,e2,aj.cl,aj.pF,oj,pl,_,_,_,rfl,rfl,hS,aN MC,t,_,_,_,rfl,rfl,hTt,aN (j:=5) rfl,_,rfl,_,rfl,lv,_,_,_,rfl,rfl,bg.of g2,jq,f'.fa,af,dx,_,_,rfl,e2,aj.cl,aj.ur,vM,l5,z8,Gs p.spans,(f'.at':Int),rfl,JP,Uc.JM FQ,?_⟩;rw[vR]
   cases hc:fq p.spans f'.at' with
   | none =>
    refine⟨_,rfl,rfl,_,rfl,?_⟩;show if (!decide (V.non=V.non))=true then _ else _
    rw[if_neg (by simp)];dsimp only[gj];refine⟨_,rfl,.inl ⟨rfl,_,bg.of g2⟩,lv,_,_,rfl,rfl,g2,jU,?_⟩;rw[List.dropLast_concat];refine⟨⟨k,_,by omega,rfl,uS,k2.trans aW,λg hg=>?_⟩,?_⟩
    ·rw[ed]at hg;rcases abH.mp hg with z | z
     ·rw[z,ct,hc]
     ·exact hno g z
    ·rw[A8 uS,A8 g2];simp
   | some n =>
    refine⟨_,rfl,rfl,_,rfl,?_⟩;show if (!decide (V.int (n:Int)=V.non))=true then _ else _
    rw[if_pos (by simp)];refine⟨_,rfl,q2 (aT.take k) (aT.drop (k + 1)) f' n H2 ea hno (by rw[ct,hc]) ?_ k2⟩;rw[← et];exact g2'
  ·have z':¬ (0:Int) < ((((aT.take k).map λf=>V.ref f.fa).length:Nat):Int):=λe=>z (abh e)
   rw[aab,abl]at z';have e0:aT.take k=[]:=List.eq_nil_of_length_eq_zero (by rw[abl];omega);rw[e0]at g2;refine q1 H2 (λf hf=>hno f ?_) g2 k2
   have:aT.drop k=aT:=by
    have:=ack k aT;rw[e0]at this;exact this
   rw[this];exact hf
 ·rintro σ H2 Q1 Q2 f ⟨v,e1,l,ys,e2,e3,i,j,e4,e5,b,e6,q1⟩;exact⟨v,e1,l,ys,e2,e3,i,j,e4,e5,b,e6,f _ _ q1⟩
theorem wb:aB ["self"] ["self"] (dS iT):=by walk_at "sc"
theorem lN{f:Addr}{fd:FuncData}(F:eO K "spend" "Plain.spend" iT f fd){af:Addr}(aj:ai K af){C:Addr}{wt:Bool}(ac:ax K C):bh P w K mg base aU 1 f fd ["self"] (qE K af C wt):=by
 refine F.ok wb (λvs H Q E h=>?_) (λcdv A outer s H vs Q E hr h=>?_)
 ·obtain⟨mm,rfl,hM,q1,q2⟩:=h;rfl
 obtain⟨mm,rfl,hM,q1,q2⟩:=h;refine⟨_,(qK (br (tR EA (aM (pv 0) rfl) pI (aP _)) (qK (cn (pv 0) (c8 (pK ba pN)) rfl)
   (qO (aI z9))) bc)
   (qK (cn (pv 0) (a9 gH (aM (pv 0) rfl) pI) rfl)
   (qO (aI z9)))),?_⟩
 obtain⟨dx,ev,h1,h2⟩:=hM.ob;have mu:a6 H [mm.ma]:=hM.sX.sub (λc hc=>by rw[cj hc];exact cJ.1);refine⟨_,rfl,mm.ma,C,dx,_,_,rfl,h1,ac.cl,ac.vG,zg,_,_,rfl,rfl,_,rfl,vi (λz=>?_) (λz=>?_)⟩
 ·have z':mm.left<=0:=abo z;refine⟨Qb,λt ht=>?_⟩;have s1:=sN ht (.tup [.str "weary"]);have g1:a8 K (upd H t (.tup [.str "weary"])) t [.str "weary"]:=a8.of uS;have M1:=hM.same s1;have mu1:=mu.same s1;have h1':=s1 _ _ h1;generalize upd H t _=H1 at s1 g1 M1 mu1 h1' ⊢;refine⟨_,rfl,mm.ma,C,dx,_,rfl,h1',ac.cl,ac.sW,vQ,?_⟩;rw[oo];have kx:az [mm.ma] H1 (upd H1 mm.ma (.ins C dx (pH mm.b mm.lv mm.rc mm.sd mm.left (.ref t)))):=aW;exact q2 z' _ (M1.own kx uS (.inr ⟨(λz=>nomatch z),t,rfl,a8.keep kx mu1 g1⟩)) ((eB s1).trans kx)
 ·have z':0 < mm.left:=by
   have:¬ mm.left<=0:=λe=>z (abh e)
   omega
  dsimp only[gj];refine⟨_,rfl,mm.ma,C,dx,_,_,rfl,h1,ac.cl,ac.vG,zg,_,_,rfl,rfl,_,rfl,mm.ma,C,dx,_,rfl,h1,ac.cl,ac.vG,vQ,?_⟩;rw[Dj];have kx:az [mm.ma] H (upd H mm.ma (.ins C dx (pH mm.b mm.lv mm.rc mm.sd (mm.left - 1) ev))):=aW;exact q1 z' _ (hM.own kx uS (h2.keep kx mu)) kx
theorem wc:aB ["self","frame","at"] ["self","frame","at"] (dS iU):=by walk_at "sc"
theorem lO{f:Addr}{fd:FuncData}(F:eO K "go_on" "Plain.go_on" iU f fd){af:Addr}(aj:ai K af){C:Addr}{wt:Bool}(ac:ax K C)(J7:bJ P w K mg base aU C "spend" 1 ["self"] (qE K af C wt)):bh P w K mg base aU 2 f fd ["self","frame","at"] (qF K af C wt):=by
 refine F.ok wc (λvs H Q E h=>?_) (λcdv A outer s H vs Q E hr h=>?_)
 ·obtain⟨mm,fs,f',t,rfl,hM,hf,q⟩:=h;rfl
 obtain⟨mm,fs,f',t,rfl,hM,hf,q⟩:=h;refine⟨_,(qO (br (PW.pt (pw_or (tR HZ (pv 2) (aM (pv 1) rfl) (aP _)) (pw_or1 (yy (yW (pv 0) J7 dQ (hr.mono (by decide))))))) (qO (cn (pv 1) (pv 2) rfl)) bc)),?_⟩;have hF:=hM.last hf;obtain⟨⟨fdx,f1⟩,_⟩:=id hF;obtain⟨mdx,ev,m1,m2⟩:=id hM.ob;have ff:=jT hf;have ep:(f'.pf).at'=f'.at':=rfl;have el:(mm.pm).left=mm.left:=rfl;refine⟨_,rfl,_,rfl,f'.fa,af,fdx,_,_,rfl,f1,aj.cl,aj.ur,vM,_,_,rfl,rfl,_,rfl,vi (λz=>?_) (λz=>?_)⟩
 ·have z':f'.at' < t:=by have:=abo z;omega
  refine dY ?_;refine⟨_,rfl,_,rfl,f'.fa,af,fdx,_,rfl,f1,aj.cl,aj.ur,vP,?_⟩;rw[qC];obtain⟨c1,c2⟩:=hF.setAt (dx:=fdx) (a:=t);have M1:=hM.top hf (f':={f' with at':=t}) rfl rfl rfl c2 c1;refine q {mm with aT:=fs++[{f' with at':=t}]} _ ?_ ⟨rfl,rfl⟩ M1 (λc hc=>.inl (by rw[gZ (f':={f' with at':=t}) hf rfl rfl rfl]at hc;exact hc)) (c2.sub ff);rw[zi];unfold Vr;rw[if_pos (by rw[ep];exact z')];rfl
 ·have z':¬ f'.at' < t:=λe=>z (abh (by omega))
  refine⟨_,rfl,mm.ma,mdx,_,rfl,m1,mc_no (by decide +kernel),mm,rfl,hM,λhl H1 M1 k1=>?_,λhl H1 M1 k1=>?_⟩
  ·have K1:az (foot mm) H H1:=k1.sub (λc hc=>by rw[cj hc];exact cJ.1);refine⟨_,rfl,dY ?_⟩;have F1:=M1.last hf;obtain⟨⟨gdx,g1⟩,_⟩:=id F1;refine⟨_,rfl,_,rfl,f'.fa,af,gdx,_,rfl,g1,aj.cl,aj.ur,vP,?_⟩;rw[qC];obtain⟨c1,c2⟩:=F1.setAt (dx:=gdx) (a:=t);have M2:=M1.top hf (f':={f' with at':=t}) rfl rfl rfl c2 c1;refine q {mm with aT:=fs++[{f' with at':=t}],left:=mm.left - 1} _ ?_ ⟨rfl,rfl⟩ M2 (λc hc=>.inl (by have e:=gZ (m:={mm with left:=mm.left - 1}) (f':={f' with at':=t}) hf rfl rfl rfl;rw[e]at hc;exact hc)) (K1.trans (c2.sub ff));show({mm with left:=mm.left - 1,aT:=fs++[{f' with at':=t}]}:Mc).pm=_;rw[zi (m:={mm with left:=mm.left - 1})];unfold Vr;rw[if_neg (by rw[ep];exact z'),if_pos (by rw[el];exact hl)];rfl
  ·have K1:az (foot mm) H H1:=k1.sub (λc hc=>by rw[cj hc];exact cJ.1);refine⟨_,rfl,cu ?_⟩;refine q {mm with fin:=[.inl "weary"]} _ ?_ ⟨rfl,rfl⟩ M1 (λc hc=>.inl hc) K1;unfold Vr;rw[if_neg (by rw[ep];exact z'),if_neg (by rw[el];omega)];show({mm with fin:=[.inl "weary"]}:Mc).pm=_;unfold Mc.pm;simp[hf]
theorem hJ:aB ["self","number","at","frame"] ["self","number"] (dS iV):=by walk_at "sc"
theorem lP{f:Addr}{fd:FuncData}(F:eO K "fault" "Plain.fault" iV f fd){af:Addr}(aj:ai K af){C:Addr}{wt:Bool}(ac:ax K C)(Bf:c9 P w K mg base aU "caught_at" 2 ["parts","live"] (jY K af))(J8:bJ P w K mg base aU C "go_on" 2 ["self","frame","at"] (qF K af C wt))(ju:bJ P w K mg base aU C "tagged" 1 ["self","tag","number"] (e7 K wt)):bh P w K mg base aU 3 f fd ["self","number"] (qG K af C wt):=by
 refine F.ok hJ (λvs H Q E h=>?_) (λcdv A outer s H vs Q E hr h=>?_)
 ·obtain⟨mm,n,rfl,hM,hC,q⟩:=h;rfl
 obtain⟨mm,n,rfl,hM,hC,q⟩:=h;refine⟨_,(qK (bB (i:=2) hJ.nd rfl (aaW rfl) (dr Bf (hr.mono (by decide)) rfl (pK (aC aE (aM (pv 0) rfl) pI (λ_ _=>rfl)) (pK (aM (pv 0) rfl) pN))))
   (qK (br (tR vc (pv 2) dW (aP _)) (qK (cn (pv 0) (c8 (pK ba (pK (pv 1) pN))) rfl)
   (qO yA)) bc)
   (qK (bB (i:=3) hJ.nd rfl (aaW rfl) (aC bq (aM (pv 0) rfl) (vb oV pI) (λ_ _=>rfl)))
   (qK (cn (pv 3) (cK (pK (jk (pv 0) ju dQ (hr.mono (by decide)) (pK ba (pK (pv 1) pN))) pN)) rfl)
   (qO (bG (jk (pv 0) J8 dQ (hr.mono (by decide)) (pK (pv 3) (pK (pv 2) pN))))))))),?_⟩
 obtain⟨mdx,ev,m1,m2⟩:=hM.ob;obtain⟨mk,pl,xs,hb⟩:=hM.bk;have sub:∀c∈[mm.lv],c∈foot mm:=λc hc=>by rw[cj hc];exact cJ.2.1
 refine⟨_,rfl,mm.ma,C,mdx,_,_,rfl,m1,ac.cl,ac.pG,om,mm.b,_,_,_,rfl,rfl,(hb H az.refl).1,aN (j:=1) rfl,_,rfl,mm.ma,C,mdx,_,_,rfl,m1,ac.cl,ac.jQ,iI,pl,mm.lv,xs,mm.ps,mm.aT,rfl,hM.lv,λHX kx=>⟨(hb HX (kx.sub sub)).2.2.1,(hb HX (kx.sub sub)).2.2.2⟩,λf hf=>⟨(hM.fr f hf).ob,hC f hf⟩,λH1 hno g1 k1=>?_,λfs gs f' t H1 ea hno hc g1 k1=>?_⟩
 ·refine⟨_,rfl,rfl,_,rfl,dY ?_⟩;obtain⟨M1,zj⟩:=hM.cut (fs:=[]) (gs:=mm.aT) rfl k1 g1;have K1:az (foot mm) H H1:=k1.sub sub;obtain⟨ndx,nev,n1,n2⟩:=M1.ob;refine⟨_,rfl,HI,λt ht=>?_⟩;have u3:=sN ht (.tup [.str "fault",.int n]);have T3:a8 K (upd H1 t (.tup [.str "fault",.int n])) t [.str "fault",.int n]:=a8.of uS;have M3:=M1.same u3;have K3:=K1.trans (eB u3);have n1':=u3 _ _ n1;generalize upd H1 t (.tup [.str "fault",.int n])=H3 at u3 T3 M3 K3 n1' ⊢;refine⟨_,rfl,mm.ma,C,ndx,_,rfl,n1',ac.cl,ac.sW,vQ,?_⟩;rw[oo];have YB:a6 H3 [mm.ma]:=M3.sX.sub (λc hc=>by rw[cj hc];exact cJ.1);have Sv:az [mm.ma] H3 (upd H3 mm.ma (.ins C ndx (pH mm.b mm.lv mm.rc mm.sd mm.left (.ref t)))):=aW;refine q {mm with aT:=[],fin:=[.inl "fault",.inr n]} _ ?_ ⟨rfl,rfl⟩ (M3.own Sv uS (.inr ⟨(by simp),t,rfl,a8.keep Sv YB T3⟩)) (λc hc=>.inl (zj c hc)) (K3.trans (az.sub Sv (λc hc=>by rw[cj hc];exact cJ.1)))
  have e:iY mm.pm.ps mm.pm.aT.reverse=none:=sj _ λg hg=>by
   rw[List.mem_reverse]at hg;obtain⟨f,hf,rfl⟩:=acJ.mp hg;exact hno f hf
  unfold vS;rw[e];rfl
 ·refine⟨_,rfl,rfl,_,rfl,?_⟩;show if decide (V.int (t:Int)=V.non)=true then _ else _
  rw[if_neg (by simp)];dsimp only[gj];have ea':mm.aT=(fs++[f'])++gs:=by rw[ea];simp
  obtain⟨M1,zj⟩:=hM.cut ea' k1 g1;have K1:az (foot mm) H H1:=k1.sub sub;obtain⟨ndx,nev,n1,n2⟩:=M1.ob
  have L1:H1 mm.lv=some (.lst ((fs.map λf=>V.ref f.fa)++[.ref f'.fa])):=by
   have z:=M1.lv;rw[aba]at z;exact z
  refine⟨_,rfl,mm.ma,C,ndx,_,_,rfl,n1,ac.cl,ac.jQ,iI,_,rfl,mm.lv,_,_,_,rfl,rfl,bg.of L1,jq,?_⟩;refine⟨_,rfl,mm.ma,ndx,_,rfl,n1,mc_no (by decide +kernel),_,rfl,_,.num n,(λz=>nomatch z),rfl,λv H2 s2 hv=>?_⟩;refine⟨Qb,λl nl=>?_⟩;have s3:=sN nl (.lst [v]);have g3:=uS (H:=H2) (a:=l) (o:=.lst [v]);have hv3:=hv.same s3;have S3:=s2.trans s3;generalize upd H2 l _=H3 at s3 g3 hv3 S3 ⊢;obtain⟨⟨fdx,f1⟩,_⟩:=M1.last (fs:=fs) (f:=f') rfl;have f3:=S3 _ _ f1;refine⟨_,rfl,f'.fa,af,fdx,_,rfl,f3,aj.cl,aj.gp,vP,?_⟩;rw[JT];obtain⟨M4,K4⟩:=M1.Vz (fs:=fs) (f:=f') (l:=l) (ys:=[v]) (st:=[.num n]) rfl S3 (s2.free nl) g3 (eP.snoc eP.nil hv3) f3;have K4':az (foot mm) H _:=K1.trans (K4.sub zj);generalize upd H3 f'.fa _=H4 at M4 K4 K4' ⊢;obtain⟨pdx,pev,p1,p2⟩:=M4.ob;refine⟨_,rfl,mm.ma,pdx,_,rfl,p1,mc_no (by decide +kernel),_,rfl,_,rfl,{mm with aT:=fs++[{f' with sl:=l,st:=[.num n]}]},fs,{f' with sl:=l,st:=[.num n]},t,rfl,M4,rfl,λm' H' r1 r2 r3 r4 r5=>?_⟩
  have nlH:H l=none:=by
   cases hh:H l with
   | none=>rfl
   | some o =>
    have z:=s2.free nl;by_cases e:l=mm.lv
    ·rw[e,g1]at z;cases z
    ·rw[k1 _ _ (λy=>e (cj y)) hh]at z;cases z
  have Gz:∀c∈foot {mm with aT:=fs++[{f' with sl:=l,st:=[.num n]}]},c∈foot mm∨H c=none:=λc hc=>by
   rw[cw (m:={mm with aT:=fs++[{f' with sl:=l,st:=[.num n]}]}) rfl]at hc;by_cases e:c=l
   ·rw[e];exact .inr nlH
   ·refine .inl (zj c ?_);rw[cw (m:={mm with aT:=fs++[f']}) rfl];simp only[eA,List.mem_cons,List.mem_append,List.not_mem_nil,or_false]at hc ⊢;rcases hc with z | z | z | z | z | z | z | z
    ·exact .inl z
    ·exact .inr (.inl z)
    ·exact .inr (.inr (.inl z))
    ·exact .inr (.inr (.inr (.inl z)))
    ·exact .inr (.inr (.inr (.inr (.inl z))))
    ·exact .inr (.inr (.inr (.inr (.inr (.inl z)))))
    ·exact .inr (.inr (.inr (.inr (.inr (.inr (.inl z))))))
    ·exact absurd z e
  have fresh:∀c,H4 c=none->c∈foot mm∨H c=none:=λc hc=>by
   by_cases hz:c∈foot mm
   ·exact .inl hz
   ·refine .inr ?_
    cases hh:H c with
    | none=>rfl
    | some o=>rw[K4' c o hz hh]at hc;cases hc
  refine q m' H' ?_ r2 r3 (λc hc=>?_) (λc o hc e=>r5 c o (λhz=>?_) (K4' c o hc e))
  ·have e:iY mm.pm.ps mm.pm.aT.reverse=some ((fs.map Fm.pf).reverse.reverse,f'.pf,t):=by
    show iY mm.ps (mm.aT.map Fm.pf).reverse=_;rw[ea,aba,List.reverse_append,ab3,aca,List.append_assoc]
    exact yb hc _ _ λg hg=>by
     rw[List.mem_reverse]at hg;obtain⟨f,hf,rfl⟩:=acJ.mp hg;exact hno f hf
   rw[List.reverse_reverse]at e;rw[r1];unfold vS;rw[e];rfl
  ·rcases r4 c hc with z | z
   ·exact Gz c z
   ·exact fresh c z
  ·rcases Gz c hz with z | z
   ·exact hc z
   ·rw[z]at e;cases e
theorem kL:aB ["self","frame","row","sign"] ["self","frame","row"] (dS gU):=by walk_at "sc"
theorem kM{f:Addr}{fd:FuncData}(F:eO K "do_row" "Plain.do_row" gU f fd){ow:Addr}(qQ:mg "GOING"=some (.ref ow))(OG:∀H:Hp,aR K H (.ref ow) AV)(WW:∃o,K.lookup ow=some o/\o.cls=.type "tuple"/\o.dict=none){cV:Addr}(eF:mg "OF_RECORDS"=some (.ref cV))(zv:∀H:Hp,aR K H (.ref cV) oF)(OH:∃o,K.lookup cV=some o/\o.cls=.type "tuple"/\o.dict=none){cz:Addr}(fJ:mg "RECKONING"=some (.ref cz))(Bg:∀H:Hp,aR K H (.ref cz) qB)(QK:∃o,K.lookup cz=some o/\o.cls=.type "tuple"/\o.dict=none){af:Addr}(aj:ai K af){C:Addr}{wt:Bool}(ac:ax K C)(qJ:bJ P w K mg base aU C "bare" 1 ["self","value"] (jW K wt))(Dv:bJ P w K mg base aU C "do_give" 2 ["self","frame"] (jX K af C wt))(wd:bJ P w K mg base aU C "do_straight" 2 ["self","frame","row"] (eD K af C wt))(J9:bJ P w K mg base aU C "fault" 3 ["self","number"] (qG K af C wt)):bh P w K mg base aU 4 f fd ["self","frame","row"] (ou K af C wt):=by
 refine F.ok kL (λvs H Q E h=>?_) (λcdv A outer s H vs Q E hr h=>?_)
 ·obtain⟨mm,fs,fr,r,rt,p',rfl,hM,hf,hR,hfi,hD,q⟩:=h;rfl
 obtain⟨mm,fs,fr,r,rt,p',rfl,hM,hf,hR,hfi,hD,q⟩:=h;refine⟨_,(qK (bB (i:=3) kL.nd rfl (aaW rfl) (aC aE (pv 2) pI (λ_ _=>rfl)))
   (qO (br (tR nY (pv 3) (jA (v:=.ref ow) rfl qQ rfl) rfl) (qO qo) (qO (br (tR nY (pv 3) (jA (v:=.ref cz) rfl fJ rfl) rfl) (qO qo) (qO (br (tR cm (pv 3) ba (aP _)) (qO qo) (qO (br (tR cm (pv 3) ba (aP _)) (qO (bG (jk (pv 0) Dv dQ (hr.mono (by decide)) (pK (pv 1) pN)))) (qO (br (tR cm (pv 3) ba (aP _)) (qO (bG (jk (pv 0) J9 dQ (hr.mono (by decide)) (pK (jk (pv 0) qJ dQ (hr.mono (by decide)) (pK (jC aa2 abp abq kT (aM (pv 1) rfl)) pN)) pN)))) (qO (br (tR nY (pv 3) (jA (v:=.ref cV) rfl eF rfl) rfl) (qK qo
   (qO (cn (pv 1) (a9 kS (aM (pv 1) rfl) pI) rfl))) (qK (bG (jk (pv 0) wd dQ (hr.mono (by decide)) (pK (pv 1) (pK (pv 2) pN))))
   (qO (cn (pv 1) (a9 kS (aM (pv 1) rfl) pI) rfl)))))))))))))))),?_⟩
 have hF:=hM.last hf;obtain⟨⟨fdx,f1⟩,⟨bys,f2,f3⟩,⟨sys,f4,f5⟩,fne⟩:=id hF;have ff:=jT hf;obtain⟨mdx,ev,m1,m2⟩:=id hM.ob;have hst:∀f∈mm.aT,f.st.length<=1000/\∃q,mm.ps[f.part]?=some q:=λf hf=>hfi.st f.pf (acJ.mpr ⟨f,hf,rfl⟩)
 have tw:=(hst fr (by rw[hf];simp)).1;have hC:∀f∈mm.aT,∃q,mm.ps[f.part]?=some q:=λf hf=>(hst f hf).2
 have TR:mm.aT.length<=12:=by have:=hfi.fr;unfold Mc.pm at this;simpa using this
 refine⟨_,rfl,rt,_,_,_,rfl,rfl,hR,aN (j:=0) rfl,?_⟩;have goT:a8 K H ow (Yr.map V.str):=sg OG H;have reT:a8 K H cz (JW.map V.str):=sg Bg H;have rcT:a8 K H cV (Sj.map V.str):=sg zv H;refine⟨_,rfl,ow,Yr.map V.str,rfl,.inr goT,rfl,gC _,_,rfl,?_⟩;rw[jo]
 cases hD with
 | str hS =>
  have hs:=hS.sign;rw[decide_eq_false ((by decide +kernel:∀s∈qD,¬ s∈Yr) _ hs)];refine cu ?_;refine⟨_,rfl,cz,JW.map V.str,rfl,.inr reT,rfl,gC _,_,rfl,?_⟩;rw[jo,decide_eq_false ((by decide +kernel:∀s∈qD,¬ s∈JW) _ hs)];refine cu ?_;refine⟨_,rfl,rfl,_,rfl,iP (λz=>(by decide +kernel:∀s∈qD,¬ s="call") _ hs (V.str.inj z)) ?_⟩;refine⟨_,rfl,rfl,_,rfl,iP (λz=>(by decide +kernel:∀s∈qD,¬ s="give") _ hs (V.str.inj z)) ?_⟩;refine⟨_,rfl,rfl,_,rfl,iP (λz=>(by decide +kernel:∀s∈qD,¬ s="toss") _ hs (V.str.inj z)) ?_⟩;refine⟨_,rfl,cV,Sj.map V.str,rfl,.inr rcT,rfl,gC _,_,rfl,?_⟩;rw[jo,decide_eq_false ((by decide +kernel:∀s∈qD,¬ s∈Sj) _ hs)];refine cu ?_;rename_i g sd;refine⟨_,rfl,mm.ma,mdx,_,rfl,m1,mc_no (by decide +kernel),_,rfl,_,rfl,mm,fs,fr,g,r,rt,sd,rfl,hM,hf,hR,hS,tw,hfi.sd,λf' H1 e0 e1 e2 e3 M1 K1=>?_⟩;have F1:=M1.last (fs:=fs) (f:=f') rfl;obtain⟨⟨gdx,i1⟩,_⟩:=id F1;refine⟨_,rfl,f'.fa,af,gdx,_,_,by rw[e1],i1,aj.cl,aj.ur,vM,_,_,rfl,rfl,_,rfl,f'.fa,af,gdx,_,by rw[e1],i1,aj.cl,aj.ur,vP,?_⟩;rw[qC];obtain⟨c1,c2⟩:=F1.setAt (dx:=gdx) (a:=f'.at' + 1);have M2:=M1.top (fs:=fs) (f:=f') (f':={f' with at':=f'.at' + 1}) rfl rfl rfl rfl c2 c1;have ft:∀c∈eA f',c∈foot mm:=λc hc=>ff c (by unfold eA at hc ⊢;rw[e1,e2,e3]at hc;exact hc)
  refine q {mm with aT:=fs++[{f' with at':=f'.at' + 1}],said:=sd} _ ?_ ⟨rfl,rfl⟩ M2 (λc hc=>.inl ?_) (K1.trans (c2.sub ft))
  ·rw[← e0];show({mm with said:=sd,aT:=fs++[{f' with at':=f'.at' + 1}]}:Mc).pm=_;rw[zi (m:={mm with said:=sd})];rfl
  ·have e:=gZ (f':={f' with at':=f'.at' + 1}) hf e1 e2 e3;have e':foot {mm with aT:=fs++[{f' with at':=f'.at' + 1}],said:=sd}=foot {mm with aT:=fs++[{f' with at':=f'.at' + 1}]}:=rfl;rw[e',e]at hc;exact hc
 | give hst' hn =>
  rename_i st x;rw[aa9 (by decide +kernel)];refine cu ?_;refine⟨_,rfl,cz,JW.map V.str,rfl,.inr reT,rfl,gC _,_,rfl,?_⟩;rw[jo,aa9 (by decide +kernel)];refine cu ?_;refine⟨_,rfl,rfl,_,rfl,iP (by decide +kernel) ?_⟩;refine⟨_,rfl,rfl,_,rfl,xO rfl ?_⟩;exact⟨_,rfl,mm.ma,mdx,_,rfl,m1,mc_no (by decide +kernel),_,rfl,mm,fs,fr,st,x,rfl,hM,hf,hst',(λe=>hn (by rw[e];rfl)),(λg hg=>(hst g (by rw[hf];exact abx _ hg)).1),TR,q⟩
 | toss hst' hn =>
  rename_i st x;rw[decide_eq_false (by decide +kernel)];refine cu ?_;refine⟨_,rfl,cz,JW.map V.str,rfl,.inr reT,rfl,gC _,_,rfl,?_⟩;rw[jo,decide_eq_false (by decide +kernel)];refine cu ?_;refine⟨_,rfl,rfl,_,rfl,iP (by decide +kernel) ?_⟩;refine⟨_,rfl,rfl,_,rfl,iP (by decide +kernel) ?_⟩;refine⟨_,rfl,rfl,_,rfl,xO rfl ?_⟩;have YD:fr.st=st++[x]:=hst';rw[YD]at f5;obtain⟨zs,y,rfl,hz,hv⟩:=f5.lastOf;refine⟨_,rfl,mm.ma,mdx,_,rfl,m1,mc_no (by decide +kernel),_,rfl,mm.ma,mdx,_,rfl,m1,mc_no (by decide +kernel),_,rfl,fr.fa,af,fdx,_,_,rfl,f1,aj.cl,aj.gp,gY,.inl ⟨rfl,_,bg.of f4⟩,fr.sl,_,y,rfl,rfl,f4,jU,?_⟩;rw[List.dropLast_concat];obtain⟨a1,a2⟩:=hF.oH (aA.refl H) hz;have M1:=hM.top hf (f':={fr with st:=st}) rfl rfl rfl a2 a1;have kx:az [fr.sl] H (upd H fr.sl (.lst zs)):=aW;have mu:a6 H [fr.sl]:=hF.sX.sub (λc hc=>by rw[cj hc];simp[eA]);have J5:=hv.keep kx mu;have ef:=gZ (f':={fr with st:=st}) hf rfl rfl rfl;have K1:=a2.sub ff;refine⟨_,y,x,rfl,J5,hn,{mm with aT:=fs++[{fr with st:=st}]},eS x,rfl,M1,λg hg=>?_,λm' H' r1 r2 r3 r4 r5=>?_⟩
  ·have hg:g∈fs++[{fr with st:=st}]:=hg;rcases abw.mp hg with z | z
   ·exact hC g (by rw[hf];exact abx _ z)
   ·rw[cj z];exact hC fr (by rw[hf];simp)
  ·refine q m' H' ?_ r2 r3 (λc hc=>?_) (λc o hc e=>r5 c o (λhz=>hc (by rw[ef]at hz;exact hz)) (K1 c o hc e))
   ·rw[r1,zi];rfl
   ·rcases r4 c hc with z | z
    ·rw[ef]at z;exact .inl z
    ·by_cases hz:c∈foot mm
     ·exact .inl hz
     ·refine .inr ?_
      cases hh:H c with
      | none=>rfl
      | some o=>rw[K1 c o hz hh]at z;cases z
theorem uy:aB ["self","frame","row"] ["self","frame","row"] (dS gW):=by walk_at "sc"
theorem uz{f:Addr}{fd:FuncData}(F:eO K "looked" "Plain.looked" gW f fd){af:Addr}(aj:ai K af){C:Addr}(ac:ax K C):bh P w K mg base aU 6 f fd ["self","frame","row"] (jr K af C false):=by
 refine F.ok uy (λvs H Q E h=>?_) (λcdv A outer s H vs Q E hr h=>?_)
 ·obtain⟨mm,fs,fr,r,rt,p,ks,rfl,hM,hf,hR,hp,hw,kR,Ka,hrc,hnr,hA,q⟩:=h;rfl
 obtain⟨mm,fs,fr,r,rt,p,ks,rfl,hM,hf,hR,hp,hw,kR,Ka,hrc,hnr,hA,q⟩:=h;refine⟨_,(qO (aI dW)),?_⟩;exact q H (aA.refl _)
theorem j6:aB ["makes","c","elders"] ["makes","c"] (dS ll):=by walk_at "sc"
theorem zw{f:Addr}{fd:FuncData}(F:eO K "elders_of" "elders_of" ll f fd){af:Addr}(aj:ai K af):bh P w K mg base aU 1 f fd ["makes","c"] (gq K):=by
 refine F.ok j6 (λvs H Q E h=>?_) (λcdv A outer s H vs Q E hr h=>?_)
 ·obtain⟨a,ms,c,rfl,hM,hw,hc,q⟩:=h;rfl
 obtain⟨a,ms,c,rfl,hM,hw,hc,q⟩:=h;refine⟨_,(qK (bB (i:=2) j6.nd rfl (aaW rfl) (cK pN))
   (qK (uX abG (tR yB (pv 1) dW (aP _)) (qK (bG (sS aa2 abr abt dP (pv 2) (pK (pv 1) pN)))
   (qO (bB (i:=1) j6.nd rfl (aaW rfl) (aC aE (aC bq (pv 0) (pv 1) (λ_ _=>rfl)) pI (λ_ _=>rfl))))))
   (qO (aI (pv 2))))),?_⟩
 refine⟨TL,λr hr'=>?_⟩;refine Aa (λσ H2=>∃(cur:Option Nat) (pre:List Nat),σ=[some (.ref a),some (R8 cur),some (.ref r)]/\aA H H2/\H2 r=some (.lst (kK pre))/\(∀j,cur=some j->j < ms.length)/\pre++rest ms cur=bz ms c)
  (λ(σ:St) (_:Hp)=>match σ[1]? with | some (some (V.int j))=>j.toNat + 1 | _=>0) ⟨some c,[],rfl,λb o e=>by rw[uN (nN e hr')];exact e,uS,λj hj=>by cases hj;exact hc,rfl⟩ ?_ ?_
 ·rintro σ H2 ⟨cur,pre,rfl,sm,Mx,hj,he⟩
  cases cur with
  | none =>
   refine⟨_,rfl,rfl,_,rfl,cu ?_⟩;have e':pre=bz ms c:=by rw[← he];simp[rest]
   rw[e']at Mx;exact⟨_,rfl,q r H2 sm hr' Mx⟩
  | some j =>
   refine⟨_,rfl,rfl,_,rfl,dY ?_⟩;have hjl:=hj j rfl
   have hlen:(kK pre).length < sizeLine:=by
    have h1:=(oh hw c hc).1;have h2:(pre++rest ms (some j)).length=(bz ms c).length:=by rw[he]
    have h3:=hw.few;rw[abu]at h2;rw[aab];exact sK (by omega)
   refine⟨_,rfl,.inl ⟨rfl,_,bg.of Mx⟩,_,rfl,r,_,_,rfl,rfl,Mx,hlen,?_⟩;have Sw:aA H (upd H2 r (.lst (kK pre++[.int (j:Int)]))):=λb o e=>by rw[uN (nN e hr')];exact sm b o e
   obtain⟨xs,hS,hI⟩:=hM.same Sw;obtain⟨m,hm,hel,hlt⟩:=hw.el hjl;have hxl:j < xs.length:=by rw[hI.1];exact hjl
   obtain⟨t,l,ks,hx,ht,_⟩:=hI.2 j _ m (dN hxl) hm;refine⟨_,rfl,_,rfl,a,xs,_,_,rfl,rfl,hS,aN (dN hxl),t,_,_,_,hx,rfl,ht,aN (j:=0) rfl,?_⟩;refine⟨⟨m.1,pre++[j],rfl,Sw,?_,λi hi=>?_,?_⟩,?_⟩
   ·rw[uS];show _=some (HO.lst (List.map _ (pre++[j])));rw[aba];rfl
   ·have:=hlt i hi;omega
   ·rw[← he];show(pre++[j])++rest ms m.1=pre++bz ms j;rw[lC hw hjl,hel];simp
   ·show(match (some (some (R8 m.1)):Option (Option V))with | some (some (V.int j))=>j.toNat + 1 | _=>0) < ((j:Int).toNat + 1)
    cases e:m.1 with
    | none=>show 0 < _;omega
    | some i =>
     have:=hlt i e;show(i:Int).toNat + 1 < _;omega
 ·rintro σ H2 Q1 Q2 f ⟨v,e1,e2,k,e3,q1⟩;exact⟨v,e1,e2,k,e3,f _ _ q1⟩
theorem gz:aB ["makes","c","fields","elder"] ["makes","c"] (dS lq):=by walk_at "sc"
theorem zx{f:Addr}{fd:FuncData}(F:eO K "fields_of" "fields_of" lq f fd)(cO:mg "list"=none){af:Addr}(aj:ai K af)(lQ:c9 P w K mg base aU "elders_of" 1 ["makes","c"] (gq K)):bh P w K mg base aU 2 f fd ["makes","c"] (gr K):=by
 refine F.ok gz (λvs H Q E h=>?_) (λcdv A outer s H vs Q E hr h=>?_)
 ·obtain⟨a,ms,c,rfl,hM,hw,hf,hc,q⟩:=h;rfl
 obtain⟨a,ms,c,rfl,hM,hw,hf,hc,q⟩:=h;refine⟨_,(qK (bB (i:=2) gz.nd rfl (aaW rfl) (cK pN))
   (qK (uZ abG rfl (iG (dr lQ (hr.mono (by decide)) rfl (pK (pv 0) (pK (pv 1) pN)))) (bU (i:=3) gz.nd rfl (aaW rfl)) (qO (bB (i:=2) gz.nd rfl (aaW rfl) (a9 Q7 (cq bN rfl cO gm (pK (aC aE (aC bq (pv 0) (pv 3) (λ_ _=>rfl)) pI (λ_ _=>rfl)) pN)) (pv 2)))))
   (qO (aI (pv 2))))),?_⟩
 obtain⟨xs,hS,hI⟩:=id hM;have lx:=hI.1;refine⟨TL,λr0 hr0=>?_⟩;have s0:=sN hr0 (.lst []);refine⟨_,rfl,_,rfl,a,ms,c,rfl,hM.same s0,hw,hc,λre H1 s1 _ he=>?_⟩;have sm1:=s0.trans s1;refine⟨re,rfl,⟨_,bg.of he⟩,?_⟩;refine va (xs:=kK (bz ms c)) (λi σ H2=>∃(r:Addr) (ks:List V) (o3:Option V),σ=[some (.ref a),some (.int (c:Int)),some (.ref r),o3]/\aA H1 H2/\H r=none/\H2 r=some (.lst ks)/\aG K H ks (df (cL ms ((bz ms c).take i)))/\ks.length<=50 * i) ?_ ?_ ?_ ?_
 ·exact⟨r0,[],none,rfl,aA.refl _,hr0,s1 _ _ uS,.nil,by simp⟩
 ·rintro i σ H2 hi ⟨r,ks,o3,rfl,s2,_⟩;exact bg.of (s2 _ _ he)
 ·rintro i y σ H2 hy ⟨r,ks,o3,rfl,s2,nr,g2,hR,h50⟩
  have hil:i < (bz ms c).length:=by
   have:=(dD hy).1;simpa using this
  have hy':y=.int (((bz ms c)[i]:Nat):Int):=by
   rw[aa1,dN hil]at hy;exact(abc hy).symm
  subst hy'
  have hel:(bz ms c)[i] < ms.length:=by
   have:=(oh hw c hc).2 _ (ach hil);omega
  have hi8:i < 8:=by
   have:=(oh hw c hc).1;have:=hw.few;omega
  generalize hj:(bz ms c)[i]=j at hel;have hjx:j < xs.length:=by omega
  obtain⟨t,l,kk,hx,e2,e3,e4⟩:=hI.2 j _ _ (dN hjx) (dN hel);have Sw:=sm1.trans s2;have own:ownOf ms j=(ms[j]).2:=by unfold ownOf;rw[dN hel]
  have l2:=e4.1
  have lk:kk.length<=50:=by
   rw[aab]at l2;have:=hf j _ (dN hel);omega
  refine⟨_,rfl,_,rfl,a,xs,_,_,rfl,rfl,Sw.seq hS,(?_:um xs ((j:Nat):Int)=some (.ref t)),t,_,_,_,rfl,rfl,Sw.tup e2,aN (j:=1) rfl,l,kk,rfl,.inl (Sw.seq e3),λp0 hp0=>?_⟩
  ·rw[← hx];exact aN (dN hjx)
  have s3:=sN hp0 (.lst kk);refine⟨_,rfl,p0,r,kk,ks,rfl,rfl,uS,s3 _ _ g2,abE (sK (by omega)),λp hp=>?_⟩;refine⟨p,kk++ks,_,rfl,s2.trans (s3.trans (sN hp _)),(Sw.trans s3).free hp,uS,?_,by rw[abu];omega⟩
  have stp:cL ms ((bz ms c).take (i + 1))=ownOf ms j++cL ms ((bz ms c).take i):=by
   rw[jR,jR,List.take_succ_eq_append_getElem hil,hj];simp
  rw[stp,own,df,aba];exact aG.append e4 hR
 ·rintro σ H2 ⟨r,ks,o3,rfl,s2,nr,g2,hR,_⟩;have e:(bz ms c).take (kK (bz ms c)).length=bz ms c:=List.take_of_length_le (by simp);rw[e]at hR;exact⟨_,rfl,q r ks H2 (sm1.trans s2) nr g2 hR⟩
theorem zy:aB ["makes","c"] ["makes","c"] (dS lr):=by walk_at "sc"
theorem zA{f:Addr}{fd:FuncData}(F:eO K "full_mask" "full_mask" lr f fd)(bI:mg "len"=none){af:Addr}(aj:ai K af)(lR:c9 P w K mg base aU "fields_of" 2 ["makes","c"] (gr K)):bh P w K mg base aU 3 f fd ["makes","c"] (jZ K):=by
 refine F.ok zy (λvs H Q E h=>?_) (λcdv A outer s H vs Q E hr h=>?_)
 ·obtain⟨a,ms,c,rfl,hM,hw,hf,hc,q⟩:=h;rfl
 obtain⟨a,ms,c,rfl,hM,hw,hf,hc,q⟩:=h;refine⟨_,(qO (aI (a9 gH (a9 HW pI (bL bu rfl bI gI (pK (dr lR (hr.mono (by decide)) rfl (pK (pv 0) (pK (pv 1) pN))) pN))) pI))),?_⟩;refine⟨_,rfl,_,rfl,a,ms,c,rfl,hM,hw,hf,hc,λr ks H2 s2 _ g2 hR=>?_⟩;have l1:=hR.1;rw[List.length_map]at l1;have adu:=hf.fields hw hc;refine⟨r,ks,rfl,.inl (bg.of g2),_,_,rfl,rfl,⟨by omega,by omega,by decide⟩,_,_,rfl,rfl,?_⟩;dsimp only;rw[show((ks.length:Nat):Int).toNat=(fields ms c).length by omega,Int.one_mul];exact q H2 s2
theorem ck:aB ["makes","row","sign","c","field"] ["makes","row"] (dS dF):=by walk_at "sc"
theorem oz{f:Addr}{fd:FuncData}(F:eO K "asked_of_records" "asked_of_records" dF f fd){af:Addr}(aj:ai K af)(lR:c9 P w K mg base aU "fields_of" 2 ["makes","c"] (gr K))(Bh:c9 P w K mg base aU "full_mask" 3 ["makes","c"] (jZ K)):bh P w K mg base aU 4 f fd ["makes","row"] (dh K):=by
 refine F.ok ck (λvs H Q E h=>?_) (λcdv A outer s H vs Q E hr h=>?_)
 ·obtain⟨mk,rw',ms,sign,xs,ks,rfl,hM,hw,hf,hR,hA,q⟩:=h;rfl
 obtain⟨mk,rw',ms,sign,xs,ks,rfl,hM,hw,hf,hR,hA,q⟩:=h;refine⟨_,(qK (bB (i:=2) ck.nd rfl (aaW rfl) (aC aE (pv 1) pI (λ_ _=>rfl)))
   (qK (bB (i:=3) ck.nd rfl (aaW rfl) (aC aE (pv 1) pI (λ_ _=>rfl)))
   (qK (br (tR cm (pv 2) ba (aP _)) (qO (aI (cK (pK (c8 (pK ba (pK (pv 3) (pK (dr Bh (hr.mono (by decide)) rfl (pK (pv 0) (pK (pv 3) pN))) pN)))) pN)))) bc)
   (qK (br (tR cm (pv 2) ba (aP _)) (qO (aI (cK (pK (c8 (pK ba (pK (pv 3) pN))) pN)))) bc)
   (qK (bB (i:=4) ck.nd rfl (aaW rfl) (aC bq (dr lR (hr.mono (by decide)) rfl (pK (pv 0) (pK (pv 3) pN))) (aC aE (pv 1) pI (λ_ _=>rfl)) (λ_ _=>rfl)))
   (qK (br (tR cm (pv 2) ba (aP _)) (qO (aI (cK (pK (c8 (pK ba (pK (pv 3) (pK pI pN)))) (pK (pv 4) pN))))) bc)
   (qO (aI (cK (pK (c8 (pK ba (pK (pv 3) pN))) (pK (pv 4) pN))))))))))),?_⟩
 have few:=hw.few
 cases hA with
 | @begin c hc =>
  refine⟨_,rfl,rw',_,_,_,rfl,rfl,hR,aN (j:=0) rfl,_,rfl,rw',_,_,_,rfl,rfl,hR,aN (j:=1) rfl,?_⟩;refine⟨_,rfl,rfl,_,rfl,xO rfl ?_⟩;refine⟨_,rfl,_,rfl,_,rfl,mk,ms,c,rfl,hM,hw,hf,hc,λH1 s1=>?_⟩;refine⟨Xf,λt ht=>⟨Qb,λr hr=>?_⟩⟩;have s2:=sN ht (.tup [.str "raw",.int (c:Int),.int (2 ^ (fields ms c).length - 1)]);have s3:=sN hr (.lst [.ref t]);refine q r _ _ (s1.trans (s2.trans s3)) ((s1.trans s2).free hr) uS ?_;refine .cons (ya (k:=.raw c (2 ^ (fields ms c).length - 1)) ?_) .nil
  have e:((2 ^ (fields ms c).length - 1:Nat):Int)=2 ^ (fields ms c).length - 1:=by
   have:=Nat.one_le_two_pow (n:=(fields ms c).length);rw[Int.ofNat_sub this];simp
  show a8 K _ t [.str "raw",.int (c:Int),.int ((2 ^ (fields ms c).length - 1:Nat):Int)];rw[e];exact s3.tup (a8.of uS)
 | @get c f =>
  refine⟨_,rfl,rw',_,_,_,rfl,rfl,hR,aN (j:=0) rfl,_,rfl,rw',_,_,_,rfl,rfl,hR,aN (j:=1) rfl,?_⟩;refine⟨_,rfl,rfl,_,rfl,iP (by decide +kernel) ?_⟩;refine⟨_,rfl,rfl,_,rfl,xO rfl ?_⟩;refine⟨_,rfl,HI,λt ht=>⟨Qb,λr hr=>?_⟩⟩;have s2:=sN ht (.tup [.str "whole",.int (c:Int)]);have s3:=sN hr (.lst [.ref t]);exact q r _ _ (s2.trans s3) (s2.free hr) uS (.cons (ya (k:=.whole c) (s3.tup (a8.of uS))) .nil)
 | @fill c f k hc hk =>
  refine⟨_,rfl,rw',_,_,_,rfl,rfl,hR,aN (j:=0) rfl,_,rfl,rw',_,_,_,rfl,rfl,hR,aN (j:=1) rfl,?_⟩;refine⟨_,rfl,rfl,_,rfl,iP (by decide +kernel) ?_⟩;refine⟨_,rfl,rfl,_,rfl,iP (by decide +kernel) ?_⟩;refine⟨_,rfl,_,rfl,mk,ms,c,rfl,hM,hw,hf,hc,λr1 vs H1 s1 _ g1 hV=>?_⟩;obtain⟨v,hv,hvr⟩:=aG.at hV (i:=f) (d:=.tuple (oG k)) (by rw[aa1,hk];rfl);refine⟨_,rfl,rw',_,_,_,rfl,rfl,s1.tup hR,aN (j:=2) rfl,r1,_,_,_,rfl,rfl,bg.of g1,aN hv,?_⟩;refine⟨_,rfl,rfl,_,rfl,xO rfl ?_⟩;refine⟨_,rfl,Xf,λt ht=>⟨_,rfl,HI,λr hr=>?_⟩⟩;have s2:=sN ht (.tup [.str "raw",.int (c:Int),.int 0]);have s3:=sN hr (.lst [.ref t,v]);exact q r _ _ (s1.trans (s2.trans s3)) ((s1.trans s2).free hr) uS (.cons (ya (k:=.raw c 0) (s3.tup (a8.of uS))) (.cons (hvr.same (s1.trans (s2.trans s3))) .nil))
 | @put c f k hc hk =>
  refine⟨_,rfl,rw',_,_,_,rfl,rfl,hR,aN (j:=0) rfl,_,rfl,rw',_,_,_,rfl,rfl,hR,aN (j:=1) rfl,?_⟩;refine⟨_,rfl,rfl,_,rfl,iP (by decide +kernel) ?_⟩;refine⟨_,rfl,rfl,_,rfl,iP (by decide +kernel) ?_⟩;refine⟨_,rfl,_,rfl,mk,ms,c,rfl,hM,hw,hf,hc,λr1 vs H1 s1 _ g1 hV=>?_⟩;obtain⟨v,hv,hvr⟩:=aG.at hV (i:=f) (d:=.tuple (oG k)) (by rw[aa1,hk];rfl);refine⟨_,rfl,rw',_,_,_,rfl,rfl,s1.tup hR,aN (j:=2) rfl,r1,_,_,_,rfl,rfl,bg.of g1,aN hv,?_⟩;refine⟨_,rfl,rfl,_,rfl,iP (by decide +kernel) ?_⟩;refine⟨_,rfl,HI,λt ht=>⟨_,rfl,HI,λr hr=>?_⟩⟩;have s2:=sN ht (.tup [.str "whole",.int (c:Int)]);have s3:=sN hr (.lst [.ref t,v]);exact q r _ _ (s1.trans (s2.trans s3)) ((s1.trans s2).free hr) uS (.cons (ya (k:=.whole c) (s3.tup (a8.of uS))) (.cons (hvr.same (s1.trans (s2.trans s3))) .nil))
theorem we:aB ["book","part","row","sign","parts"] ["book","part","row"] (dS zd):=by walk_at "sc"
theorem Kb{f:Addr}{fd:FuncData}(F:eO K "asked" "asked" zd f fd)(cO:mg "list"=none){bY:Addr}(jv:mg "ALWAYS"=some (.ref bY))(lS:Mv K w bY aZ){af:Addr}(aj:ai K af)(pQ:c9 P w K mg base aU "asked_of_records" 4 ["makes","row"] (dh K)):bh P w K mg base aU 5 f fd ["book","part","row"] (vX K):=by
 refine F.ok we (λvs H Q E h=>?_) (λcdv A outer s H vs Q E hr h=>?_)
 ·obtain⟨b,mk,pl,rw',part,sign,xs,ks,rfl,hB,hR,hA,q⟩:=h;rfl
 obtain⟨b,mk,pl,rw',part,sign,xs,ks,rfl,hB,hR,hA,q⟩:=h;refine⟨_,(qK (bB (i:=3) we.nd rfl (aaW rfl) (aC aE (pv 2) pI (λ_ _=>rfl)))
   (qK (br (tR Ro (pv 3) (jA (v:=.ref bY) rfl jv rfl) rfl) (qO (aI (cq bN rfl cO gm (pK (aC Iz (jA (v:=.ref bY) rfl jv rfl) (pv 3) (λ_ _=>rfl)) pN)))) bc)
   (qK (bB (i:=4) we.nd rfl (aaW rfl) (aC aE (pv 0) pI (λ_ _=>rfl)))
   (qK (br (tR cm (pv 3) ba (aP _)) (qO (aI (cq bN rfl cO gm (pK (aC aE (aC bq (pv 4) (aC aE (pv 2) pI (λ_ _=>rfl)) (λ_ _=>rfl)) pI (λ_ _=>rfl)) pN)))) bc)
   (qK (br (tR cm (pv 3) ba (aP _)) (qO (aI (cK (pK (aC aE (aC bq (pv 4) (pv 1) (λ_ _=>rfl)) pI (λ_ _=>rfl)) pN)))) bc)
   (qO (aI (dr pQ (hr.mono (by decide)) rfl (pK (aC aE (pv 0) pI (λ_ _=>rfl)) (pK (pv 2) pN)))))))))),?_⟩
 refine⟨_,rfl,rw',_,_,_,rfl,rfl,hR,aN (j:=0) rfl,?_⟩
 cases hA with
 | always h =>
  refine⟨_,rfl,bY,aZ,sign,rfl,rfl,lS,_,rfl,ifB (by rw[h];rfl) ?_⟩;refine⟨_,rfl,bY,aZ,sign,_,rfl,rfl,lS,h,λv hv=>?_⟩;obtain⟨a,ys,rfl,hS,hY⟩:=aR.cf (hv H);refine⟨a,ys,rfl,.inr hS,λr hr=>?_⟩;have s1:=sN hr (.lst ys);exact q r ys _ s1 hr uS (hY.same s1)
 | @call k ys rest vs t l _ h1 h2 h3 h4 h5 =>
  refine⟨_,rfl,bY,aZ,_,rfl,rfl,lS,_,rfl,XE (by rw[OC];rfl) ?_⟩;refine⟨_,rfl,b,_,_,_,rfl,rfl,hB,aN (j:=1) rfl,?_⟩;refine⟨_,rfl,rfl,_,rfl,xO rfl ?_⟩;refine⟨_,rfl,_,rfl,rw',_,_,_,rfl,rfl,hR,aN (j:=1) rfl,pl,_,_,_,rfl,rfl,h1,aN h2,t,_,_,_,rfl,rfl,h3,aN (j:=0) rfl,l,vs,rfl,.inl h4,λr hr=>?_⟩;have s1:=sN hr (.lst vs);exact q r vs _ s1 hr uS (h5.same s1)
 | @give ys rest t v0 v k h1 h2 h3 h4 =>
  refine⟨_,rfl,bY,aZ,_,rfl,rfl,lS,_,rfl,XE (by rw[OD];rfl) ?_⟩;refine⟨_,rfl,b,_,_,_,rfl,rfl,hB,aN (j:=1) rfl,?_⟩;refine⟨_,rfl,rfl,_,rfl,iP (by decide +kernel) ?_⟩;refine⟨_,rfl,rfl,_,rfl,xO rfl ?_⟩;refine⟨_,rfl,_,rfl,pl,_,_,_,rfl,rfl,h1,aN h2,t,_,_,_,rfl,rfl,h3,aN (j:=1) rfl,Qb,λr hr=>?_⟩;have s1:=sN hr (.lst [v]);exact q r _ _ s1 hr uS (.cons (h4.same s1) .nil)
 | @ofR ms _ _ _ hM hw hf h =>
  obtain⟨n1,n2,n3⟩:=Sn h;refine⟨_,rfl,bY,aZ,_,rfl,rfl,lS,_,rfl,XE (by rw[n1];rfl) ?_⟩;refine⟨_,rfl,b,_,_,_,rfl,rfl,hB,aN (j:=1) rfl,?_⟩;refine⟨_,rfl,rfl,_,rfl,iP n2 ?_⟩;refine⟨_,rfl,rfl,_,rfl,iP n3 ?_⟩;exact⟨_,rfl,b,_,_,_,rfl,rfl,hB,aN (j:=0) rfl,_,rfl,mk,rw',ms,sign,xs,ks,rfl,hM,hw,hf,hR,h,q⟩
theorem Bi:aB ["makes","c","other"] ["makes","c","other"] (dS pC):=by walk_at "sc"
theorem Bj{f:Addr}{fd:FuncData}(F:eO K "is_under" "is_under" pC f fd){af:Addr}(aj:ai K af)(lQ:c9 P w K mg base aU "elders_of" 1 ["makes","c"] (gq K)):bh P w K mg base aU 2 f fd ["makes","c","other"] (lH K):=by
 refine F.ok Bi (λvs H Q E h=>?_) (λcdv A outer s H vs Q E hr h=>?_)
 ·obtain⟨a,ms,c,o,rfl,hM,hw,hc,q⟩:=h;rfl
 obtain⟨a,ms,c,o,rfl,hM,hw,hc,q⟩:=h;refine⟨_,(qO (aI (nX nY (pv 2) (dr lQ (hr.mono (by decide)) rfl (pK (pv 0) (pK (pv 1) pN))) rfl))),?_⟩;refine⟨_,rfl,_,rfl,_,rfl,a,ms,c,rfl,hM,hw,hc,λr H2 sm _ Mx=>?_⟩;refine⟨r,_,rfl,.inl (bg.of Mx),rfl,x9 _,?_⟩;show Q (.bl (Np (.int (o:Int)) (kK (bz ms c)))) H2;rw[AW];exact q H2 sm
theorem pR:aB ["makes","record","kind"] ["makes","record","kind"] (dS eg):=by walk_at "sc"
theorem pS{f:Addr}{fd:FuncData}(F:eO K "record_has_kind" "record_has_kind" eg f fd){af:Addr}(aj:ai K af)(Dw:c9 P w K mg base aU "is_under" 2 ["makes","c","other"] (lH K)):bh P w K mg base aU 3 f fd ["makes","record","kind"] (dG K):=by
 refine F.ok pR (λvs H Q E h=>?_) (λcdv A outer s H vs Q E hr h=>?_)
 ·obtain⟨a,ms,v,t,r,k,rfl,hM,hw,hv,hc,ht,n1,n2,q⟩:=h;rfl
 obtain⟨a,ms,v,t,r,k,rfl,hM,hw,hv,hc,ht,n1,n2,q⟩:=h;refine⟨_,(qK (br (tR cm (aC aE (pv 2) pI (λ_ _=>rfl)) ba (aP _)) (qO (aI (CC (aC aE (pv 1) pI (λ_ _=>rfl)) (CB (dr Dw (hr.mono (by decide)) rfl (pK (pv 0) (pK (aC aE (pv 1) pI (λ_ _=>rfl)) (pK (aC aE (pv 2) pI (λ_ _=>rfl)) pN)))))))) bc)
   (qO (aI (CC (nX cm (aC aE (pv 1) pI (λ_ _=>rfl)) (aC aE (pv 2) pI (λ_ _=>rfl)) (aP _)) (CB (nX cm (a9 QZ (aC aE (pv 1) pI (λ_ _=>rfl)) (aC aE (pv 2) pI (λ_ _=>rfl))) (aC aE (pv 2) pI (λ_ _=>rfl)) (aP _))))))),?_⟩
 obtain⟨u,ft,fys,rfl,hu,_,_⟩:=hv;have hu:a8 K H u [.int (r.c:Int),.bl r.begun,.int (r.mask:Int),.ref ft]:=hu
 cases k with
 | any=>exact absurd rfl n1
 | num=>exact absurd rfl n2
 | whole c =>
  refine⟨_,rfl,t,_,_,_,rfl,rfl,ht,aN (j:=0) rfl,rfl,_,rfl,xO rfl ?_⟩;refine⟨_,rfl,u,_,_,_,rfl,rfl,hu,aN (j:=1) rfl,_,rfl,?_⟩;have q':∀(H':Hp),aA H H'->Q (.bl (r.begun&&decide (c∈bz ms r.c))) H':=q
  cases hb:r.begun with
  | true =>
   rw[hb]at q';exact dY ⟨_,rfl,_,rfl,u,_,_,_,rfl,rfl,hu,aN (j:=0) rfl,_,rfl,t,_,_,_,rfl,rfl,ht,aN (j:=1) rfl,a,ms,r.c,c,rfl,hM,hw,hc,q'⟩
  | false =>
   rw[hb]at q';exact cu (q' H (aA.refl _))
 | raw c m =>
  refine⟨_,rfl,t,_,_,_,rfl,rfl,ht,aN (j:=0) rfl,rfl,_,rfl,iP nRW ?_⟩;dsimp only[gj];have qq:Q (.bl (decide (r.c=c)&&decide (r.mask&&&m=m))) H:=q H (aA.refl _);refine⟨_,rfl,u,_,_,_,rfl,rfl,hu,aN (j:=0) rfl,_,rfl,t,_,_,_,rfl,rfl,ht,aN (j:=1) rfl,rfl,_,rfl,?_⟩;rw[Fi];by_cases e:r.c=c
  ·rw[decide_eq_true e]at qq ⊢;refine dY ⟨_,rfl,u,_,_,_,rfl,rfl,hu,aN (j:=2) rfl,_,rfl,t,_,_,_,rfl,rfl,ht,aN (j:=2) rfl,_,_,rfl,rfl,_,rfl,t,_,_,_,rfl,rfl,ht,aN (j:=2) rfl,rfl,?_⟩;show Q (.bl (decide (V.int (Builtin.bitAnd (r.mask:Int) (m:Int))=V.int (m:Int)))) H;rw[Dd,Fi];simpa using qq
  ·rw[aa9 e]at qq ⊢;exact cu qq
theorem Bk:aB ["makes","heap","value","kind"] ["makes","heap","value","kind"] (dS pD):=by walk_at "sc"
theorem Bl{f:Addr}{fd:FuncData}(F:eO K "has_kind" "has_kind" pD f fd){af:Addr}(aj:ai K af)(qR:c9 P w K mg base aU "record_has_kind" 3 ["makes","record","kind"] (dG K)):bh P w K mg base aU 4 f fd ["makes","heap","value","kind"] (lI K):=by
 refine F.ok Bk (λvs H Q E h=>?_) (λcdv A outer s H vs Q E hr h=>?_)
 ·obtain⟨a,ms,hp,rs,rcs,v,x,t,k,rfl,hM,hw,hS,hR,hC,hv,hn,ht,q⟩:=h;rfl
 obtain⟨a,ms,hp,rs,rcs,v,x,t,k,rfl,hM,hw,hS,hR,hC,hv,hn,ht,q⟩:=h;refine⟨_,(qK (br (tR cm (aC aE (pv 3) pI (λ_ _=>rfl)) ba (aP _)) (qO (aI z9)) bc)
   (qK (br (tR vc (pv 2) dW (aP _)) (qO (aI z9)) bc)
   (qK (br (PW.pt (pw_or (tR cm (aC aE (pv 3) pI (λ_ _=>rfl)) ba (aP _)) (pw_or1 (tR cm (aC aE (pv 2) pI (λ_ _=>rfl)) ba (aP _))))) (qO (aI (nX cm (aC aE (pv 3) pI (λ_ _=>rfl)) (aC aE (pv 2) pI (λ_ _=>rfl)) (aP _)))) bc)
   (qO (aI (dr qR (hr.mono (by decide)) rfl (pK (pv 0) (pK (aC bq (pv 1) (aC aE (pv 2) pI (λ_ _=>rfl)) (λ_ _=>rfl)) (pK (pv 3) pN))))))))),?_⟩
 refine⟨_,rfl,t,_,_,_,rfl,rfl,ht,r8 k,rfl,_,rfl,?_⟩;by_cases ka:k=.any
 ·subst ka;exact xO rfl (q H (aA.refl _))
 refine iP (Ot ka) ?_;dsimp only[gj];rw[Oq ka]at q
 cases x with
 | none =>
  have e:=uM hv;subst e;exact⟨_,rfl,rfl,_,rfl,dY (q H (aA.refl _))⟩
 | num w =>
  obtain⟨u,rfl,hu⟩:=vJ hv;refine⟨_,rfl,rfl,_,rfl,cu ?_⟩;dsimp only[gj];refine⟨_,rfl,t,_,_,_,rfl,rfl,ht,r8 k,rfl,_,rfl,?_⟩
  have fin:Q (.bl (decide (V.str (Sd k)=V.str "number"))) H:=by
   have z:=q H (aA.refl _);rw[show decide (V.str (Sd k)=V.str "number")=decide (k=.num)from abQ.mpr zf];exact z
  by_cases kn:V.str (Sd k)=V.str "number"
  ·refine xO kn ?_;exact⟨_,rfl,t,_,_,_,rfl,rfl,ht,r8 k,_,rfl,u,_,_,_,rfl,rfl,hu,aN (j:=0) rfl,rfl,fin⟩
  ·refine iP kn ?_;refine⟨_,rfl,u,_,_,_,rfl,rfl,hu,aN (j:=0) rfl,rfl,_,rfl,xO rfl ?_⟩;exact⟨_,rfl,t,_,_,_,rfl,rfl,ht,r8 k,_,rfl,u,_,_,_,rfl,rfl,hu,aN (j:=0) rfl,rfl,fin⟩
 | rcd n =>
  obtain⟨u,rfl,hu⟩:=vK hv;have hnl:=hn n rfl;refine⟨_,rfl,rfl,_,rfl,cu ?_⟩;dsimp only[gj];refine⟨_,rfl,t,_,_,_,rfl,rfl,ht,r8 k,rfl,_,rfl,?_⟩;have hrn:=dN hnl;by_cases kn:k=.num
  ·refine xO (zf.mpr kn) ?_;refine⟨_,rfl,t,_,_,_,rfl,rfl,ht,r8 k,_,rfl,u,_,_,_,rfl,rfl,hu,aN (j:=0) rfl,rfl,?_⟩;subst kn;have z:=q H (aA.refl _);rw[A1 hrn]at z;have z2:decide (V.str (Sd Kd.num)=V.str "record")=false:=aa9 Yp;rw[z2];exact z
  ·refine iP (λh=>kn (zf.mp h)) ?_;refine⟨_,rfl,u,_,_,_,rfl,rfl,hu,aN (j:=0) rfl,rfl,_,rfl,iP Yo ?_⟩;dsimp only[gj];rw[A1 hrn]at q;obtain⟨y,hy1,hy2⟩:=hR.at hrn;exact⟨_,rfl,_,rfl,_,rfl,u,_,_,_,rfl,rfl,hu,aN (j:=1) rfl,hp,rs,_,_,rfl,rfl,hS,aN hy1,_,rfl,a,ms,y,t,rcs[n],k,rfl,hM,hw,hy2,hC _ (List.getElem_mem hnl),ht,ka,kn,q⟩
theorem GC:aB ["row"] ["row"] (dS vE):=by walk_at "sc"
theorem GD{f:Addr}{fd:FuncData}(F:eO K "leaves" "leaves" vE f fd){j7:Addr}(wg:mg "LEFT"=some (.ref j7))(Sx:Mv K w j7 og){af:Addr}(aj:ai K af):bh P w K mg base aU 1 f fd ["row"] (sq K):=by
 refine F.ok GC (λvs H Q E h=>?_) (λcdv A outer s H vs Q E hr h=>?_)
 ·obtain⟨rw',sign,xs,rfl,hR,q⟩:=h;rfl
 obtain⟨rw',sign,xs,rfl,hR,q⟩:=h;refine⟨_,(qO (aI (Nz (jA (v:=.ref j7) rfl wg rfl) (pK (aC aE (pv 0) pI (λ_ _=>rfl)) (pK pI pN))))),?_⟩;refine⟨j7,og,rfl,Sx,_,rfl,rw',_,_,_,rfl,rfl,hR,aN (j:=0) rfl,sign,_,rfl,λhn=>?_,λdt hd v hv=>?_⟩
 ·unfold iX at q;rw[hn]at q;exact q
 ·obtain⟨i,rfl⟩:=JR hd;unfold iX at q;rw[hd]at q;rw[aR.aQ (hv H)];exact q
theorem bZ:aB ["self","frame","row","wanted","under","value","kind"] ["self","frame","row"] (dS eX):=by walk_at "sc"
theorem qS{f:Addr}{fd:FuncData}(F:eO K "looked" "Watched.looked" eX f fd)(bI:mg "len"=none)(Bm:mg "zip"=none){af:Addr}(aj:ai K af){C:Addr}(ac:ax K C)(OI:c9 P w K mg base aU "asked" 5 ["book","part","row"] (vX K))(Dx:c9 P w K mg base aU "has_kind" 4 ["makes","heap","value","kind"] (lI K))(Kc:c9 P w K mg base aU "leaves" 1 ["row"] (sq K)):bh P w K mg base aU 6 f fd ["self","frame","row"] (jr K af C true):=by
 refine F.ok bZ (λvs H Q E h=>?_) (λcdv A outer s H vs Q E hr h=>?_)
 ·obtain⟨mm,fs,fr,r,rt,p,ks,rfl,hM,hf,hR,hp,hw,kR,Ka,hrc,hnr,hA,q⟩:=h;rfl
 obtain⟨mm,fs,fr,r,rt,p,ks,rfl,hM,hf,hR,hp,hw,kR,Ka,hrc,hnr,hA,q⟩:=h;refine⟨_,(qK (bB (i:=3) bZ.nd rfl (aaW rfl) (dr OI (hr.mono (by decide)) rfl (pK (aM (pv 0) rfl) (pK (aM (pv 1) rfl) (pK (pv 2) pN)))))
   (qK (bB (i:=4) bZ.nd rfl (aaW rfl) (a9 gH (bL bu rfl bI gI (pK (aM (pv 1) rfl) pN)) (bL bu rfl bI gI (pK (pv 3) pN))))
   (qK (br (tR xG (pv 4) pI (aP _)) (qO (aI ba)) bc)
   (qK (uZ abG rfl (Rp true true rfl Bm (pK (Ag EI (aM (pv 1) rfl) (EG (pv 4)) EF) (pK (pv 3) pN))) (HP rfl (uW (bU (i:=5) bZ.nd rfl (aaW rfl)) (uW (bU (i:=6) bZ.nd rfl (aaW rfl)) Eu))) (qO (br (yz (yy (dr Dx (hr.mono (by decide)) rfl (pK (aC aE (aM (pv 0) rfl) pI (λ_ _=>rfl)) (pK (aM (pv 0) rfl) (pK (pv 5) (pK (pv 6) pN))))))) (qO (aI ba)) bc)))
   (qK (br (tR HZ (a9 kS (pv 4) (dr Kc (hr.mono (by decide)) rfl (pK (pv 2) pN))) (aC aE (aC bq (aC aE (aM (pv 0) rfl) pI (λ_ _=>rfl)) (aM (pv 1) rfl) (λ_ _=>rfl)) pI (λ_ _=>rfl)) (aP _)) (qO (aI ba)) bc)
   (qO (aI dW))))))),?_⟩
 have hF:=hM.last hf;obtain⟨⟨fdx,f1⟩,⟨bys,f2,f3⟩,⟨sys,f4,f5⟩,fne⟩:=id hF;obtain⟨mdx,ev,m1,m2⟩:=hM.ob;obtain⟨mk,pl,xs,hb⟩:=hM.bk;obtain⟨hT,hMk,hL,hP⟩:=hb H az.refl;obtain⟨rys,rg,rr⟩:=id hM.rc;have lst:=f5.1;refine⟨_,rfl,mm.ma,C,mdx,_,_,rfl,m1,ac.cl,ac.pG,om,_,rfl,fr.fa,af,fdx,_,_,rfl,f1,aj.cl,aj.pF,oj,_,rfl,mm.b,mk,pl,rt,fr.part,z7 r,(Sa r).map V.int,ks,rfl,hT,hR,hA H mk pl xs hMk hL hP,λwa ws H1 s1 n1 g1 hW=>?_⟩;have lws:=hW.1;rw[List.length_map]at lws;dsimp only[uV];refine Gr (λR kk=>?_);refine⟨_,rfl,fr.fa,af,fdx,_,_,rfl,s1 _ _ f1,aj.cl,aj.gp,gY,fr.sl,sys,rfl,.inl (bg.of (s1 _ _ f4)),_,rfl,wa,ws,rfl,.inl (bg.of g1),_,_,rfl,rfl,kk _ _ ?_⟩;clear kk R;dsimp only;refine⟨_,rfl,_,_,rfl,rfl,_,rfl,vi (λz=>?_) (λz=>?_)⟩
 ·have z':fr.st.length < ks.length:=by have:=abo z;omega
  have e:g7 mm.ms mm.recs p.height fr.st ks (z7 r)=some ("empty" : Str):=by unfold g7;rw[if_pos z']
  have q':=q H1 s1;rw[aa7 rfl,e]at q';exact q'
 have hle:ks.length<=fr.st.length:=by
  have:¬ ((sys.length:Nat):Int) - ((ws.length:Nat):Int) < 0:=λe=>z (abh e)
  omega
 dsimp only[gj];obtain⟨lo,hlo⟩:∃lo,lo=fr.st.length - ks.length:=⟨_,rfl⟩;have eu:((sys.length:Nat):Int) - ((ws.length:Nat):Int)=((lo:Nat):Int):=by omega
 rw[eu];refine⟨_,rfl,fr.fa,af,fdx,_,_,rfl,s1 _ _ f1,aj.cl,aj.gp,gY,_,rfl,_,rfl,fr.sl,sys,rfl,bg.of (s1 _ _ f4),λp1 h1=>?_⟩;rw[JV (by omega)];have s2:=sN h1 (.lst (sys.drop lo));have g2:=uS (H:=H1) (a:=p1) (o:=.lst (sys.drop lo));generalize upd H1 p1 _=H2 at s2 g2 ⊢;have S2:=s1.trans s2;have vt:=(f5.same S2).drop lo;have lvt:=vt.1;rw[abR]at lvt;have adx:(sys.drop lo).length=sys.length - lo:=abR ..;have ltk:(fr.st.drop lo).length=fr.st.length - lo:=abR ..;have hWK:=(Ol.JM hW).same s2;obtain⟨w0,MC,hwr⟩:=jS hP hp;obtain⟨t,l0,l4,l5,ks0,AZ,z8,f1',rfl,hTt,Gq,WN,rg',JN,JO,JP,FQ⟩:=lD hwr;refine⟨_,rfl,p1,wa,_,ws,rfl,bg.of g2,bg.of (s2 _ _ g1),?_⟩;refine NH ks.length (λi σ H3=>∃(o5 o6:Option V),σ=[some (.ref mm.ma),some (.ref fr.fa),some (.ref rt),some (.ref wa),some (.int (lo:Int)),o5,o6]/\aA H2 H3/\∀j,j < i->∀x k,(fr.st.drop lo)[j]?=some x->ks[j]?=some k->hasB mm.ms mm.recs x k=true) (by omega) (by omega) (by omega) ⟨_,_,rfl,aA.refl _,λj hj=>absurd hj (Nat.not_lt_zero _)⟩ ?_ ?_ ?_
 ·rintro i σ H3 hi ⟨o5,o6,rfl,s3,_⟩;exact⟨s3.seq (bg.of g2),s3.seq (bg.of (s2 _ _ g1))⟩
 ·rintro i u v σ H3 T hu hv hi ⟨o5,o6,rfl,s3,hpre⟩ hT';have hit:i < (fr.st.drop lo).length:=by omega
  have hx:=dN hit;generalize hxe:(fr.st.drop lo)[i]=x at hx;have hxm:x∈fr.st:=List.mem_of_mem_drop (abd hx);have hvu:=vt.2 i u x hu hx;obtain⟨k,TV,YE,rfl,hk2⟩:=Ol.at hWK hv;have sT:=sN hT' (.tup [u,.ref YE]);have S3:=S2.trans (s3.trans sT);refine⟨T,_,rfl,a8.of uS,rfl,_,_,rfl,_,_,rfl,rfl,?_⟩;generalize upd H3 T (.tup [u,.ref YE])=H4 at sT S3 ⊢;obtain⟨YF,VE,hL4,hP4⟩:=hb H4 (eB S3);refine⟨_,rfl,mm.ma,C,mdx,_,_,rfl,S3 _ _ m1,ac.cl,ac.pG,om,mm.b,_,_,_,rfl,rfl,YF,aN (j:=0) rfl,_,rfl,mm.ma,C,mdx,_,_,rfl,S3 _ _ m1,ac.cl,ac.xZ,Ov,_,rfl,_,rfl,mk,mm.ms,mm.rc,rys,mm.recs,u,x,YE,k,rfl,VE,hw,bg.of (S3 _ _ rg),rr.imp (λy x h=>h.same S3),hrc,aR.same (s3.trans sT) hvu,(λn e=>hnr n (by rw[← e];exact hxm)),(s3.trans sT).tup hk2,λH5 s5=>⟨_,rfl,?_⟩⟩
  cases hh:hasB mm.ms mm.recs x k with
  | true =>
   refine cu ?_;dsimp only[gj];refine⟨_,_,rfl,s3.trans (sT.trans s5),λj hj x' k' hx' hk'=>?_⟩;by_cases e:j=i
   ·subst e;rw[hx]at hx';rw[TV]at hk';cases hx';cases hk';exact hh
   ·exact hpre j (by omega) x' k' hx' hk'
  | false =>
   refine dY ?_
   have e:g7 mm.ms mm.recs p.height fr.st ks (z7 r)=some ("kind" : Str):=by
    unfold g7;rw[if_neg (by omega),if_neg];intro ha;rw[← hlo,List.all_eq_true]at ha;have:=ha (x,k) (List.mem_of_getElem? (i:=i) (by rw[List.getElem?_zip_eq_some];exact⟨hx,TV⟩));rw[hh]at this;cases this
   have q':=q H5 (S3.trans s5);rw[aa7 rfl,e]at q';exact q'
 ·rintro σ H3 ⟨o5,o6,rfl,s3,hall⟩;have S3:=S2.trans s3;obtain⟨YF,VE,hL4,hP4⟩:=hb H3 (eB S3)
  have ha:((fr.st.drop (fr.st.length - ks.length)).zip ks).all (λx=>hasB mm.ms mm.recs x.1 x.2)=true:=by
   rw[← hlo,abI];intro y hy;obtain⟨i,hi,rfl⟩:=ac6.mp hy;have hz:=dN hi;rw[List.getElem?_zip_eq_some]at hz;have hik:i < ks.length:=(dD hz.2).1;exact hall i hik _ _ hz.1 hz.2
  refine⟨_,rfl,_,rfl,rt,z7 r,_,rfl,S3.tup hR,_,_,rfl,rfl,_,rfl,mm.ma,C,mdx,_,_,rfl,S3 _ _ m1,ac.cl,ac.pG,om,mm.b,_,_,_,rfl,rfl,YF,aN (j:=1) rfl,_,rfl,fr.fa,af,fdx,_,_,rfl,S3 _ _ f1,aj.cl,aj.pF,oj,pl,_,_,_,rfl,rfl,hL4,aN MC,t,_,_,_,rfl,rfl,S3.tup hTt,aN (j:=3) rfl,_,_,rfl,rfl,_,rfl,vi (λz=>?_) (λz=>?_)⟩
  ·have z':(p.height:Int) < ((fr.st.length - ks.length:Nat):Int) + iX (z7 r):=by have:=abo z;rw[← hlo];omega
   have e:g7 mm.ms mm.recs p.height fr.st ks (z7 r)=some ("high" : Str):=by
    unfold g7;rw[if_neg (by omega),if_pos ha,if_pos z']
   have q':=q H3 S3;rw[aa7 rfl,e]at q';exact q'
  ·have z':¬ (p.height:Int) < ((fr.st.length - ks.length:Nat):Int) + iX (z7 r):=λe=>z (abh (by rw[← hlo]at e;omega))
   have e:g7 mm.ms mm.recs p.height fr.st ks (z7 r)=none:=by
    unfold g7;rw[if_neg (by omega),if_pos ha,if_neg z']
   have q':=q H3 S3;rw[if_pos rfl,e]at q';dsimp only[gj];exact q'
theorem fw:aB ["self","frame","row","word"] ["self"] (dS jL):=by walk_at "sc"
theorem oK{f:Addr}{fd:FuncData}(F:eO K "step" "Plain.step" jL f fd){af:Addr}(aj:ai K af){C:Addr}{wt:Bool}(ac:ax K C)(GF:bJ P w K mg base aU C "do_row" 4 ["self","frame","row"] (ou K af C wt))(GG:bJ P w K mg base aU C "looked" 6 ["self","frame","row"] (jr K af C wt)):bh P w K mg base aU 7 f fd ["self"] (uO K af C wt):=by
 refine F.ok fw (λvs H Q E h=>?_) (λcdv A outer s H vs Q E hr h=>?_)
 ·obtain⟨mm,p',rfl,hM,hS,q⟩:=h;rfl
 obtain⟨mm,p',rfl,hM,hS,q⟩:=h;refine⟨_,(qK (br (tR yB (aM (pv 0) rfl) dW (aP _)) (qO yA) bc)
   (qK (bB (i:=1) fw.nd rfl (aaW rfl) (aC bq (aM (pv 0) rfl) (vb oV pI) (λ_ _=>rfl)))
   (qK (bB (i:=2) fw.nd rfl (aaW rfl) (aC bq (aC aE (aC bq (aC aE (aM (pv 0) rfl) pI (λ_ _=>rfl)) (aM (pv 1) rfl) (λ_ _=>rfl)) pI (λ_ _=>rfl)) (aM (pv 1) rfl) (λ_ _=>rfl)))
   (qK (bB (i:=3) fw.nd rfl (aaW rfl) (jk (pv 0) GG dQ (hr.mono (by decide)) (pK (pv 1) (pK (pv 2) pN))))
   (qO (br (tR vc (pv 3) dW (aP _)) (qO (bG (jk (pv 0) GF dQ (hr.mono (by decide)) (pK (pv 1) (pK (pv 2) pN))))) (qO (cn (pv 0) (c8 (pK ba (pK (aM (pv 1) rfl) (pK (aM (pv 1) rfl) (pK (pv 3) pN))))) rfl)))))))),?_⟩
 obtain⟨mdx,ev,m1,m2⟩:=id hM.ob;refine⟨_,rfl,mm.ma,C,mdx,_,_,rfl,m1,ac.cl,ac.sW,Di,rfl,_,rfl,?_⟩;rcases hS with⟨h1,rfl⟩ | ⟨h1,hfi,fs',f',r,p,ks,hf',hp',hr',hlo,hD⟩
 ·rcases m2 with⟨z,_⟩ | ⟨_,t,rfl,ht⟩
  ·exact absurd z h1
  ·show if (!decide (V.ref t=V.non))=true then _ else _
   rw[if_pos (by simp)];exact q mm H rfl ⟨rfl,rfl⟩ hM (λc hc=>.inl hc) az.refl
 ·rcases m2 with⟨_,rfl⟩ | ⟨z,_⟩;rotate_left
  ·exact absurd h1 z
  show if (!decide (V.non=V.non))=true then _ else _
  rw[if_neg (by simp)];dsimp only[gj];obtain⟨fs,fr0,hf,e1,e2⟩:=List.map_eq_append_iff.mp (show mm.aT.map Fm.pf=fs'++[f']from hf')
  obtain⟨fr,rfl⟩:∃fr,fr0=[fr]:=by
   have:fr0.length=1:=by have:=congrArg List.length e2;simpa using this
   exact WT this
  have e2:fr.pf=f':=by simpa using e2
  subst e1;subst e2;have hp:mm.ps[fr.part]?=some p:=hp';have hF:=hM.last hf;obtain⟨⟨fdx,f1⟩,⟨bys,f2,f3⟩,⟨sys,f4,f5⟩,fne⟩:=id hF;obtain⟨mk,pl,xs,hb⟩:=hM.bk;obtain⟨hT,hMk,hL,hP⟩:=hb H az.refl;obtain⟨w0,MC,hwr⟩:=jS hP hp;obtain⟨t,l0,l4,l5,ks0,AZ,z8,f1',rfl,hTt,Gq,WN,rg,JN,JO,JP,FQ⟩:=lD hwr;obtain⟨rv,hrv,hrr⟩:=aG.at JO (i:=fr.at') (d:=Gp r) (by rw[List.getElem?_map];show Option.map Gp (p.rows[fr.pf.at']?)=_;rw[hr'];rfl);obtain⟨rt,rfl,hR⟩:=rw_inv hrr;have L1:=hM.lv;rw[hf,List.map_append,show([fr].map λf=>V.ref f.fa)=[V.ref fr.fa]from rfl]at L1;have tw:=(hfi.st fr.pf (by rw[hf'];simp)).1;refine⟨_,rfl,mm.ma,C,mdx,_,_,rfl,m1,ac.cl,ac.jQ,iI,_,rfl,mm.lv,_,_,_,rfl,rfl,bg.of L1,jq,?_⟩;refine⟨_,rfl,mm.ma,C,mdx,_,_,rfl,m1,ac.cl,ac.pG,om,mm.b,_,_,_,rfl,rfl,hT,aN (j:=1) rfl,_,rfl,fr.fa,af,fdx,_,_,rfl,f1,aj.cl,aj.pF,oj,pl,_,_,_,rfl,rfl,hL,aN MC,t,_,_,_,rfl,rfl,hTt,aN (j:=4) rfl,_,rfl,fr.fa,af,fdx,_,_,rfl,f1,aj.cl,aj.ur,vM,l4,_,_,_,rfl,rfl,JN,aN hrv,?_⟩;refine⟨_,rfl,mm.ma,mdx,_,rfl,m1,mc_no (by decide +kernel),_,rfl,_,rfl,mm,fs,fr,r,rt,p,ks,rfl,hM,hf,hR,hp,hfi.wf,tw,hlo.few,hlo.rc,hlo.st,hlo.ask,λH1 s1=>?_⟩;rcases hD with⟨w,rfl,hl,rfl⟩ | ⟨hl,hD⟩
  ·have el:g7 mm.ms mm.recs p.height fr.st ks (z7 r)=some w:=hl;rw[aa7 rfl,el,show Vu (some w)=V.str w from rfl];refine⟨_,rfl,rfl,_,rfl,?_⟩;show if decide (V.str w=V.non)=true then _ else _
   rw[if_neg (by simp)];have M1:=hM.same s1;refine⟨_,rfl,fr.fa,af,fdx,_,_,rfl,s1 _ _ f1,aj.cl,aj.pF,oj,_,rfl,fr.fa,af,fdx,_,_,rfl,s1 _ _ f1,aj.cl,aj.ur,vM,_,rfl,sz4,λte nte=>?_⟩;have s2:=sN nte (.tup [.str "look",.int (fr.part:Int),.int (fr.at':Int),.str w]);have g2:a8 K (upd H1 te (.tup [.str "look",.int (fr.part:Int),.int (fr.at':Int),.str w])) te [.str "look",.int (fr.part:Int),.int (fr.at':Int),.str w]:=a8.of uS;have M2:=M1.same s2;have S2:=s1.trans s2;generalize upd H1 te _=H2 at s2 g2 M2 S2 ⊢;refine⟨_,rfl,mm.ma,C,mdx,_,rfl,S2 _ _ m1,ac.cl,ac.sW,vQ,?_⟩;rw[oo];have Yz:a6 H2 [mm.ma]:=M2.sX.sub (λc hc=>by rw[cj hc];exact cJ.1);have Ud:az [mm.ma] H2 (upd H2 mm.ma (.ins C mdx (pH mm.b mm.lv mm.rc mm.sd mm.left (.ref te)))):=aW;exact q {mm with fin:=[.inl "look",.inr fr.part,.inr fr.at',.inl w]} _ rfl ⟨rfl,rfl⟩ (M2.own Ud uS (.inr ⟨(by simp),te,rfl,a8.keep Ud Yz g2⟩)) (λc hc=>.inl hc) ((eB S2).trans (Ud.sub λc hc=>by rw[cj hc];exact cJ.1))
  ·have e0:(if wt=true then g7 mm.ms mm.recs p.height fr.st ks (z7 r)else none)=none:=by
    cases wt with
    | true=>exact hl rfl
    | false=>rfl
   rw[e0];refine⟨_,rfl,rfl,_,rfl,dY ?_⟩;refine⟨_,rfl,mm.ma,mdx,_,rfl,s1 _ _ m1,mc_no (by decide +kernel),_,rfl,_,rfl,mm,fs,fr,r,rt,p',rfl,hM.same s1,hf,s1.tup hR,hfi,hD,λm' H2 r1 r2 r3 r4 r5=>q m' H2 r1 r2 r3 (λc hc=>?_) ((eB s1).trans r5)⟩;rcases r4 c hc with z | z
   ·exact .inl z
   ·exact .inr (s1.free z)
theorem xj:aB ["self"] ["self"] (dS jM):=by walk_at "sc"
theorem oM{f:Addr}{fd:FuncData}(F:eO K "told" "Plain.told" jM f fd)(cO:mg "list"=none){af:Addr}(aj:ai K af){C:Addr}{wt:Bool}(ac:ax K C):bh P w K mg base aU 1 f fd ["self"] (uP K af C wt):=by
 refine F.ok xj (λvs H Q E h=>?_) (λcdv A outer s H vs Q E hr h=>?_)
 ·obtain⟨mm,rfl,hM,tw,q⟩:=h;rfl
 obtain⟨mm,rfl,hM,tw,q⟩:=h;refine⟨_,(qO (aI (c8 (pK (aM (pv 0) rfl) (pK (cq bN rfl cO gm (pK (aM (pv 0) rfl) pN)) (pK (aM (pv 0) rfl) pN)))))),?_⟩;obtain⟨dx,ev,h1,h2⟩:=hM.ob;refine⟨_,rfl,mm.ma,C,dx,_,_,rfl,h1,ac.cl,ac.sW,Di,_,rfl,mm.ma,C,dx,_,_,rfl,h1,ac.cl,ac.C8,Fl,mm.sd,_,rfl,.inl (bg.of hM.sd),λl hl=>?_⟩;have u1:=sN hl (.lst (mm.said.map V.int));have g1:=uS (H:=H) (a:=l) (o:=.lst (mm.said.map V.int));generalize upd H l _=H1 at u1 g1 ⊢;refine⟨_,rfl,mm.ma,C,dx,_,_,rfl,u1 _ _ h1,ac.cl,ac.vG,zg,Xf,λt ht=>?_⟩;have u2:=sN ht (.tup [ev,.ref l,.int mm.left]);exact q t l ev _ (u1.trans u2) hl (u2 _ _ g1) (a8.of uS) (h2.same (u1.trans u2))
theorem Bo:aB ["machine"] ["machine"] (dS pE):=by walk_at "sc"
theorem tD{f:Addr}{fd:FuncData}(F:eO K "finished" "finished" pE f fd){af:Addr}(aj:ai K af){C:Addr}{wt:Bool}(ac:ax K C)(OJ:bJ P w K mg base aU C "step" 7 ["self"] (uO K af C wt))(OK:bJ P w K mg base aU C "told" 1 ["self"] (uP K af C wt)):bh P w K mg base aU 8 f fd ["machine"] (fH K af C wt):=by
 refine F.ok Bo (λvs H Q E h=>?_) (λcdv A outer s H vs Q E hr h=>?_)
 ·obtain⟨mm,n,p2,rfl,hM,hR,h9,q⟩:=h;rfl
 obtain⟨mm,n,p2,rfl,hM,hR,h9,q⟩:=h;refine⟨_,(qK (uX abG (tR vc (aM (pv 0) rfl) dW (aP _)) (qO (bG (yW (pv 0) OJ dQ (hr.mono (by decide))))))
   (qO (aI (yW (pv 0) OK dQ (hr.mono (by decide)))))),?_⟩
 refine⟨λk σ H2=>∃(m2:Mc),σ=[some (.ref mm.ma)]/\m2.ma=mm.ma/\bM K H2 af C wt m2/\si K wt k m2.pm p2/\az (foot mm) H H2/\∀c∈foot m2,c∈foot mm∨H c=none,⟨n,mm,rfl,rfl,hM,hR,az.refl,λc hc=>.inl hc⟩,?_⟩;rintro k σ H2 ⟨m2,rfl,ea,M2,R2,K2,F2⟩;obtain⟨dx,ev,o1,o2⟩:=id M2.ob;refine⟨_,rfl,m2.ma,C,dx,_,_,(by rw[ea]),o1,ac.cl,ac.sW,Di,rfl,_,rfl,?_⟩;generalize hp:m2.pm=p at R2
 cases R2 with
 | done hd =>
  have hd':m2.fin≠[]:=by rw[← hp]at hd;exact hd
  rcases o2 with⟨z,_⟩ | ⟨_,t,rfl,ht⟩
  ·exact absurd z hd'
  show if decide (V.ref t=V.non)=true then _ else _
  rw[if_neg (by simp)];have e1:m2.said=p2.said:=by rw[← hp];rfl
  have e2:m2.left=p2.left:=by rw[← hp];rfl
  have e3:m2.fin=p2.fin:=by rw[← hp];rfl
  refine⟨_,rfl,m2.ma,dx,_,(by rw[ea]),o1,mc_no (by decide +kernel),m2,(by rw[ea];rfl),M2,(by rw[e1];exact h9),λtt l ev' H' s' nl g gt hE=>?_⟩;rw[e1]at g;rw[e2]at gt;rw[e3]at hE;refine q tt l ev' H' (K2.trans (eB s')) (λhl=>?_) gt g hE
  cases hh:H l with
  | none=>rfl
  | some o=>rw[K2 l o hl hh]at nl;cases nl
 | next h0 hs R' =>
  rename_i k' p1;have h0':m2.fin=[]:=by rw[← hp]at h0;exact h0
  rcases o2 with⟨_,rfl⟩ | ⟨z,_⟩;rotate_left
  ·exact absurd h0' z
  show if decide (V.non=V.non)=true then _ else _
  rw[if_pos (by simp)];refine⟨λσ' H'=>∃(m3:Mc),σ'=[some (.ref mm.ma)]/\m3.ma=mm.ma/\bM K H' af C wt m3/\si K wt k' m3.pm p2/\az (foot mm) H H'/\∀c∈foot m3,c∈foot mm∨H c=none,λσ' H' h=>⟨k',Nat.lt_succ_self _,h⟩,?_⟩;refine⟨_,rfl,m2.ma,dx,_,(by rw[ea]),o1,mc_no (by decide +kernel),m2,p1,(by rw[ea];rfl),M2,(by rw[hp];exact hs),λm' H' r1 r2 r3 r4 r5=>⟨m',rfl,r2.1.trans ea,r3,(by rw[r1];exact R'),λc o hc e=>r5 c o (λhz=>?_) (K2 c o hc e),λc hc=>?_⟩⟩
  ·rcases F2 c hz with z | z
   ·exact hc z
   ·rw[z]at e;cases e
  ·rcases r4 c hc with z | z
   ·exact F2 c z
   ·by_cases hz:c∈foot mm
    ·exact .inl hz
    ·refine .inr ?_
     cases hh:H c with
     | none=>rfl
     | some o=>rw[K2 c o hz hh]at z;cases z
theorem Dy:aB ["takes","gives"] ["takes","gives"] (dS rW):=by walk_at "sc"
theorem Dz{f:Addr}{fd:FuncData}(F:eO K "is_door" "is_door" rW f fd)(Bp:mg "all"=none){af:Addr}(aj:ai K af):bh P w K mg base aU 1 f fd ["takes","gives"] (pO K):=by
 refine F.ok Dy (λvs H Q E h=>?_) (λcdv A outer s H vs Q E hr h=>?_)
 ·obtain⟨tl,g,ys,ks,gk,rfl,hS,hK,hg,kR,q⟩:=h;rfl
 obtain⟨tl,g,ys,ks,gk,rfl,hS,hK,hg,kR,q⟩:=h;refine⟨_,(qO (aI (bL (Iu rfl) rfl Bp Rb (pK (EL 1 ["kind"] [] ⟨rfl,rfl,rfl,rfl,rfl,rfl,rfl,rfl⟩ (iG (a9 yL (pv 0) (cK (pK (pv 1) pN)))) (λ_ _ _ _=>⟨(bU (i:=0) (show List.Nodup (["kind"]:List Str)by decide +kernel) rfl (aaW rfl)),jE,(nX (r:=Ri K) (CY (hr.units)) (pv 0) (c8 (pK ba pN)) (aP _))⟩)) pN)))),?_⟩;have ly:=hK.1;rw[aab]at ly;refine⟨_,rfl,_,rfl,Qb,λl1 h1=>?_⟩;have u1:=sN h1 (.lst [g]);refine⟨tl,l1,ys,_,rfl,rfl,u1.seq hS,bg.of uS,abE (sK (by show ys.length + 1<=1000;omega)),λl2 h2=>?_⟩;have u2:=sN h2 (.lst (ys++[g]));have U:=u1.trans u2;have g2:=uS (H:=upd H l1 (.lst [g])) (a:=l2) (o:=.lst (ys++[g]));generalize upd (upd H l1 (.lst [g])) l2 (.lst (ys++[g]))=H1 at U g2 ⊢;refine⟨l2,rfl,⟨_,bg.of g2⟩,λD hD=>?_⟩
 have hA:aG K H (ys++[g]) (df (ks++[gk])):=by
  unfold df;rw[List.map_append];exact aG.append hK (.cons hg .nil)
 refine qv (xs:=ys++[g]) (λi zs H2=>aA H1 H2/\H2 D=some (.lst zs)/\zs=(((ks++[gk]).take i).map bC).map V.bl) (abE (sK (by rw[abu];show ys.length + 1<=1000;omega))) ⟨sN hD _,uS,rfl⟩ ?_ ?_ ?_
 ·rintro i zs H2 hi ⟨s2,d2,rfl⟩;refine⟨d2,?_,s2.seq (bg.of g2)⟩;rw[aab,aab,abl];omega
 ·rintro i x zs H2 hx ⟨s2,d2,rfl⟩
  have hi:i < (ks++[gk]).length:=by
   have:=(dD hx).1;rw[List.length_append]at this ⊢;simp only[List.length_singleton]at this ⊢;omega
  have hr':=hA.2 i x (.tuple (oG (ks++[gk])[i])) hx (by rw[aa1,dN hi];rfl);refine⟨rfl,_,rfl,Qb,λt ht=>?_⟩;have s3:=sN ht (.tup [.str "number"]);refine⟨_,_,aR.same (U.trans (s2.trans s3)) hr',.jD (a8.of uS) (.cons (.str _) .nil),De _,(by decide +kernel),s3 _ _ d2,vO (s2.trans s3) hD _,uS,?_⟩;rw[A9,abv hi,aba,aba];rfl
 ·rintro zs H2 ⟨s2,d2,rfl⟩;have e:(ks++[gk]).take (ys++[g]).length=ks++[gk]:=List.take_of_length_le (by rw[List.length_append,List.length_append];simp only[List.length_singleton];omega);rw[e]at d2;refine⟨D,_,rfl,bg.of d2,?_⟩;have z:=q H2 (U.trans s2);rw[List.all_map];exact z
theorem oN:aB ["parts","part","inputs","takes"] ["parts","part","inputs"] (dS jN):=by walk_at "sc"
theorem xk{f:Addr}{fd:FuncData}(F:eO K "check_door" "check_door" jN f fd)(bI:mg "len"=none){ar:Addr}(fK:mg "NoDoor"=some (.ref ar))(fL:PySem.W.excIn K ar yO "ValueError.__new__"=true)(jw:PySem.W.ktsIn K ar "BaseException"=true){af:Addr}(aj:ai K af)(GH:c9 P w K mg base aU "is_door" 1 ["takes","gives"] (pO K)):bh P w K mg base (pb P w) 2 f fd ["parts","part","inputs"] (iZ K ar):=by
 refine F.WO oN (λvs H Q E h=>?_) (λcdv A outer s H vs Q E hr h=>?_)
 ·obtain⟨pl,il,xs,zs,ps,j,rfl,hL,hP,kR,hI,q,hE⟩:=h;rfl
 obtain⟨pl,il,xs,zs,ps,j,rfl,hL,hP,kR,hI,q,hE⟩:=h;refine⟨_,(qK (br (yz (vd EA xG pI (pv 1) (bL bu rfl bI gI (pK (pv 0) pN)))) (qO (xR IQ rfl fK fL rfl)) bc)
   (qK (bB (i:=3) oN.nd rfl (aaW rfl) (aC aE (aC bq (pv 0) (pv 1) (λ_ _=>rfl)) pI (λ_ _=>rfl)))
   (qO (br (PW.pt (pw_or (yz (yy (dr GH (hr.mono (by decide)) rfl (pK (pv 3) (pK (aC aE (aC bq (pv 0) (pv 1) (λ_ _=>rfl)) pI (λ_ _=>rfl)) pN))))) (pw_or1 (tR Qf (bL bu rfl bI gI (pK (pv 2) pN)) (bL bu rfl bI gI (pK (pv 3) pN)) (aP _))))) (qO (xR IQ rfl fK fL rfl)) bc)))),?_⟩
 have lx:xs.length=ps.length:=by rw[hP.1,aab]
 refine⟨_,rfl,_,_,rfl,rfl,_,rfl,?_⟩;by_cases h0:0<=j;rotate_left
 ·refine iP h0 ?_;exact⟨_,rfl,dY (hE (λ⟨p,z,_⟩=>h0 z) H (.refl H))⟩
 refine xO h0 ?_;refine⟨_,rfl,pl,xs,rfl,.inl hL,_,_,rfl,rfl,_,rfl,?_⟩;obtain⟨jn,rfl⟩:∃n:Nat,j=(n:Int):=⟨j.toNat,by omega⟩;by_cases h1:jn < xs.length;rotate_left
 ·refine Rh (by omega) ?_;exact hE (λ⟨p,_,z,_⟩=>h1 (by rw[ab9]at z;rw[lx];exact(dD z).1)) H (.refl H)
 refine Rg (by omega) ?_;dsimp only[gj];have hp:ps[jn]?=some (ps[jn]'(by omega)):=dN (by omega);generalize ps[jn]'(by omega)=p at hp
 have dj:∀n:Nat,js ps (jn:Int) n↔(p.takes++[p.gives]).all bC=true/\n=p.takes.length:=λn=>by
  unfold js;rw[Int.toNat_natCast];exact⟨λ⟨p',_,z,a,b⟩=>by rw[hp]at z;cases z;exact⟨a,b⟩,λ⟨a,b⟩=>⟨p,by omega,hp,a,b⟩⟩
 have YG:=kR p (abd hp);obtain⟨w0,MC,hwr⟩:=jS hP hp;obtain⟨t,l0,l4,l5,ks,AZ,z8,f1,rfl,hTt,Gq,hk,rg,JN,JO,JP,FQ⟩:=lD hwr;refine⟨_,rfl,_,rfl,pl,_,_,_,rfl,rfl,hL,aN MC,t,_,_,_,rfl,rfl,hTt,aN (j:=0) rfl,?_⟩;refine⟨_,rfl,_,rfl,_,rfl,pl,_,_,_,rfl,rfl,hL,aN MC,t,_,_,_,rfl,rfl,hTt,aN (j:=1) rfl,l0,_,ks,p.takes,p.gives,rfl,Gq,hk,rg,YG,λH1 s1=>?_⟩;have lk:=hk.1;rw[aab]at lk
 cases hd:(p.takes++[p.gives]).all bC with
 | false =>
  refine⟨_,rfl,dY ?_⟩;exact hE (λz=>by rw[((dj _).mp z).1]at hd;cases hd) H1 s1
 | true =>
  refine⟨_,rfl,cu ?_⟩;refine⟨_,rfl,il,zs,rfl,.inl (s1.seq hI),_,rfl,l0,ks,rfl,.inl (s1.seq Gq),rfl,_,rfl,?_⟩;by_cases hl:zs.length=p.takes.length
  ·refine Rg (by rw[hl,lk]) ?_;exact q ((dj _).mpr ⟨hd,hl⟩) H1 s1
  ·refine Rh (λz=>hl (by have:=V.int.inj z;omega)) ?_;exact hE (λz=>hl ((dj _).mp z).2) H1 s1
theorem sy:aB ["book","makes","parts"] ["book"] (dS vF):=by walk_at "sc"
theorem GI{f:Addr}{fd:FuncData}(F:eO K "copied" "copied" vF f fd)(cO:mg "list"=none){af:Addr}(aj:ai K af):bh P w K mg base aU 1 f fd ["book"] (su K):=by
 refine F.ok sy (λvs H Q E h=>?_) (λcdv A outer s H vs Q E hr h=>?_)
 ·obtain⟨b,ms,ps,rfl,hB,h8,HB,q⟩:=h;rfl
 obtain⟨b,ms,ps,rfl,hB,h8,HB,q⟩:=h;refine⟨_,(qK (qw (i:=1) sy.nd rfl (aaW rfl) 1 ["make"] [] ⟨rfl,rfl,rfl,rfl,rfl,rfl,rfl,rfl⟩ (iG (aC aE (pv 0) pI (λ_ _=>rfl))) (λ_ _ _ _=>⟨(bU (i:=0) (show List.Nodup (["make"]:List Str)by decide +kernel) rfl (aaW rfl)),jE,(c8 (pK (aC (r:=wY K) aE (pv 0) pI (λ_ _=>rfl)) (pK (cq (r:=uH K) bN rfl cO gm (pK (aC (r:=wY K) aE (pv 0) pI (λ_ _=>rfl)) pN)) pN)))⟩))
   (qK (qw (i:=2) sy.nd rfl (aaW rfl) 1 ["part"] [] ⟨rfl,rfl,rfl,rfl,rfl,rfl,rfl,rfl⟩ (iG (aC aE (pv 0) pI (λ_ _=>rfl))) (λ_ _ _ _=>⟨(bU (i:=0) (show List.Nodup (["part"]:List Str)by decide +kernel) rfl (aaW rfl)),jE,(c8 (pK (cq (r:=uH K) bN rfl cO gm (pK (aC (r:=wY K) aE (pv 0) pI (λ_ _=>rfl)) pN)) (pK (aC (r:=wY K) aE (pv 0) pI (λ_ _=>rfl)) (pK (aC (r:=wY K) aE (pv 0) pI (λ_ _=>rfl)) (pK (aC (r:=wY K) aE (pv 0) pI (λ_ _=>rfl)) (pK (cq (r:=uH K) bN rfl cO gm (pK (aC (r:=wY K) aE (pv 0) pI (λ_ _=>rfl)) pN)) (pK (cq (r:=uH K) bN rfl cO gm (pK (aC (r:=wY K) aE (pv 0) pI (λ_ _=>rfl)) pN)) pN)))))))⟩))
   (qO (aI (c8 (pK (pv 1) (pK (pv 2) pN))))))),?_⟩
 obtain⟨b',mk,pl,xs,e,hT,hM,hL,hP⟩:=ze hB;cases e;obtain⟨zs,hS,hI⟩:=hM;have lz:=hI.1;have lx:=hP.1;rw[aab]at lx;refine⟨_,rfl,b,_,_,_,rfl,rfl,hT,aN (j:=0) rfl,mk,rfl,⟨_,hS⟩,λD hD=>?_⟩;refine qv (xs:=zs) (λi ys H2=>aA H H2/\H2 D=some (.lst ys)/\(∀HX,Gw [D] H H2 HX->JI K HX ys (ms.take i))/\ys.length=i) (abE (sK (by omega))) ⟨sN hD _,uS,λHX _=>JI.nil K _,rfl⟩ ?_ ?_ ?_
 ·rintro i ys H2 hi ⟨s2,d2,_,hl⟩;exact⟨d2,acF hl,s2.seq hS⟩
 ·rintro i x ys H2 hx ⟨s2,d2,hF,hl⟩;have hix:i < zs.length:=(dD hx).1;have him:i < ms.length:=by omega
  obtain⟨t,l,ks,rfl,e2',e3',e4⟩:=hI.2 i x _ hx (dN him);have e2:=s2.tup e2';have e3:=s2.seq e3';refine⟨rfl,_,rfl,t,_,_,_,rfl,rfl,e2,aN (j:=0) rfl,_,rfl,t,_,_,_,rfl,rfl,e2,aN (j:=1) rfl,l,ks,rfl,.inl e3,λl2 EJ=>?_⟩;refine⟨HI,λu hu=>?_⟩;have nl:l2≠D:=(nN d2 EJ).symm;have s3:=sN EJ (.lst ks);have s4:=sN hu (.tup [R8 (ms[i]).1,.ref l2]);have d4:=s4 _ _ (s3 _ _ d2);have nu:u≠D:=(nN (s3 _ _ d2) hu).symm;have fl:H l2=none:=s2.free EJ;have fu:H u=none:=(s2.trans s3).free hu;refine⟨d4,λb o e=>?_,uS,λHX hX=>?_,by simp[hl]⟩
  ·rw[uN (nN e hD)];exact s4 b o (s3 b o (s2 b o e))
  ·have z:=hF HX (hX.sub (λc o n e=>by rw[uN (λz=>n (by rw[z];exact abi.mpr rfl))];exact s4 c o (s3 c o e)) (λc hc=>.inl hc));have ht:ms.take (i + 1)=ms.take i++[ms[i]]:=by rw[abv him]
   rw[ht];refine z.snoc ⟨u,l2,ks,rfl,?_,?_,?_⟩
   ·exact a8.of (hX u _ (λz=>nu (cj z)) (by rw[uN nu];exact uS) (λzs e=>by rw[fu]at e;cases e))
   ·exact bg.of (hX l2 _ (λz=>nl (cj z)) (by rw[uN nl];exact s4 _ _ uS) (λzs e=>by rw[fl]at e;cases e))
   ·exact yd (λc o e m=>hX c o (λz=>nN e hD (cj z)) (by rw[uN (nN e hD)];exact s4 c o (s3 c o (s2 c o e))) (λz h=>by rw[e]at h;cases h;exact m)) e4
 ·rintro zs1 H1 ⟨s1,d1,hF1,ND⟩;have e:ms.take zs.length=ms:=abZ (by omega);rw[e]at hF1;refine⟨_,rfl,b,_,_,_,rfl,rfl,s1.tup hT,aN (j:=1) rfl,pl,rfl,⟨_,s1.seq hL⟩,λD2 WX=>?_⟩;have nD:D2≠D:=(nN d1 WX).symm;have Sy:H D2=none:=s1.free WX;refine qv (xs:=xs) (λi ys H2=>aA H1 H2/\H2 D2=some (.lst ys)/\(∀HX,Gw [D2] H H2 HX->aG K HX ys ((ps.take i).map r6))/\ys.length=i) (abE (sK (by omega))) ⟨sN WX _,uS,λHX _=>.nil,rfl⟩ ?_ ?_ ?_
  ·rintro i ys H2 hi ⟨s2,d2,_,hl⟩;exact⟨d2,acF hl,(s1.trans s2).seq hL⟩
  ·rintro i x ys H2 hx ⟨s2',d2,hF,hl⟩;have s2:=s1.trans s2';have hix:i < xs.length:=(dD hx).1;have hip:i < ps.length:=by omega
   have hxr:=hP.2 i x (r6 ps[i]) hx (by rw[List.getElem?_map,dN hip];rfl);obtain⟨t,l0,l4,l5,ks,AZ,z8,f1,rfl,hTt,Gq,hk,rg,JN,JO,JP,FQ⟩:=lD hxr;have T2:=s2.tup hTt;refine⟨rfl,_,rfl,t,_,_,_,rfl,rfl,T2,aN (j:=0) rfl,l0,ks,rfl,.inl (s2.seq Gq),λa1 h1=>?_⟩;have b1:=sN h1 (.lst ks);have T3:=b1.tup T2;refine⟨_,rfl,t,_,_,_,rfl,rfl,T3,aN (j:=1) rfl,_,rfl,t,_,_,_,rfl,rfl,T3,aN (j:=2) rfl,_,rfl,t,_,_,_,rfl,rfl,T3,aN (j:=3) rfl,_,rfl,t,_,_,_,rfl,rfl,T3,aN (j:=4) rfl,l4,AZ,rfl,.inl ((s2.trans b1).seq JN),λa2 h2=>?_⟩;have b2:=sN h2 (.lst AZ);have T4:=b2.tup T3;refine⟨_,rfl,t,_,_,_,rfl,rfl,T4,aN (j:=5) rfl,l5,z8,rfl,.inl ((s2.trans (b1.trans b2)).seq JP),λa3 h3=>⟨sz6,λt3 YH=>?_⟩⟩;have b3:=sN h3 (.lst z8);have b4:=sN YH (.tup [.ref a1,f1,.int (ps[i].boxes:Int),.int (ps[i].height:Int),.ref a2,.ref a3]);have bA:=b1.trans (b2.trans (b3.trans b4));have n1:a1≠D2:=(nN d2 h1).symm;have n2:a2≠D2:=(nN (b1 _ _ d2) h2).symm;have n3:a3≠D2:=(nN (b2 _ _ (b1 _ _ d2)) h3).symm;have n4:t3≠D2:=(nN (b3 _ _ (b2 _ _ (b1 _ _ d2))) YH).symm;have f1n:H a1=none:=s2.free h1;have f2n:H a2=none:=(s2.trans b1).free h2;have f3n:H a3=none:=(s2.trans (b1.trans b2)).free h3;have f4n:H t3=none:=(s2.trans (b1.trans (b2.trans b3))).free YH;have e1:=b4 _ _ (b3 _ _ (b2 _ _ (uS (H:=H2) (a:=a1) (o:=.lst ks))));have e2:=b4 _ _ (b3 _ _ (uS (a:=a2) (o:=.lst AZ)));have e3:=b4 _ _ (uS (a:=a3) (o:=.lst z8));have e4:=uS (H:=upd (upd (upd H2 a1 (.lst ks)) a2 (.lst AZ)) a3 (.lst z8)) (a:=t3) (o:=.tup [.ref a1,f1,.int (ps[i].boxes:Int),.int (ps[i].height:Int),.ref a2,.ref a3]);generalize upd (upd (upd (upd H2 a1 (.lst ks)) a2 (.lst AZ)) a3 (.lst z8)) t3 (.tup [.ref a1,f1,.int (ps[i].boxes:Int),.int (ps[i].height:Int),.ref a2,.ref a3])=H9 at bA e1 e2 e3 e4 ⊢;refine⟨bA _ _ d2,λb o e=>?_,uS,λHX hX=>?_,by simp[hl]⟩
   ·rw[uN (nN e WX)];exact bA b o (s2' b o e)
   ·have z:=hF HX (hX.sub (λc o n e=>by rw[uN (λz=>n (by rw[z];exact abi.mpr rfl))];exact bA c o e) (λc hc=>.inl hc));have ht:ps.take (i + 1)=ps.take i++[ps[i]]:=by rw[abv hip]
    rw[ht,aba];have k9:∀c o,c≠D2->H c=none->H9 c=some o->HX c=some o:=λc o d n e=>hX c o (λz=>d (cj z)) (by rw[uN d];exact e) (λz h=>by rw[n]at h;cases h)
    have kO:∀c o,H c=some o->¬ xb o->HX c=some o:=λc o e m=>hX c o (λz=>nN e Sy (cj z)) (by rw[uN (nN e Sy)];exact bA c o (s2 c o e)) (λz h=>by rw[e]at h;cases h;exact m)
    obtain⟨g,rfl,hg⟩:=Dl rg;refine aG.append z (.cons ?_ .nil);exact .jD (a8.of (k9 _ _ n4 f4n e4)) (.cons (.Ip (bg.of (k9 _ _ n1 f1n e1)) (yd kO hk)) (.cons (ya (a8.yc kO hg)) (.cons (.int _) (.cons (.int _) (.cons (.Ip (bg.of (k9 _ _ n2 f2n e2)) (Gx kO JO)) (.cons (.Ip (bg.of (k9 _ _ n3 f3n e3)) (Gy kO FQ)) .nil))))))
  ·rintro ys H2 ⟨s2,d2,hF,hl⟩;have e':ps.take xs.length=ps:=abZ (by omega);rw[e']at hF;refine⟨_,rfl,_,rfl,HI,λt ht=>?_⟩;have s3:=sN ht (.tup [.ref D,.ref D2]);have ft:H t=none:=(s1.trans s2).free ht;have fD:H D=none:=hD;refine q t _ (s1.trans (s2.trans s3)) ⟨D,D2,ys,λHX hX=>?_⟩;refine⟨a8.of (hX t _ (λz=>nomatch z) uS (λz h=>by rw[ft]at h;cases h)),⟨zs1,bg.of (hX D _ (λz=>nomatch z) (s3 _ _ (s2 _ _ d1)) (λz h=>by rw[fD]at h;cases h)),hF1 HX (hX.sub (λc o n e=>s3 c o (s2 c o e)) (λc hc=>nomatch hc))⟩,bg.of (hX D2 _ (λz=>nomatch z) (s3 _ _ d2) (λz h=>by rw[Sy]at h;cases h)),hF HX (hX.sub (λc o n e=>s3 c o e) (λc hc=>nomatch hc))⟩
theorem qT:aB ["self","part","boxes"] ["self","part","boxes"] (dS eY):=by walk_at "sc"
theorem qU{f:Addr}{fd:FuncData}(F:eO K "__init__" "Frame.__init__" eY f fd){af:Addr}(aj:ai K af):bh P w K mg base aU 1 f fd ["self","part","boxes"] (i4 K af):=by
 refine F.ok qT (λvs H Q E h=>?_) (λcdv A outer s H vs Q E hr h=>?_)
 ·obtain⟨x,dx,bl,p,rfl,hx,q⟩:=h;rfl
 obtain⟨x,dx,bl,p,rfl,hx,q⟩:=h;refine⟨_,(qK (cn (pv 0) (pv 1) rfl)
   (qK (cn (pv 0) pI rfl)
   (qK (cn (pv 0) (pv 2) rfl)
   (qO (cn (pv 0) (cK pN) rfl))))),?_⟩
 refine⟨_,rfl,_,rfl,x,af,dx,_,rfl,hx,aj.cl,aj.pF,(by show 0 < 1000;decide),?_⟩;refine⟨_,rfl,x,af,dx,_,rfl,uS,aj.cl,aj.ur,(by show 1 < 1000;decide),?_⟩;refine⟨_,rfl,_,rfl,x,af,dx,_,rfl,uS,aj.cl,aj.uL,(by show(aX _ _ _).length < 1000;exact abb (dO _ _ _) (by show 2 < 1000;decide)),?_⟩;refine⟨TL,λsl hsl=>?_⟩;have ne:x≠sl:=λe=>by subst e;rw[uS]at hsl;cases hsl
 have hs0:H sl=none:=by rw[uN ne.symm,uN ne.symm,uN ne.symm]at hsl;exact hsl
 refine⟨_,rfl,x,af,dx,_,rfl,(uN ne).trans uS,aj.cl,aj.gp,(by show(aX _ _ _).length < 1000;exact abb (dO _ _ _) (Nat.succ_lt_succ (abb (dO _ _ _) (by show 2 < 999;decide)))),?_⟩;refine q sl _ hs0 ?_ ((uN ne.symm).trans uS) (λc o hc e=>?_)
 ·rw[uS,Sf]
 ·rw[uN hc,uN (nN e hs0),uN hc,uN hc,uN hc];exact e
theorem DA:aB ["parts","part","values","nothing"] ["parts","part","values","nothing"] (dS rX):=by walk_at "sc"
theorem DB{f:Addr}{fd:FuncData}(F:eO K "started" "started" rX f fd)(bI:mg "len"=none){af:Addr}(aj:ai K af)(Ke:vv P w K mg base aU af "Frame" 1 ["self","part","boxes"] (i4 K af)):bh P w K mg base aU 3 f fd ["parts","part","values","nothing"] (pP K af):=by
 refine F.ok DA (λvs H Q E h=>?_) (λcdv A outer s H vs Q E hr h=>?_)
 ·obtain⟨pl,vl,ps,xs,ys,j,p,n,rfl,hL,hP,hp,hV,hl,h8,q⟩:=h;rfl
 obtain⟨pl,vl,ps,xs,ys,j,p,n,rfl,hL,hP,hp,hV,hl,h8,q⟩:=h;refine⟨_,(qO (aI (IS Ke dQ (hr.mono (by decide)) rfl (pK (pv 1) (pK (a9 yL (pv 2) (a9 Q8 (cK (pK (pv 3) pN)) (a9 gH (aC aE (aC bq (pv 0) (pv 1) (λ_ _=>rfl)) pI (λ_ _=>rfl)) (bL bu rfl bI gI (pK (pv 2) pN))))) pN))))),?_⟩;obtain⟨w0,MC,hwr⟩:=jS hP hp;obtain⟨t,l0,l4,l5,ks,AZ,z8,f1,rfl,hTt,Gq,hk,rg,JN,JO,JP,FQ⟩:=lD hwr;refine⟨_,rfl,_,rfl,_,rfl,Qb,λl1 h1=>?_⟩;have u1:=sN h1 (.lst [n]);have g1:=uS (H:=H) (a:=l1) (o:=.lst [n]);generalize upd H l1 (.lst [n])=H1 at u1 g1 ⊢;refine⟨_,rfl,_,rfl,pl,_,_,_,rfl,rfl,u1.seq hL,aN MC,t,_,_,_,rfl,rfl,u1.tup hTt,aN (j:=2) rfl,_,rfl,vl,ys,rfl,.inl (u1.seq hV),_,_,rfl,rfl,l1,_,_,rfl,rfl,g1,by omega,by omega,?_,λl2 h2=>?_⟩
 ·show 1 * ((p.boxes:Int) - ((ys.length:Nat):Int)).toNat<=sizeLine;exact abE (sK (by omega))
 rw[oq,show((p.boxes:Int) - ((ys.length:Nat):Int)).toNat=p.boxes - ys.length by omega];have u2:=sN h2 (.lst (List.replicate (p.boxes - ys.length) n));have g2:=uS (H:=H1) (a:=l2) (o:=.lst (List.replicate (p.boxes - ys.length) n));generalize upd H1 l2 _=H2 at u2 g2 ⊢;have U2:=u1.trans u2;refine⟨vl,l2,_,_,rfl,rfl,U2.seq hV,bg.of g2,Nat.le_of_lt (sK (by simp;omega)),λl3 h3=>?_⟩;have u3:=sN h3 (.lst (ys++List.replicate (p.boxes - ys.length) n));have g3:=uS (H:=H2) (a:=l3) (o:=.lst (ys++List.replicate (p.boxes - ys.length) n));have n3:H l3=none:=U2.free h3;generalize upd H2 l3 _=H3 at u3 g3 ⊢;have U3:=U2.trans u3;intro x dx nx ndx ne;refine⟨x,dx,l3,(j:Int),rfl,uS,λsl H' nsl hx hsl hk=>⟨rfl,?_⟩⟩;have xl:x≠l3:=λe=>by subst e;rw[g3]at nx;cases nx
 have dl:dx≠l3:=λe=>by subst e;rw[g3]at ndx;cases ndx
 have sx:sl≠x:=λe=>by subst e;rw[uS]at nsl;cases nsl
 have sd:sl≠dx:=λe=>by subst e;rw[uN sx,uS]at nsl;cases nsl
 have YI:H3 sl=none:=by rw[uN sx,uN sd]at nsl;exact nsl
 have ls:l3≠sl:=λe=>by subst e;rw[g3]at YI;cases YI
 have k3:∀c o,H3 c=some o->H' c=some o:=λc o e=>by
  have cx:c≠x:=λz=>by subst z;rw[nx]at e;cases e
  have cd:c≠dx:=λz=>by subst z;rw[ndx]at e;cases e
  exact hk c o cx (by rw[uN cx,uN cd];exact e)
 exact q x l3 sl H' (U3.free nx) n3 (U3.free YI) ls ⟨dx,hx⟩ (k3 _ _ g3) hsl (λc o e=>k3 c o (U3 c o e))
theorem sA:aB ["self"] ["self"] (dS fO):=by walk_at "sc"
theorem sC{f:Addr}{fd:FuncData}(F:eO K "nothing" "Plain.nothing" fO f fd){af:Addr}(aj:ai K af){C:Addr}(ac:ax K C):bh P w K mg base aU 1 f fd ["self"] (g8 K false):=by
 refine F.ok sA (λvs H Q E h=>?_) (λcdv A outer s H vs Q E hr h=>?_)
 ·obtain⟨x,rfl,q⟩:=h;rfl
 obtain⟨x,rfl,q⟩:=h;refine⟨_,(qO (aI pI)),?_⟩;exact q _ rfl
theorem pT:aB ["self"] ["self"] (dS eh):=by walk_at "sc"
theorem pU{f:Addr}{fd:FuncData}(F:eO K "nothing" "Watched.nothing" eh f fd){af:Addr}(aj:ai K af){C:Addr}(ac:ax K C):bh P w K mg base aU 1 f fd ["self"] (g8 K true):=by
 refine F.ok pT (λvs H Q E h=>?_) (λcdv A outer s H vs Q E hr h=>?_)
 ·obtain⟨x,rfl,q⟩:=h;rfl
 obtain⟨x,rfl,q⟩:=h;refine⟨_,(qO (aI dW)),?_⟩;exact q _ .non
theorem pV:aB ["self","part","values"] ["self","part","values"] (dS ey):=by walk_at "sc"
theorem hZ{f:Addr}{fd:FuncData}(F:eO K "add_frame" "Plain.add_frame" ey f fd){af:Addr}(aj:ai K af){C:Addr}{wt:Bool}(ac:ax K C)(GJ:c9 P w K mg base aU "started" 3 ["parts","part","values","nothing"] (pP K af))(DE:bJ P w K mg base aU C "nothing" 1 ["self"] (g8 K wt)):bh P w K mg base aU 4 f fd ["self","part","values"] (gu K af C wt):=by
 refine F.ok pV (λvs H Q E h=>?_) (λcdv A outer s H vs Q E hr h=>?_)
 ·obtain⟨mm,vl,ys,us,j,p,rfl,hM,hp,hV,hU,hl,h8,kR,q⟩:=h;rfl
 obtain⟨mm,vl,ys,us,j,p,rfl,hM,hp,hV,hU,hl,h8,kR,q⟩:=h;refine⟨_,(qO (bG (sS aa2 abr abt dP (aM (pv 0) rfl) (pK (dr GJ (hr.mono (by decide)) rfl (pK (aC aE (aM (pv 0) rfl) pI (λ_ _=>rfl)) (pK (pv 1) (pK (pv 2) (pK (yW (pv 0) DE dQ (hr.mono (by decide))) pN))))) pN)))),?_⟩;obtain⟨mdx,ev,m1,m2⟩:=hM.ob;obtain⟨mk,pl,xs,hb⟩:=hM.bk;obtain⟨hT,hMk,hL,hP⟩:=hb H az.refl;have ly:=hU.1;refine⟨_,rfl,mm.ma,C,mdx,_,_,rfl,m1,ac.cl,ac.jQ,iI,.inl ⟨rfl,_,bg.of hM.lv⟩,_,rfl,mm.ma,C,mdx,_,_,rfl,m1,ac.cl,ac.pG,om,mm.b,_,_,_,rfl,rfl,hT,aN (j:=1) rfl,_,rfl,_,rfl,_,rfl,mm.ma,mdx,_,rfl,m1,mc_no (by decide +kernel),_,rfl,λv hv=>?_⟩;refine⟨pl,vl,mm.ps,xs,ys,j,p,v,rfl,hL,hP,hp,hV,by omega,h8,λfa bl sl H1 n1 n2 n3 ne ob g2 g3 s1=>?_⟩;obtain⟨dx,g1⟩:=ob;have hU1:=(hU.same s1).append (eP.rep (hv.same s1) (p.boxes - ys.length))
 have hF:eQ K H1 af wt ⟨fa,bl,sl,j,0,us++List.replicate (p.boxes - us.length) .none,[]⟩:=by
  refine⟨⟨dx,g1⟩,⟨_,g2,?_⟩,⟨_,g3,eP.nil⟩,ne⟩;rw[← ly];exact hU1
 obtain⟨z1,z2⟩:=hF.fs
 have fr:∀c∈eA ⟨fa,bl,sl,j,0,us++List.replicate (p.boxes - us.length) .none,[]⟩,H c=none:=by
  intro c hc;simp only[eA,List.mem_cons,List.not_mem_nil,or_false]at hc;rcases hc with rfl | rfl | rfl
  ·exact n1
  ·exact n2
  ·exact n3
 have P:=hM.push s1 hF fr (by simp only[eA,List.nodup_cons,List.mem_cons,List.not_mem_nil,or_false,not_or,not_false_eq_true,List.nodup_nil,and_true];exact⟨⟨z1,z2⟩,ne⟩);rw[List.map_append]at P;exact⟨mm.lv,_,_,rfl,rfl,s1 _ _ hM.lv,sK (by rw[List.length_map];show mm.aT.length<=1000;omega),q _ _ P.1 rfl rfl rfl rfl fr P.2⟩
theorem qV:aB ["self","book","part","inputs","budget"] ["self","book","part","inputs","budget"] (dS eZ):=by walk_at "sc"
theorem iN{f:Addr}{fd:FuncData}(F:eO K "__init__" "Plain.__init__" eZ f fd){af:Addr}(aj:ai K af){C:Addr}{wt:Bool}(ac:ax K C)(zB:c9 P w K mg base (pb P w) "check_door" 2 ["parts","part","inputs"] (iZ K ar))(Kf:c9 P w K mg base aU "copied" 1 ["book"] (su K))(zC:bJ P w K mg base aU C "add_frame" 4 ["self","part","values"] (gu K af C wt))(ju:bJ P w K mg base aU C "tagged" 1 ["self","tag","number"] (e7 K wt)):bh P w K mg base (pb P w) 5 f fd ["self","book","part","inputs","budget"] (bQ K af C wt ar):=by
 refine F.WO qV (λvs H Q E h=>?_) (λcdv A outer s H vs Q E hr h=>?_)
 ·obtain⟨x,dx,b,il,j,bud,ms,ps,ws,rfl,hx,hB,h8,HB,h1c,hI,hQ,hE⟩:=h;rfl
 obtain⟨x,dx,b,il,j,bud,ms,ps,ws,rfl,hx,hB,h8,HB,h1c,hI,hQ,hE⟩:=h;refine⟨_,(qK (bG (Rt zB yV (hr.mono (by decide)) rfl (pK (aC aE (pv 1) pI (λ_ _=>rfl)) (pK (pv 2) (pK (pv 3) pN)))))
   (qK (cn (pv 0) (dr Kf (hr.mono (by decide)) rfl (pK (pv 1) pN)) rfl)
   (qK (cn (pv 0) (cK pN) rfl)
   (qK (cn (pv 0) (cK pN) rfl)
   (qK (cn (pv 0) (cK pN) rfl)
   (qK (cn (pv 0) (pv 4) rfl)
   (qK (cn (pv 0) dW rfl)
   (qO (bG (jk (pv 0) zC dQ (hr.mono (by decide)) (pK (pv 2) (pK (EL 1 ["word","self"] [0] ⟨rfl,rfl,rfl,rfl,rfl,rfl,rfl,rfl⟩ (iG (pv 3)) (λ_ _ _ _=>⟨(bU (i:=0) (show List.Nodup (["word","self"]:List Str)by decide +kernel) rfl (aaW rfl)),jE,(show PE _ _ (Ac C _ _ [] _ _ _)from (jk (pv 1) ju dQ (hr.mono (by decide)) (pK ba (pK (pv 0) pN))))⟩)) pN)))))))))))),?_⟩
 obtain⟨b',mk,pl,xs,e,hT,hM,hL,hP⟩:=ze hB;cases e;by_cases hdoor:js ps j ws.length;rotate_left
 ·refine⟨_,rfl,b,_,_,_,rfl,rfl,hT,aN (j:=1) rfl,_,rfl,_,rfl,pl,il,xs,_,ps,j,rfl,hL,hP,h1c,hI,(λz=>absurd (by rw[aab]at z;exact z) hdoor),λ_ H1 s1=>hE hdoor H1 s1⟩
 have hdoor':js ps j (ws.map V.int).length:=by rw[aab];exact hdoor
 obtain⟨p,j0,hp,hd,hl⟩:=hdoor;refine⟨_,rfl,b,_,_,_,rfl,rfl,hT,aN (j:=1) rfl,_,rfl,_,rfl,pl,il,xs,_,ps,j,rfl,hL,hP,h1c,hI,λ_ H1 s1=>?_,λz=>absurd hdoor' z⟩;obtain⟨j,rfl⟩:∃n:Nat,j=(n:Int):=⟨j.toNat,by omega⟩;rw[ab9]at hp;obtain⟨⟨hb,YJ⟩,q⟩:=hQ j p rfl hp hd hl;have lw:(ws.map V.int).length=p.takes.length:=by rw[aab,hl]
 refine⟨_,rfl,b,ms,ps,rfl,aR.same s1 hB,h8,HB,λbb H2 s2 hbk=>?_⟩;have U2:=s1.trans s2;have XX:=U2 _ _ hx;refine⟨_,rfl,x,C,dx,_,rfl,XX,ac.cl,ac.pG,(by show 0 < 1000;decide),?_⟩;have k3:az [x] H2 (upd H2 x (.ins C dx (aX "book" (.ref bb) []))):=aW;have x3:=uS (H:=H2) (a:=x) (o:=.ins C dx (aX "book" (.ref bb) []));have c3:(aX "book" (.ref bb) []).length<=1:=lJ (aaZ 0);generalize hF3:aX "book" (.ref bb) []=F3 at k3 x3 c3 ⊢;generalize upd H2 x (.ins C dx F3)=H3 at k3 x3 ⊢;refine⟨TL,λlv nlv=>⟨_,rfl,x,C,dx,_,rfl,(uN (nN x3 nlv)).trans x3,ac.cl,ac.jQ,abb c3 (by decide),?_⟩⟩;obtain⟨k4,x4,VF,YL,lvx,YM⟩:=Sr (o':=.ins C dx (aX "live" (.ref lv) F3)) k3 x3 nlv;have c4:(aX "live" (.ref lv) F3).length<=2:=lJ c3;generalize hF4:aX "live" (.ref lv) F3=F4 at k4 x4 VF YM c4 ⊢;generalize upd (upd H3 lv (.lst [])) x (.ins C dx F4)=H4 at k4 x4 VF YM ⊢;refine⟨TL,λrc nrc=>⟨_,rfl,x,C,dx,_,rfl,(uN (nN x4 nrc)).trans x4,ac.cl,ac.xZ,abb c4 (by decide),?_⟩⟩;obtain⟨k5,x5,VG,YN,rcx,WY⟩:=Sr (o':=.ins C dx (aX "records" (.ref rc) F4)) k4 x4 nrc;have rl:lv≠rc:=nN VF nrc;have VH:=WY _ _ lvx VF;have c5:(aX "records" (.ref rc) F4).length<=3:=lJ c4;generalize hF5:aX "records" (.ref rc) F4=F5 at k5 x5 VG WY c5 VH ⊢;generalize upd (upd H4 rc (.lst [])) x (.ins C dx F5)=H5 at k5 x5 VG WY VH ⊢;refine⟨TL,λsd nsd=>⟨_,rfl,x,C,dx,_,rfl,(uN (nN x5 nsd)).trans x5,ac.cl,ac.C8,abb c5 (by decide),?_⟩⟩;obtain⟨k6,x6,WZ,YO,sdx,VI⟩:=Sr (o':=.ins C dx (aX "said" (.ref sd) F5)) k5 x5 nsd;have sl:lv≠sd:=nN VH nsd;have sr:rc≠sd:=nN VG nsd;have W0:=VI _ _ lvx VH;have W2:=VI _ _ rcx VG;have c6:(aX "said" (.ref sd) F5).length<=4:=lJ c5;generalize hF6:aX "said" (.ref sd) F5=F6 at k6 x6 WZ VI c6 W0 W2 ⊢;generalize upd (upd H5 sd (.lst [])) x (.ins C dx F6)=H6 at k6 x6 WZ VI W0 W2 ⊢;refine⟨_,rfl,_,rfl,x,C,dx,_,rfl,x6,ac.cl,ac.vG,abb c6 (by decide),?_⟩;have c7:(aX "left" (.int bud) F6).length<=5:=lJ c6;refine⟨_,rfl,x,C,dx,_,rfl,uS,ac.cl,ac.sW,abb c7 (by decide),?_⟩;subst hF3 hF4 hF5 hF6;rw[Sq];have x8:=uS (H:=upd H6 x (.ins C dx (aX "left" (.int bud) (aX "said" (.ref sd) (aX "records" (.ref rc) (aX "live" (.ref lv) (aX "book" (.ref bb) []))))))) (a:=x) (o:=.ins C dx (pH bb lv rc sd bud .non));have k8:az [x] H6 (upd (upd H6 x (.ins C dx (aX "left" (.int bud) (aX "said" (.ref sd) (aX "records" (.ref rc) (aX "live" (.ref lv) (aX "book" (.ref bb) []))))))) x (.ins C dx (pH bb lv rc sd bud .non))):=aW.trans aW;generalize upd (upd H6 x (.ins C dx (aX "left" (.int bud) (aX "said" (.ref sd) (aX "records" (.ref rc) (aX "live" (.ref lv) (aX "book" (.ref bb) []))))))) x (.ins C dx (pH bb lv rc sd bud .non))=H8 at x8 k8 ⊢;have nx:∀c,c≠x->c∉[x]:=λc h z=>h (cj z)
 have lv8:=k8 _ _ (nx _ lvx) W0;have rc8:=k8 _ _ (nx _ rcx) W2;have sd8:=k8 _ _ (nx _ sdx) WZ;have K8:=k6.trans k8;clear k3 k4 k5 k6 YM WY VI x3 x4 x5 x6 c3 c4 c5 c6 c7 VF VH W0 VG W2 WZ;have WM:=s1 _ _ hx;obtain⟨mk',pl',xs',hbk⟩:=hbk
 have M8:bM K H8 af C wt ⟨x,bb,lv,rc,sd,ms,ps,[],[],[],bud,[]⟩:=by
  refine⟨⟨dx,.non,x8,.inl ⟨rfl,rfl⟩⟩,⟨mk',pl',xs',λHX kX=>hbk HX λc o _ e m=>?_⟩,lv8,⟨[],rc8,Mz.nil⟩,sd8,(λf hf=>nomatch hf),?_⟩
  ·have cx:c≠x:=λz=>by subst z;exact m _ WM (.inr (.inl ⟨_,_,_,rfl⟩))
   refine kX c o (λhc=>?_) (K8 c o (nx c cx) e);simp only[foot,List.flatMap_nil,List.mem_cons,List.not_mem_nil,or_false]at hc;rcases hc with rfl | rfl | rfl | rfl
   ·exact cx rfl
   ·rw[YL]at e;cases e
   ·rw[YN]at e;cases e
   ·rw[YO]at e;cases e
  ·simp only[foot,List.flatMap_nil,List.nodup_cons,List.mem_cons,List.not_mem_nil,or_false,not_or,not_false_eq_true,List.nodup_nil,and_true];exact⟨⟨lvx.symm,rcx.symm,sdx.symm⟩,⟨rl,sl⟩,sr⟩
 have K0:az [x] H H8:=λc o n e=>K8 c o n (U2 c o e)
 have hI8:bg K H8 il (ws.map V.int):=by
  rcases hI with(h | ⟨u,h⟩) | h
  ·exact .inl (.inl (K0 _ _ (λz=>by rw[cj z,hx]at h;cases h) h))
  ·exact .inl (.inr ⟨u,K0 _ _ (λz=>by rw[cj z,hx]at h;cases h) h⟩)
  ·exact .inr h
 refine⟨_,rfl,x,dx,_,rfl,x8,mc_no (by decide +kernel),_,rfl,_,rfl,il,rfl,⟨_,hI8⟩,λD hD=>?_⟩;refine qv (xs:=ws.map V.int) (λi ys H9=>aA H8 H9/\H9 D=some (.lst ys)/\eP K H9 wt ys ((ws.take i).map Vl.num)) (abE (sK (by omega))) ⟨sN hD _,uS,eP.nil⟩ ?_ ?_ ?_
 ·rintro i ys H9 hi ⟨s9,g9,hV⟩;refine⟨g9,?_,s9.seq hI8⟩;rw[hV.1,aab,abl];omega
 ·rintro i v ys H9 hv ⟨s9,g9,hV⟩;rw[aa1]at hv
  cases hwi:ws[i]? with
  | none=>rw[hwi]at hv;cases hv
  | some n =>
   rw[hwi]at hv;cases hv;refine⟨rfl,_,rfl,x,dx,_,rfl,s9 _ _ x8,mc_no (by decide +kernel),_,rfl,_,.num n,(λz=>nomatch z),rfl,λu TQ UI hu=>?_⟩;have g10:=UI _ _ g9;have hiw:=(dD hwi);have mu:a6 TQ [D]:=λc hc=>by rw[cj hc];exact⟨_,g10,.inl ⟨_,rfl⟩⟩
   refine⟨g10,vO (s9.trans UI) hD _,uS,?_⟩;rw[abv hiw.1,aba,hiw.2];exact eP.keep aW mu ((hV.same UI).snoc hu)
 ·rintro ys H9 ⟨s9,g9,hV⟩;rw[abZ (by rw[aab];omega)]at hV;have M9:=M8.same s9;refine⟨_,D,ys,ws.map Vl.num,j,p,rfl,M9,hp,bg.of g9,hV,by rw[aab];exact hb,YJ,(by show 0<=100;decide),λf TQ M10 f1 f2 f3 f4 fr W3=>?_⟩;rw[aab]at f3
  have kE:∀c o,c≠x->H2 c=some o->TQ c=some o:=λc o n e=>by
   refine W3 c o (λhc=>?_) (s9 _ _ (K8 c o (nx c n) e));simp only[foot,List.flatMap_nil,List.mem_cons,List.not_mem_nil,or_false]at hc;rcases hc with rfl | rfl | rfl | rfl
   ·exact n rfl
   ·rw[YL]at e;cases e
   ·rw[YN]at e;cases e
   ·rw[YO]at e;cases e
  have Kg:∀c∈foot ⟨x,bb,lv,rc,sd,ms,ps,[f],[],[],bud,[]⟩,c≠x->H2 c=none:=λc hc n=>by
   simp only[foot,List.flatMap_cons,List.flatMap_nil,List.append_nil,List.mem_cons]at hc;rcases hc with rfl | rfl | rfl | rfl | hc
   ·exact absurd rfl n
   ·exact YL
   ·exact YN
   ·exact YO
   ·have z:=s9.free (fr c hc)
    cases e:H2 c with
    | none=>rfl
    | some o=>rw[K8 c o (nx c n) e]at z;cases z
  refine q bb lv rc sd f TQ f1 f2 f3 f4 M10 (λc hc n=>U2.free (Kg c hc n)) (λc o n e=>kE c o (λz=>n (by rw[z];exact abi.mpr rfl)) (U2 c o e)) (λG hG=>⟨mk',pl',xs',λHX kX=>hbk HX λc o _ e m=>?_⟩) (λHX kX=>?_);rotate_left
  ·obtain⟨w1,w2,w3,w4⟩:=hbk HX λc o _ e m=>by
    have cx:c≠x:=λz=>by subst z;exact m _ WM (.inr (.inl ⟨_,_,_,rfl⟩))
    exact kX c o (λz=>by rw[Kg c z cx]at e;cases e) (λz hz mz=>m _ (s1 _ _ hz) mz) (kE c o cx e)
   exact .jD w1 (.cons w2.rd (.cons (.Ip w3 w4) .nil))
  have cx:c≠x:=λz=>by subst z;exact m _ WM (.inr (.inl ⟨_,_,_,rfl⟩))
  refine kX c o (λhc=>?_) (kE c o cx e);rcases abw.mp hc with z | z
  ·rw[Kg c z cx]at e;cases e
  ·obtain⟨o',e',mo⟩:=hG c z;exact m _ (s1 _ _ e') mo
theorem Sz:aB ["book","part","inputs","budget"] ["book","part","inputs","budget"] (dS JG):=by walk_at "sc"
theorem SA{f:Addr}{fd:FuncData}(F:eO K "run" "run" JG f fd){af:Addr}(aj:ai K af){au:Addr}(pW:c9 P w K mg base aU "finished" 8 ["machine"] (fH K af au false))(wj:vv P w K mg base (pb P w) au "Plain" 5 ["self","book","part","inputs","budget"] (bQ K af au false ar)):bh P w K mg base (pb P w) 9 f fd ["book","part","inputs","budget"] (zk K ar):=by
 refine F.WO Sz (λvs H Q E h=>?_) (λcdv A outer s H vs Q E hr h=>?_)
 ·obtain⟨b,il,j,bud,ms,ps,ws,rfl,hB,h8,HB,h1c,hI,hQ,hE⟩:=h;rfl
 obtain⟨b,il,j,bud,ms,ps,ws,rfl,hB,h8,HB,h1c,hI,hQ,hE⟩:=h;refine⟨_,(qO (aI (dr pW (hr.mono (by decide)) rfl (pK (IS wj yV (hr.mono (by decide)) rfl (pK (pv 0) (pK (pv 1) (pK (pv 2) (pK (pv 3) pN))))) pN)))),?_⟩;refine⟨_,rfl,_,rfl,_,rfl,_,rfl,λx dx nx ndx ne=>?_⟩;have y:=(gE (H':=upd (upd H dx (.own x)) x (.ins au dx [])) nx ndx ne az.refl).1;refine⟨x,dx,b,il,j,bud,ms,ps,ws,rfl,uS,aR.same y hB,h8,HB,h1c,y.seq hI,λjn p ej hp hd hl=>?_,λn H' s=>hE n H' (y.trans s)⟩;obtain⟨bb,n,p2,hR,h9,q⟩:=hQ jn p ej hp hd hl;refine⟨bb,λbb lv rc sd f' H1 e1 e2 e3 e4 M1 YQ k1 _ _=>⟨rfl,?_⟩⟩;have x1:=(gE nx ndx ne k1).2
 have z1:∀c∈foot ⟨x,bb,lv,rc,sd,ms,ps,[f'],[],[],bud,[]⟩,H c=none:=λc hc=>by
  by_cases e:c=x
  ·rw[e];exact nx
  ·exact y.free (YQ c hc e)
 have ep:(⟨x,bb,lv,rc,sd,ms,ps,[f'],[],[],bud,[]⟩:Mc).pm=cB ms ps jn p ws bud:=by
  unfold Mc.pm cB;show(⟨ms,ps,[f'.pf],[],[],bud,[]⟩:PM)=_;unfold Fm.pf;rw[e1,e2,e3,e4]
 refine⟨⟨x,bb,lv,rc,sd,ms,ps,[f'],[],[],bud,[]⟩,n,p2,rfl,M1,(by rw[ep];exact hR),h9,λt l ev H' k' fr gt g hE=>q t l ev H' (λc o e=>k' c o (λhz=>?_) (x1 c o e)) ?_ gt g hE⟩;rotate_left
 ·by_cases hz:l∈foot ⟨x,bb,lv,rc,sd,ms,ps,[f'],[],[],bud,[]⟩
  ·exact z1 l hz
  ·cases hh:H l with
   | none=>rfl
   | some o=>have:=x1 l o hh;rw[fr hz]at this;cases this
 rw[z1 c hz]at e;cases e
theorem wk:aB ["book","part","inputs","budget"] ["book","part","inputs","budget"] (dS iW):=by walk_at "sc"
theorem wm{f:Addr}{fd:FuncData}(F:eO K "run_watched" "run_watched" iW f fd){af:Addr}(aj:ai K af){ak:Addr}(pW:c9 P w K mg base aU "finished" 8 ["machine"] (fH K af ak true))(pX:vv P w K mg base (pb P w) ak "Watched" 5 ["self","book","part","inputs","budget"] (bQ K af ak true ar)):bh P w K mg base (pb P w) 9 f fd ["book","part","inputs","budget"] (eE K ar):=by
 refine F.WO wk (λvs H Q E h=>?_) (λcdv A outer s H vs Q E hr h=>?_)
 ·obtain⟨b,il,j,bud,ms,ps,ws,rfl,hB,h8,HB,h1c,hI,hQ,hE⟩:=h;rfl
 obtain⟨b,il,j,bud,ms,ps,ws,rfl,hB,h8,HB,h1c,hI,hQ,hE⟩:=h;refine⟨_,(qO (aI (dr pW (hr.mono (by decide)) rfl (pK (IS pX yV (hr.mono (by decide)) rfl (pK (pv 0) (pK (pv 1) (pK (pv 2) (pK (pv 3) pN))))) pN)))),?_⟩;refine⟨_,rfl,_,rfl,_,rfl,_,rfl,λx dx nx ndx ne=>?_⟩;have y:=(gE (H':=upd (upd H dx (.own x)) x (.ins ak dx [])) nx ndx ne az.refl).1;refine⟨x,dx,b,il,j,bud,ms,ps,ws,rfl,uS,aR.same y hB,h8,HB,h1c,y.seq hI,λjn p ej hp hd hl=>?_,λn H' s=>hE n H' (y.trans s)⟩;obtain⟨bb,n,p2,hR,h9,q⟩:=hQ jn p ej hp hd hl;refine⟨bb,λbb lv rc sd f' H1 e1 e2 e3 e4 M1 YQ k1 _ _=>⟨rfl,?_⟩⟩;have x1:=(gE nx ndx ne k1).2
 have z1:∀c∈foot ⟨x,bb,lv,rc,sd,ms,ps,[f'],[],[],bud,[]⟩,H c=none:=λc hc=>by
  by_cases e:c=x
  ·rw[e];exact nx
  ·exact y.free (YQ c hc e)
 have ep:(⟨x,bb,lv,rc,sd,ms,ps,[f'],[],[],bud,[]⟩:Mc).pm=cB ms ps jn p ws bud:=by
  unfold Mc.pm cB;show(⟨ms,ps,[f'.pf],[],[],bud,[]⟩:PM)=_;unfold Fm.pf;rw[e1,e2,e3,e4]
 refine⟨⟨x,bb,lv,rc,sd,ms,ps,[f'],[],[],bud,[]⟩,n,p2,rfl,M1,(by rw[ep];exact hR),h9,λt l ev H' k' fr gt g hE=>q t l ev H' (λc o e=>k' c o (λhz=>?_) (x1 c o e)) ?_ gt g hE⟩;rotate_left
 ·by_cases hz:l∈foot ⟨x,bb,lv,rc,sd,ms,ps,[f'],[],[],bud,[]⟩
  ·exact z1 l hz
  ·cases hh:H l with
   | none=>rfl
   | some o=>have:=x1 l o hh;rw[fr hz]at this;cases this
 rw[z1 c hz]at e;cases e
theorem xm:aB ["frame"] ["frame"] (dS jO):=by walk_at "sc"
theorem xn{f:Addr}{fd:FuncData}(F:eO K "frame_told" "frame_told" jO f fd)(gA:mg "tuple"=none){af:Addr}(aj:ai K af):bh P w K mg base aU 1 f fd ["frame"] (i5 K af):=by
 refine F.ok xm (λvs H Q E h=>?_) (λcdv A outer s H vs Q E hr h=>?_)
 ·obtain⟨wt,f',rfl,hF,q⟩:=h;rfl
 obtain⟨wt,f',rfl,hF,q⟩:=h;refine⟨_,(qO (aI (c8 (pK (aM (pv 0) rfl) (pK (aM (pv 0) rfl) (pK (cq iO rfl gA vj (pK (aM (pv 0) rfl) pN)) (pK (cq iO rfl gA vj (pK (aM (pv 0) rfl) pN)) pN))))))),?_⟩;obtain⟨⟨dx,h1⟩,⟨ys,h2,h3⟩,⟨zs,h4,h5⟩,ne⟩:=hF;refine⟨_,rfl,f'.fa,af,dx,_,_,rfl,h1,aj.cl,aj.pF,oj,_,rfl,f'.fa,af,dx,_,_,rfl,h1,aj.cl,aj.ur,vM,_,rfl,f'.fa,af,dx,_,_,rfl,h1,aj.cl,aj.uL,vN,f'.bl,ys,rfl,.inl ⟨bg.of h2,λtb htb=>?_⟩⟩;have u1:=sN htb (.tup ys);have g1:a8 K (upd H tb (.tup ys)) tb ys:=a8.of uS;generalize upd H tb (.tup ys)=H1 at u1 g1 ⊢;refine⟨_,rfl,f'.fa,af,dx,_,_,rfl,u1 _ _ h1,aj.cl,aj.gp,gY,f'.sl,zs,rfl,.inl ⟨bg.of (u1 _ _ h4),λts hts=>?_⟩⟩;have u2:=sN hts (.tup zs);have g2:a8 K (upd H1 ts (.tup zs)) ts zs:=a8.of uS;generalize upd H1 ts (.tup zs)=H2 at u2 g2 ⊢;refine⟨sz4,λt ht=>?_⟩;have u3:=sN ht (.tup [.int (f'.part:Int),.int (f'.at':Int),.ref tb,.ref ts]);have U:=u1.trans (u2.trans u3);exact q _ _ U ⟨t,tb,ts,ys,zs,rfl,a8.of uS,(u2.trans u3).tup g1,h3.same U,u3.tup g2,h5.same U⟩
theorem uA:aB ["self"] ["self"] (dS gX):=by walk_at "sc"
theorem kN{f:Addr}{fd:FuncData}(F:eO K "frames" "Plain.frames" gX f fd){af:Addr}(aj:ai K af){C:Addr}{wt:Bool}(ac:ax K C)(zD:c9 P w K mg base aU "frame_told" 1 ["frame"] (i5 K af)):bh P w K mg base aU 2 f fd ["self"] (gF K af C wt):=by
 refine F.ok uA (λvs H Q E h=>?_) (λcdv A outer s H vs Q E hr h=>?_)
 ·obtain⟨mm,rfl,hM,kR,q⟩:=h;rfl
 obtain⟨mm,rfl,hM,kR,q⟩:=h;refine⟨_,(qO (aI (EL 1 ["frame"] [] ⟨rfl,rfl,rfl,rfl,rfl,rfl,rfl,rfl⟩ (iG (aM (pv 0) rfl)) (λ_ _ _ _=>⟨(bU (i:=0) (show List.Nodup (["frame"]:List Str)by decide +kernel) rfl (Or.inl rfl)),jE,(dr zD (hr.mono (by decide)) rfl (pK (pv 0) pN))⟩)))),?_⟩;obtain⟨dx,ev,h1,h2⟩:=hM.ob;refine⟨_,rfl,mm.ma,C,dx,_,_,rfl,h1,ac.cl,ac.jQ,iI,mm.lv,rfl,⟨_,bg.of hM.lv⟩,λD hD=>?_⟩;refine qv (xs:=mm.aT.map λf=>.ref f.fa) (λi ys H3=>aA H H3/\H3 D=some (.lst ys)/\FTs K H3 wt ys (mm.aT.take i)) (Nat.le_of_lt (sK (by rw[List.length_map];omega))) ⟨sN hD _,uS,rfl,λj y f e=>by simp at e⟩ ?_ ?_ ?_
 ·rintro i ys H3 hi ⟨s3,g3,hF⟩;refine⟨g3,?_,s3.seq (bg.of hM.lv)⟩;rw[hF.1,abl];omega
 ·rintro i x ys H3 hx ⟨s3,g3,hF⟩;rw[aa1]at hx
  cases hfi:mm.aT[i]? with
  | none=>rw[hfi]at hx;cases hx
  | some f' =>
   rw[hfi]at hx;cases hx;refine⟨rfl,_,rfl,wt,f',rfl,((hM.same s3).fr f' (List.mem_of_getElem? hfi)),λy H4 s4 hy=>⟨s4 _ _ g3,vO (s3.trans s4) hD _,uS,?_⟩⟩;rw[List.take_add_one,hfi];have lF:=hF.1;refine⟨by simp[lF],λj z f hz hf=>?_⟩;by_cases hj:j < ys.length
   ·rw[aaX hj]at hz;rw[aaX (by rw[← lF];exact hj)]at hf;exact((hF.2 j z f hz hf).same s4).VB (s4 _ _ g3)
   ·have hl:j=ys.length:=by
     have:=(dD hz).1;simp at this;omega
    subst hl;rw[aa3 (aaZ _),abP]at hz;rw[lF,aa3 (aaZ _),abP]at hf;cases hz;cases hf;exact hy.VB (s4 _ _ g3)
 rintro ys H1 ⟨s1,g1,hF⟩;rw[abZ (by rw[aab];omega)]at hF;exact q D ys H1 s1 hD g1 hF
theorem bp:aB ["_law_book","_law_part_here","_law_inputs","_law_budget","_law_way","_law_caught","_law_told","e"] ["_law_book","_law_part_here","_law_inputs","_law_budget","_law_way"] (dS lA):=by walk_at "sc"
theorem xo{f:Addr}{fd:FuncData}(F:eO K "_law_asked" "_law_asked" lA f fd)(eG:mg "ValueError"=none)(bP:mg "isinstance"=none){h7:Addr}(lT:mg "NoBook"=some (.ref h7))(qW:PySem.W.ktsIn K h7 "BaseException"=true){ar:Addr}(fK:mg "NoDoor"=some (.ref ar))(fL:PySem.W.excIn K ar yO "ValueError.__new__"=true)(jw:PySem.W.ktsIn K ar "BaseException"=true){ia:Addr}(lU:mg "NoPass"=some (.ref ia))(qX:PySem.W.ktsIn K ia "BaseException"=true){ib:Addr}(lV:mg "NoTree"=some (.ref ib))(qY:PySem.W.ktsIn K ib "BaseException"=true){bE:Addr}(bR:mg "WardenError"=some (.ref bE))(fz:PySem.W.excIn K bE yO "ValueError.__new__"=true)(bS:PySem.W.ktsIn K bE "BaseException"=true){af:Addr}(aj:ai K af)(VJ:c9 P w K mg base (pb P w) "run" 9 ["book","part","inputs","budget"] (zk K ar))(xp:c9 P w K mg base (pb P w) "run_watched" 9 ["book","part","inputs","budget"] (eE K ar)){au:Addr}(uB:bJ P w K mg base aU au "frames" 2 ["self"] (gF K af au false)){ak:Addr}(qZ:bJ P w K mg base aU ak "frames" 2 ["self"] (gF K af ak true))(wj:vv P w K mg base (pb P w) au "Plain" 5 ["self","book","part","inputs","budget"] (bQ K af au false ar))(pX:vv P w K mg base (pb P w) ak "Watched" 5 ["self","book","part","inputs","budget"] (bQ K af ak true ar))(Bq:PySem.W.mroIn K ar (.ref bE)=some true)(ic:PySem.W.findIn K (.ref ar) "__getattribute__"=some (some (.builtin "BaseException.__getattribute__")))(ie:PySem.W.findIn K (.ref ar) "__getattr__"=some none)(ig:PySem.W.findIn K (.ref ar) "__class__"=some (some (.builtin "object.__class__")))(ij:PySem.W.mroIn K ar (.type "BaseException")=some true)(ik:PySem.W.mroIn K ar (.type "object")=some true)(ip:PySem.W.hasDictIn K ar=true)(Kh:PySem.W.kitOne K (.ref ar) (.ref ar)=some true)(Ki:PySem.W.kitOne K (.ref ar) (.type "ValueError")=some true)(Kj:PySem.W.kitOne K (.ref ar) (.ref h7)=some false)(Kk:PySem.W.kitOne K (.ref ar) (.ref ib)=some false)(Kl:PySem.W.kitOne K (.ref ar) (.ref ia)=some false):bh P w K mg base aU 10 f fd ["_law_book","_law_part_here","_law_inputs","_law_budget","_law_way"] (gw K):=by
 refine F.ok bp (λvs H Q E h=>?_) (λcdv A outer s H vs Q E hr h=>?_)
 ·obtain⟨PP,ds,hP,hv,ps,j,bud,ws,way,rfl,hw,h8,hp,hws,q⟩:=h;exact hv.1
 obtain⟨PP,ds,hP,hv,ps,j,bud,ws,way,rfl,hw,h8,hp,hws,q⟩:=h;refine gM hP hv ?_;show Gg _ _ _ _ [some _,some _,some _,some _,some _,none,none,none] [];clear hP hv;refine aK (bV (i:=5) bp.nd rfl (aaW rfl) eV) (λR kk=>?_);walk_at "vc";refine kk _ _ ?_;clear kk R;refine aK (bV (i:=6) bp.nd rfl (aaW rfl) eV) (λR kk=>?_);walk_at "vc";refine kk _ _ ?_;clear kk R;refine aK (Oh (JE (JD λ_=>(AD (hr.units) (aq 4) aJ)) (Ff (i:=7) (j:=6) VJ Su Ss (hr.mono (by decide)) rfl (Fc λ_=>(ah (aq 0) (ah (aq 1) (ah (aq 2) (ah (aq 3) aw))))) rfl bR bS bp.nd rfl rfl rfl (aaW rfl) (Fd λ_ _=>(bw (bV (i:=5) bp.nd rfl (aaW rfl) (aq 7))))) (JE (JD λ_=>(AD (hr.units) (aq 4) aJ)) (Ff (i:=7) (j:=6) xp v7 v5 (hr.mono (by decide)) rfl (Fc λ_=>(ah (aq 0) (ah (aq 1) (ah (aq 2) (ah (aq 3) aw))))) rfl bR bS bp.nd rfl rfl rfl (aaW rfl) (Fd λ_ _=>(bw (bV (i:=5) bp.nd rfl (aaW rfl) (aq 7))))) (JE (JD λ_=>(AD (hr.units) (aq 4) aJ)) (JF (i:=7) (j:=6) wj Bb uB ye (hr.mono (by decide)) (hr.mono (by decide)) rfl (Fc λ_=>(ah (aq 0) (ah (aq 1) (ah (aq 2) (ah (aq 3) aw))))) rfl bR bS bp.nd rfl rfl rfl (aaW rfl) (Fd λ_ _=>(bw (bV (i:=5) bp.nd rfl (aaW rfl) (aq 7))))) (JF (i:=7) (j:=6) pX Bb qZ ye (hr.mono (by decide)) (hr.mono (by decide)) rfl (Fc λ_=>(ah (aq 0) (ah (aq 1) (ah (aq 2) (ah (aq 3) aw))))) rfl bR bS bp.nd rfl rfl rfl (aaW rfl) (Fd λ_ _=>(bw (bV (i:=5) bp.nd rfl (aaW rfl) (aq 7))))))))) (λR kk=>?_);walk_at "vc"
 have okV:∀(v:PyData) (st:aO),(∀(u:V) (H':Hp),aA H H'->aS K PP H' u (.tuple [.str "told",v])->Q u H')->R [some (.dat (wW cC ps)),some (.dat (.int j)),some (.dat (.list (ws.map PyData.int))),some (.dat (.int bud)),some (.dat (.int (way:Int))),some (.dat .none),some (.dat v),none] st:=by
  intro v st hq;refine kk _ _ ?_;clear kk R;refine aK (gL (C3 (aq 5) eV) (bw (cI (bf (ah bK (ah (aq 6) aw))))) cT) (λR kk=>?_);walk_at "vc";exact dY hq
 have noV:dm ps j ws.length=none->∀st:aO,R [some (.dat (wW cC ps)),some (.dat (.int j)),some (.dat (.list (ws.map PyData.int))),some (.dat (.int bud)),some (.dat (.int (way:Int))),some (.ref st.length),some (.dat .none),none] (st++[.obj (Oa ar [])]):=by
  intro hn st;refine kk _ _ ?_;clear okV kk R;refine aK (gL (C3 (aq 5) eV) (bw (cI (bf (ah bK (ah (aq 6) aw))))) cT) (λR kk=>?_);walk_at "vc";refine cu (kk _ _ ?_);clear kk R;refine aK (gL (FY.dt (AF (C4 (pq (uK rfl bP rfl fK (aq 5)))) (y3 (C4 (pq (Od rfl bP rfl eG w6 (aq 5))))))) (bw (cI (bf (ah bK (ah eV aw))))) cT) (λR kk=>?_);walk_at "vc"
  have la:(st++[Ce.obj (Oa ar [])])[st.length]?=some (.obj (Oa ar [])):=by
   rw[aa3 (aaZ _),abP];rfl
  rw[la];walk_at "vc";have kx:KX K ar/\PySem.W.hasDictIn K ar=true:=⟨⟨ic,ie,ig,ij,ik⟩,ip⟩;refine⟨ar,[],true,rfl,kx,Kh,cu ⟨ar,[],true,rfl,kx,Ki,cu (kk _ _ ?_)⟩⟩;clear kk R;refine aK (gL (FY.dt (AF (pq (uK rfl bP rfl lT (aq 5))) (AF (pq (uK rfl bP rfl lV (aq 5))) (y3 (pq (uK rfl bP rfl lU (aq 5))))))) (bw (cI (bf (ah bK (ah eV aw))))) cT) (λR kk=>?_);walk_at "vc";rw[la];walk_at "vc";refine⟨ar,[],false,rfl,kx,Kj,cu ⟨ar,[],false,rfl,kx,Kk,cu ⟨ar,[],false,rfl,kx,Kl,cu (kk _ _ ?_)⟩⟩⟩;clear kk R;refine jI (cI (bf (ah bK (ah eV aw)))) ?_;walk_at "vc";unfold lK at q;rw[hn]at q;exact q
 have run:∀(wt:Bool) (jn:Nat) (p:Pt),j=(jn:Int)->ps[jn]?=some p->(p.takes++[p.gives]).all bC=true->ws.length=p.takes.length->way < 2->(ws.length<=p.boxes/\p.boxes<=8)/\∃n p2,si K wt n (cB cC ps jn p ws bud) p2/\p2.said.length<=900000/\R [some (.dat (wW cC ps)),some (.dat (.int j)),some (.dat (.list (ws.map PyData.int))),some (.dat (.int bud)),some (.dat (.int (way:Int))),some (.dat .none),some (.dat (sY p2)),none] []:=by
  intro wt jn p ej hpj hd hl h2;have P:=hp p (List.mem_of_getElem? hpj);have ed:dm ps j ws.length=some p:=iL.mpr ⟨by omega,by rw[ej,Int.toNat_natCast];exact hpj,hd,hl⟩;obtain⟨n,p2,hr,hs,ht⟩:=VD (K:=K) (wt:=wt) (ws:=ws) (bud:=bud) P hpj hd;refine⟨⟨by rw[hl];exact P.bx.1,P.bx.2⟩,n,p2,hr,hs,okV _ _ ?_⟩;rw[ht];unfold lK at q;rw[ed]at q;have q:∀(v:V) (H':Hp),aA H H'->aS K PP H' v (.tuple [.str "told",if way < 2 then .tuple [oy p,.list [],.int bud]else .list [MB (decide (way=3)) ⟨j.toNat,0,ws.map Vl.num++List.replicate (p.boxes - ws.length) .none,[]⟩]])->Q v H':=q;rw[if_pos h2]at q;exact q
 have frm:∀(wt:Bool) (C:Addr) (jn:Nat) (p:Pt),j=(jn:Int)->ps[jn]?=some p->(p.takes++[p.gives]).all bC=true->ws.length=p.takes.length->¬ way < 2->wt=decide (way=3)->(ws.length<=p.boxes/\p.boxes<=8)/\vT af C wt 0 [.obj (Vx af C wt (cB cC ps jn p ws bud))] λv rN=>R [some (.dat (wW cC ps)),some (.dat (.int j)),some (.dat (.list (ws.map PyData.int))),some (.dat (.int bud)),some (.dat (.int (way:Int))),some (.dat .none),some v,none] rN:=by
  intro wt C jn p ej hpj hd hl h2 ew;have P:=hp p (List.mem_of_getElem? hpj);have ed:dm ps j ws.length=some p:=iL.mpr ⟨by omega,by rw[ej,Int.toNat_natCast];exact hpj,hd,hl⟩;refine⟨⟨by rw[hl];exact P.bx.1,P.bx.2⟩,_,rfl,by show 1<=100;decide,okV _ _ ?_⟩;unfold lK at q;rw[ed]at q;have q:∀(v:V) (H':Hp),aA H H'->aS K PP H' v (.tuple [.str "told",if way < 2 then .tuple [oy p,.list [],.int bud]else .list [MB (decide (way=3)) ⟨j.toNat,0,ws.map Vl.num++List.replicate (p.boxes - ws.length) .none,[]⟩]])->Q v H':=q;rw[if_neg h2,← ew,ej,Int.toNat_natCast]at q;exact q
 have no:¬ js ps j ws.length->dm ps j ws.length=none:=λn=>by
  cases e:dm ps j ws.length with
  | none=>rfl
  | some p=>exact absurd ⟨p,iL.mp e⟩ n
 have OL:∀p∈ps,p.takes.length<=100:=λp h=>abj (hp p h).l4 (by decide)
 have m8:cC.length<=8:=by decide
 refine kZ (λe=>?_) λe=>kZ (λe1=>?_) λe1=>kZ (λe2=>?_) λe2=>?_
 ·exact⟨j,bud,cC,ps,ws,rfl,m8,h8,OL,λjn p a b c d=>run false jn p a b c d (by omega),λn=>⟨Bq,noV (no n) []⟩⟩
 ·exact⟨j,bud,cC,ps,ws,rfl,m8,h8,OL,λjn p a b c d=>run true jn p a b c d (by omega),λn=>⟨Bq,noV (no n) []⟩⟩
 ·exact⟨cC,ps,j,ws,bud,rfl,⟨m8,h8,OL⟩,λjn p a b c d=>frm false au jn p a b c d (by omega) (by rw[aa9 (by omega)]),λn=>⟨Bq,noV (no n) []⟩⟩
 ·exact⟨cC,ps,j,ws,bud,rfl,⟨m8,h8,OL⟩,λjn p a b c d=>frm true ak jn p a b c d (by omega) (by rw[abh (by omega)]),λn=>⟨Bq,noV (no n) []⟩⟩
theorem cP:aB ["_law_parts","_law_part_here","_law_inputs","_law_budget","_law_takes","_law_gives","_law_boxes","_law_height","_law_rows","_law_stretches"] ["_law_parts","_law_part_here","_law_inputs","_law_budget"] (dS rY):=by walk_at "sc"
theorem Br{f:Addr}{fd:FuncData}(F:eO K "_law_due" "_law_due" rY f fd)(Bs:mg "int"=none)(bI:mg "len"=none){af:Addr}(aj:ai K af):bh P w K mg base aU 1 f fd ["_law_parts","_law_part_here","_law_inputs","_law_budget"] (j2 K):=by
 refine F.ok cP (λvs H Q E h=>?_) (λcdv A outer s H vs Q E hr h=>?_)
 ·obtain⟨PP,ds,hP,hv,ps,j,bud,ws,rfl,hp,q⟩:=h;exact hv.1
 obtain⟨PP,ds,hP,hv,ps,j,bud,ws,rfl,hp,q⟩:=h;refine gM hP hv ?_;show Gg _ _ _ _ [some _,some _,some _,some _,none,none,none,none,none,none] [];clear hP hv;refine aK (gL (FY.dt (AF (Qv (aq 1) aJ) (y3 (U7 (aq 1) (iR rfl bI (ah (aq 0) aw)))))) (bw (cI eV)) cT) (λR kk=>?_);walk_at "vc"
 have no:dm ps j ws.length=none->∀(v:V) (H':Hp),aA H H'->aS K PP H' v .none->Q v H':=λe=>by
  unfold Ba at q;rw[e]at q;exact q
 refine kZ (λh0=>dY (no (by unfold dm;rw[if_neg (by omega)]))) λh0=>?_
 rw[aab];refine kZ (λh1=>no ?_) λh1=>?_
 ·unfold dm;rw[if_pos (by omega),List.getElem?_eq_none (by omega)];rfl
 obtain⟨jn,rfl⟩:∃n:Nat,j=(n:Int):=⟨j.toNat,by omega⟩;have hpj:ps[jn]?=some (ps[jn]'(by omega)):=dN (by omega);generalize ps[jn]'(by omega)=p at hpj;have P:=hp p (abd hpj);refine kk _ _ ?_;clear kk R;refine aK (RZ (vx (aq 0) (aq 1) (λ_ _=>rfl)) (RT (m:=6) rfl (jm (jH (i:=4) cP.nd rfl (aaW rfl)) (jm (jH (i:=5) cP.nd rfl (aaW rfl)) (jm (jH (i:=6) cP.nd rfl (aaW rfl)) (jm (jH (i:=7) cP.nd rfl (aaW rfl)) (jm (jH (i:=8) cP.nd rfl (aaW rfl)) (jm (jH (i:=9) cP.nd rfl (aaW rfl)) N4)))))))) (λR kk=>?_);walk_at "vc";refine⟨_,uJ hpj,?_⟩;walk_at "vc";rw[show r6 p=PyData.tuple [.list (df p.takes),.tuple (oG p.gives),.int (p.boxes:Int),.int (p.height:Int),.list (p.rows.map Gp),.list (p.spans.map JK)]from rfl];walk_at "vc";refine⟨rfl,kk _ _ ?_⟩;clear kk R;refine aK (gL (FY.dt (AF (xX (hr.units) (QB 1 ["_law_kind_here"] [] ⟨rfl,rfl,rfl,rfl,rfl,rfl,rfl,rfl⟩ (Jn (gK (aq 4) (da (ah (aq 5) aw)))) (λ_ _ _ _=>(bU (i:=0) (show List.Nodup (["_law_kind_here"]:List Str)by decide +kernel) rfl (aaW rfl))) (y6 (i:=0)) (Gd (by decide)) (λ_ _ _ _=>⟨(RU (xX (hr.units) (aq 0) (bf (ah bK aw)))),(aq 0)⟩)) (da aw)) (y3 (xX (hr.units) (iR rfl bI (ah (aq 4) aw)) (iR rfl bI (ah (aq 2) aw)))))) (bw (cI eV)) cT) (λR kk=>?_);walk_at "vc";have ek:df p.takes++[PyData.tuple (oG p.gives)]=(p.takes++[p.gives]).map λk=>PyData.tuple (oG k):=by rw[aba];rfl
 have l4:=P.l4;have lk:(df p.takes).length=p.takes.length:=aab _;rw[ek];refine⟨by omega,?_⟩;refine Jr (λi ys=>ys=(((p.takes++[p.gives]).take i).filter λk=>!bC k).map λk=>PyData.tuple (oG k)) (by rw[aab,abu];show _ + 1<=_;omega) rfl ?_ ?_
 ·intro i ys d hd hy;rw[aa1]at hd
  cases hk:(p.takes++[p.gives])[i]? with
  | none=>rw[hk]at hd;cases hd
  | some k =>
   rw[hk]at hd;cases hd;walk_at "vc";refine⟨rfl,⟨De _,by decide +kernel⟩,rfl,?_⟩;rw[A9,hy,List.take_add_one,hk,List.filter_append]
   cases e:bC k with
   | true =>
    refine cu ?_;show _=List.map _ (_++List.filter _ [k]);rw[List.filter_cons_of_neg (by rw[e];decide),List.filter_nil,abV]
   | false =>
    refine dY ⟨rfl,?_⟩;show _=List.map _ (_++List.filter _ [k]);rw[List.filter_cons_of_pos (by rw[e];decide),List.filter_nil,aba];rfl
 intro ys hy;rw[aab,List.take_length]at hy;subst hy;walk_at "vc";have sh:∀l:List Kd,PySem.SeqAt.shaped (.list (l.map λk=>PyData.tuple (oG k)))=true:=λl=>(za (n:=2) (Jy λk _=>⟨(JL k).1,abj (JL k).2 (by decide)⟩)).ok
 refine⟨⟨sh _,rfl⟩,?_⟩
 have dn:dm ps (jn:Int) ws.length=if (p.takes++[p.gives]).all bC=true/\ws.length=p.takes.length then some p else none:=by
  unfold dm;rw[if_pos (by omega),Int.toNat_natCast,hpj];rfl
 cases hf:(p.takes++[p.gives]).filter λk=>!bC k with
 | cons k r =>
  refine dY (dY (no ?_));rw[dn,aa4];rintro⟨ha,_⟩;have hk:k∈(p.takes++[p.gives]).filter λk=>!bC k:=by rw[hf];exact abD
  obtain⟨h1,h2⟩:=List.mem_filter.mp hk;rw[abI.mp ha k h1]at h2;cases h2
 | nil =>
  refine cu ?_
  have ha:(p.takes++[p.gives]).all bC=true:=abI.mpr λk hk=>by
   cases e:bC k with
   | true=>rfl
   | false =>
    have:k∈(p.takes++[p.gives]).filter λk=>!bC k:=List.mem_filter.mpr ⟨hk,by rw[e];rfl⟩
    rw[hf]at this;cases this
  rw[lk,aab];by_cases hl:(p.takes.length:Int)=(ws.length:Int);rotate_left
  ·refine Rh hl (no ?_);rw[dn,aa4];rintro⟨_,z⟩;exact hl (by omega)
  refine Rg hl (kk _ _ ?_);clear kk R;have ed:dm ps (jn:Int) ws.length=some p:=by rw[dn,aa7 ⟨ha,by omega⟩]
  unfold Ba at q;rw[ed]at q;have q:∀(v:V) (H':Hp),aA H H'->aS K PP H' v (.tuple [oy p,.list [],.int bud])->Q v H':=q;refine jI (cI (bf (ah (vx (da (ah (bf (ah bK (ah (gO (n:=1) (gO (n:=0) (aq 8))) aw))) (ah (bf (ah bK (ah (gO (n:=1) (gO (n:=0) (aq 8))) aw))) aw))) (Jk rfl Bs (ah (Qu (hr.units) (gO (n:=0) (gO (n:=1) (aq 8))) bK) aw)) (λ_ _=>rfl)) (ah (da aw) (ah (aq 3) aw))))) ?_;obtain⟨w,hw,e | e⟩:=P.rw
  ·rw[vY e]at q;rw[e,show List.map Gp [Rw.push w,Rw.bare "toss"]=[.tuple [.str "push",.int w],.tuple [.str "toss"]]from rfl];walk_at "vc";rw[aa9 (show ¬ ("toss" : Str)="give" by decide +kernel)];exact⟨_,rfl,q⟩
  ·rw[vZ e]at q;rw[e,show List.map Gp [Rw.push w,Rw.bare "give"]=[.tuple [.str "push",.int w],.tuple [.str "give"]]from rfl];walk_at "vc";rw[abh (show("give" : Str)="give" from rfl)];exact⟨_,rfl,q⟩
theorem lW:aB ["_law_parts","_law_part_here","_law_inputs","_law_watched","_law_empty"] ["_law_parts","_law_part_here","_law_inputs","_law_watched"] (dS jP):=by walk_at "sc"
theorem wo{f:Addr}{fd:FuncData}(F:eO K "_law_frames" "_law_frames" jP f fd)(bI:mg "len"=none)(gA:mg "tuple"=none){af:Addr}(aj:ai K af):bh P w K mg base aU 1 f fd ["_law_parts","_law_part_here","_law_inputs","_law_watched"] (fv K):=by
 refine F.ok lW (λvs H Q E h=>?_) (λcdv A outer s H vs Q E hr h=>?_)
 ·obtain⟨PP,ds,hP,hv,ps,j,p,ws,wt,rfl,hp,hb,YJ,q⟩:=h;exact hv.1
 obtain⟨PP,ds,hP,hv,ps,j,p,ws,wt,rfl,hp,hb,YJ,q⟩:=h;refine gM hP hv ?_;show Gg _ _ _ _ [some _,some _,some _,some _,none] [];clear hP hv;refine aK (bV (i:=4) lW.nd rfl (aaW rfl) (IX (gO (n:=2) (vx (aq 0) (aq 1) (λ_ _=>rfl))) (iR rfl bI (ah (aq 2) aw)))) (λR kk=>?_);walk_at "vc";refine⟨_,uJ hp,?_⟩;walk_at "vc";rw[aab];refine kk _ _ ?_;clear kk R;refine aK (gL (pq (aq 3)) (bw (cI (da (ah (bf (ah (aq 1) (ah aJ (ah (AL rfl gA (ah (gK (QB 1 ["_law_word_here"] [] ⟨rfl,rfl,rfl,rfl,rfl,rfl,rfl,rfl⟩ (Jn (aq 2)) (λ_ _ _ _=>(bU (i:=0) (show List.Nodup (["_law_word_here"]:List Str)by decide +kernel) rfl (aaW rfl))) (y6 (i:=0)) (Gd (by decide)) (λ_ _ _ _=>⟨vB,(bf (ah bK (ah (aq 0) aw)))⟩)) (Fe (da (ah eV aw)) (aq 4))) aw)) (ah (bf aw) aw))))) aw)))) cT) (λR kk=>?_);walk_at "vc";have et:((p.boxes:Int) - (ws.length:Int)).toNat=p.boxes - ws.length:=by omega
 rw[et]
 cases wt with
 | true =>
  refine dY ?_;refine Vy ws PyData.int (λw=>.tuple [.str "number",.int w]) rfl (by omega) ?_ ?_
  ·intro i w hw W N hW;walk_at "vc";rw[aa7 rfl];exact⟨rfl,rfl,rfl,hW⟩
  walk_at "vc";refine⟨by omega,by omega,by omega,?_,?_⟩
  ·rw[oq,aab,ac4];omega
  have e:MB true ⟨j,0,ws.map Vl.num++List.replicate (p.boxes - ws.length) .none,[]⟩=.tuple [.int (j:Int),.int 0,.tuple (ws.map (λw=>.tuple [.str "number",.int w])++(List.replicate (p.boxes - ws.length) [PyData.none]).flatten),.tuple []]:=by
   show PyData.tuple [.int (j:Int),.int ((0:Nat):Int),.tuple ((ws.map Vl.num++List.replicate (p.boxes - ws.length) Vl.none).map (QI true)),.tuple []]=_;rw[aba,acH,List.map_replicate,oq];rfl
  rw[e]at q;exact q
 | false =>
  refine cu (kk _ _ ?_);clear kk R;refine jI (cI (da (ah (bf (ah (aq 1) (ah aJ (ah (AL rfl gA (ah (gK (aq 2) (Fe (da (ah aJ aw)) (aq 4))) aw)) (ah (bf aw) aw))))) aw))) ?_;walk_at "vc";rw[et];refine⟨by omega,by omega,by omega,?_,?_⟩
  ·rw[oq,aab,ac4];omega
  have e:MB false ⟨j,0,ws.map Vl.num++List.replicate (p.boxes - ws.length) .none,[]⟩=.tuple [.int (j:Int),.int 0,.tuple (ws.map PyData.int++(List.replicate (p.boxes - ws.length) [PyData.int 0]).flatten),.tuple []]:=by
   show PyData.tuple [.int (j:Int),.int ((0:Nat):Int),.tuple ((ws.map Vl.num++List.replicate (p.boxes - ws.length) Vl.none).map (QI false)),.tuple []]=_;rw[aba,acH,List.map_replicate,oq];rfl
  rw[e]at q;exact q
theorem fA:aB ["_law_book","_law_part_here","_law_inputs","_law_budget","_law_due_here","_law_way","_law_found"] ["_law_book","_law_part_here","_law_inputs","_law_budget"] (dS lB):=by walk_at "sc"
theorem xq{f:Addr}{fd:FuncData}(F:eO K "_law_right" "_law_right" lB f fd)(cO:mg "list"=none)(cU:mg "range"=none){af:Addr}(aj:ai K af)(zE:c9 P w K mg base aU "_law_asked" 10 ["_law_book","_law_part_here","_law_inputs","_law_budget","_law_way"] (gw K))(DF:c9 P w K mg base aU "_law_due" 1 ["_law_parts","_law_part_here","_law_inputs","_law_budget"] (j2 K))(xr:c9 P w K mg base aU "_law_frames" 1 ["_law_parts","_law_part_here","_law_inputs","_law_watched"] (fv K)):bh P w K mg base aU 11 f fd ["_law_book","_law_part_here","_law_inputs","_law_budget"] (gx K):=by
 refine F.ok fA (λvs H Q E h=>?_) (λcdv A outer s H vs Q E hr h=>?_)
 ·obtain⟨PP,ds,hP,hv,ps,j,bud,ws,rfl,h8,hp,hws,q⟩:=h;exact hv.1
 obtain⟨PP,ds,hP,hv,ps,j,bud,ws,rfl,h8,hp,hws,q⟩:=h;refine gM hP hv ?_;show Gg _ _ _ _ [some _,some _,some _,some _,none,none,none] [];clear hP hv;refine aK (bV (i:=4) fA.nd rfl (aaW rfl) (bO DF Dt Ds (hr.mono (by decide)) rfl (ah (gO (n:=1) (aq 0)) (ah (aq 1) (ah (aq 2) (ah (aq 3) aw)))))) (λR kk=>?_);rw[show wW cC ps=.tuple [JH cC,.list (ps.map r6)]from rfl];walk_at "vc";refine⟨ps,j,bud,ws,rfl,hp,kk _ _ ?_⟩;clear kk R;refine aK (R0 abG rfl (jl rfl cU (ah aJ aw)) (jH (i:=5) fA.nd rfl (aaW rfl)) (Ju (bV (i:=6) fA.nd rfl (aaW rfl) (bO zE zm zl (hr.mono (by decide)) rfl (ah (aq 0) (ah (aq 1) (ah (NY rfl cO (ah (aq 2) aw)) (ah (aq 3) (ah (aq 5) aw)))))))
   (bw (gL (C3 (aq 4) eV) (bw (gL (xX (hr.units) (aq 6) (bf (ah bK (ah eV aw)))) (bw (cI Ax)) cT)) (bw (gL (Qv (aq 5) aJ) (bw (gL (xX (hr.units) (aq 6) (bf (ah bK (ah (aq 4) aw)))) (bw (cI Ax)) cT)) (bw (gL (xX (hr.units) (aq 6) (bf (ah bK (ah (bO xr xg xf (hr.mono (by decide)) rfl (ah (gO (n:=1) (aq 0)) (ah (aq 1) (ah (aq 2) (ah (Qu (hr.units) (aq 5) aJ) aw))))) aw)))) (bw (cI Ax)) cT)))))))) (λR kk=>?_)
 walk_at "vc";refine⟨by decide,?_⟩;refine N8 (λi env st=>∃(o5 o6:Option DV),env=[some (.dat (.tuple [JH cC,.list (ps.map r6)])),some (.dat (.int j)),some (.dat (.list (ws.map PyData.int))),some (.dat (.int bud)),some (.dat (Ba ps j ws.length bud)),o5,o6]/\st=[]) ⟨_,_,rfl,rfl⟩ (λ_ _ _ _=>trivial) ?_ ?_
 ·rintro i env st d hd ⟨o5,o6,rfl,rfl⟩;obtain⟨hi,rfl⟩:=n9 hd;have hi:i < 4:=hi;walk_at "vc";refine⟨ps,j,bud,ws,i,by rw[Int.zero_add];rfl,hi,h8,hp,hws,?_⟩
  cases ed:dm ps j ws.length with
  | none =>
   have e1:Ba ps j ws.length bud=.none:=by unfold Ba;rw[ed]
   have e2:lK ps j ws bud i=.tuple [.str "refused",.none]:=by unfold lK;rw[ed]
   rw[e1,e2];walk_at "vc";refine dY ⟨⟨by decide +kernel,by decide +kernel⟩,?_⟩;rw[show PyData.eqv (.tuple [.str "refused",.none]) (.tuple [.str "refused",.none])=true by decide +kernel];exact cu ⟨_,_,rfl,rfl⟩
  | some p =>
   have e1:Ba ps j ws.length bud=.tuple [oy p,.list [],.int bud]:=by unfold Ba;rw[ed]
   have e2:lK ps j ws bud i=.tuple [.str "told",if i < 2 then .tuple [oy p,.list [],.int bud]else .list [MB (decide (i=3)) ⟨j.toNat,0,ws.map Vl.num++List.replicate (p.boxes - ws.length) .none,[]⟩]]:=by unfold lK;rw[ed]
   rw[e1,e2];walk_at "vc";refine cu ?_;obtain⟨d0,dj,dd,dl⟩:=iL.mp ed;have P:=hp p (abd dj);obtain⟨w,hw,er⟩:=P.rw
   have she:Sh 1 (oy p):=by
    rcases er with er | er
    ·rw[vY er];exact iS (bH rT (bH lh gP))
    ·rw[vZ er];exact iS (bH rT (bH lh gP))
   have shv:∀(b:Bool) (x:Vl),Sh 1 (QI b x):=λb x=>by
    cases b with
    | false=>exact lh
    | true =>
     cases x with
     | none=>exact R3
     | num n=>exact iS (bH rT (bH lh gP))
     | rcd n=>exact iS (bH rT (bH lh gP))
   refine kZ (λh2=>?_) λh2=>?_
   ·have h2:i < 2:=by omega
    rw[aa7 h2];have sh:Sh 3 (.tuple [.str "told",.tuple [oy p,.list [],.int bud]]):=iS (bH rT (bH (iS (bH she (bH (za gP) (bH lh gP)))) gP));refine⟨⟨sh.ok,sh.ok⟩,?_⟩;rw[sh.self];exact cu ⟨_,_,rfl,rfl⟩
   ·have h2:¬ i < 2:=by omega
    rw[aa4 h2];refine⟨ps,j.toNat,p,ws,decide (i=3),?_,dj,by rw[dl];exact P.bx.1,P.bx.2,?_⟩
    ·rw[Int.toNat_of_nonneg d0]
     have e3:(decide (0 + (i:Int)=3))=decide (i=3):=by
      by_cases h:i=3
      ·rw[abh h,abh (by omega)]
      ·rw[aa9 h,aa9 (by omega)]
     rw[e3]
    have sh:Sh 5 (.tuple [.str "told",.list [MB (decide (i=3)) ⟨j.toNat,0,ws.map Vl.num++List.replicate (p.boxes - ws.length) .none,[]⟩]]):=iS (bH rT (bH (za (bH (iS (bH lh (bH lh (bH (iS (Jy λx _=>(shv _ x))) (bH (iS gP) gP))))) gP)) gP));walk_at "vc";refine⟨⟨sh.ok,sh.ok⟩,?_⟩;rw[sh.self];exact cu ⟨_,_,rfl,rfl⟩
 rintro env st ⟨o5,o6,rfl,rfl⟩;refine kk _ _ ?_;clear kk R;refine jI (cI Ax) ?_;walk_at "vc";exact q
theorem iq:aB ["_law_script","_law_parts","_law_book","_law_cell_here","_law_part_here","_law_many","_law_inputs","_law_budget","_law_other","_law_inner"] ["_law_script"] (dS qA):=by walk_at "sc"
theorem SD{f:Addr}{fd:FuncData}(F:eO K "law" "law" qA f fd)(bI:mg "len"=none)(v8:mg "max"=none)(cU:mg "range"=none){af:Addr}(aj:ai K af)(cy:c9 P w K mg base aU "_law_cell" 1 ["_law_script","_law_k"] (fF K))(Bt:c9 P w K mg base aU "_law_part" 2 ["_law_script","_law_k"] (iK K))(j8:c9 P w K mg base aU "_law_right" 11 ["_law_book","_law_part_here","_law_inputs","_law_budget"] (gx K))(iM:c9 P w K mg base aU "_law_word" 1 ["_law_cell_here"] (fG K)):bh P w K mg base aU 12 f fd ["_law_script"] (zo K):=by
 refine F.ok iq (λvs H Q E h=>?_) (λcdv A outer s H vs Q E hr h=>?_)
 ·obtain⟨a,ns,rfl,hS,h63,q⟩:=h;rfl
 obtain⟨a,ns,rfl,hS,h63,q0⟩:=h;have hv:dC (aS K (λ_=>False) H) [.ref a] [.list (ns.map PyData.int)]:=.cons (Jm (.lst hS (by simp) λi x d hx hd=>(AR (K:=K) (P:=λ_=>False) (H:=H) (ns:=ns)).2 i x d hx hd |>.now)) .nil;have q:∀v H',aA H H'->aS K (λ_=>False) H' v (.bool true)->Q v H':=λv H' _ r=>by rw[aS.xV r];exact q0 H'
 refine gM (P:=λ_=>False) (λ_ h=>h.elim) hv ?_;show Gg _ _ _ _ [some _,none,none,none,none,none,none,none,none,none] [];clear hv q0 hS;refine aK (oa AQ (i:=1) iq.nd rfl (aaW rfl) 1 ["_law_k","_law_script"] [0] ⟨rfl,rfl,rfl,rfl,rfl,rfl,rfl,rfl⟩ (jl rfl cU (ah (gK aJ (iQ (bO cy cN cM (hr.mono (by decide)) rfl (ah (aq 0) (ah aJ aw))) aJ)) aw)) (λ_ _ _ _=>(bU (i:=0) (show List.Nodup (["_law_k","_law_script"]:List Str)by decide +kernel) rfl (aaW rfl))) (y6 (i:=0)) (Gd (by decide)) (λ_ _ _ _=>⟨vB,(bO Bt A7 A6 (hr.mono (by decide)) rfl (ah (aq 1) (ah (aq 0) aw)))⟩)) (λR kk=>?_);walk_at "vc";refine⟨ns,0,rfl,by decide,by decide,λc0=>?_⟩;walk_at "vc";obtain⟨m,em,hm⟩:=Dp c0 (m:=8) (n:=8) rfl (by decide);rw[em];refine⟨by decide,⟨by omega,by omega⟩,?_⟩;refine Fo Gv r6 (by rw[fC];omega) ?_ ?_
 ·intro i d hd W N hW;obtain⟨hi,rfl⟩:=n9 hd;walk_at "vc";rw[aa7 rfl];walk_at "vc";exact⟨rfl,rfl,ns,i,by rw[Int.zero_add],by omega,λp hp=>⟨rfl,hW p hp⟩⟩
 intro ps lp hp;rw[fC]at lp;have h8:ps.length<=8:=by omega
 have h0:0 < ps.length:=by omega
 walk_at "vc";refine kk _ _ ?_;clear kk R;refine aK (bV (i:=2) iq.nd rfl (aaW rfl) (bf (ah (da (ah (bf (ah eV (ah (da aw) aw))) (ah (bf (ah aJ (ah (da (ah (bf (ah bK aw)) aw)) aw))) (ah (bf (ah aJ (ah (da aw) aw))) aw)))) (ah (aq 1) aw)))) (λR kk=>?_);walk_at "vc";refine kk _ _ ?_;clear kk R;refine aK (bV (i:=3) iq.nd rfl (aaW rfl) (bO cy cN cM (hr.mono (by decide)) rfl (ah (aq 0) (ah aJ aw)))) (λR kk=>?_);walk_at "vc";refine⟨ns,1,rfl,by decide,by decide,λc1=>?_⟩;walk_at "vc";refine kk _ _ ?_;clear kk R;refine aK (bV (i:=4) iq.nd rfl (aaW rfl) (IX (iQ (aq 3) (gK (iR rfl bI (ah (aq 1) aw)) aJ)) aJ)) (λR kk=>?_);walk_at "vc";rw[aab];obtain⟨j,ej⟩:∃j:Int,j=c1 % ((ps.length:Int) + 5) - 3:=⟨_,rfl⟩;rw[← ej];refine⟨by omega,kk _ _ ?_⟩;clear kk R;refine aK (bV (i:=5) iq.nd rfl (aaW rfl) aJ) (λR kk=>?_);walk_at "vc";refine kk _ _ ?_;clear kk R;refine aK (gL (Jw EA xG (Az λ_ _ _=>.bl _) (Az λ_ _ _=>.bl _) aJ (aq 4) (iR rfl bI (ah (aq 1) aw))) (bw (bV (i:=5) iq.nd rfl (aaW rfl) (RO rfl rfl v8 (ah aJ (ah (gK (iR rfl bI (ah (gO (n:=0) (vx (aq 1) (aq 4) (λ_ _=>rfl))) aw)) (vx (da (ah aJ (ah aJ (ah aJ (ah aJ (ah aJ (ah aJ (ah (IZ aJ) (ah (IZ aJ) aw))))))))) (iQ (n6 (aq 3) aJ) aJ) (λ_ _=>rfl))) aw))))) cT) (λR kk=>?_);walk_at "vc"
 have fin:∀m:Nat,m<=10->R [some (.dat (.list (ns.map PyData.int))),some (.dat (.list (ps.map r6))),some (.dat (wW cC ps)),some (.dat (.int c1)),some (.dat (.int j)),some (.dat (.int (m:Int))),none,none,none,none] []:=by
  intro m hm;refine kk _ _ ?_;clear kk R;refine aK (oa AQ (i:=6) iq.nd rfl (aaW rfl) 1 ["_law_k","_law_script"] [0] ⟨rfl,rfl,rfl,rfl,rfl,rfl,rfl,rfl⟩ (jl rfl cU (ah (aq 5) aw)) (λ_ _ _ _=>(bU (i:=0) (show List.Nodup (["_law_k","_law_script"]:List Str)by decide +kernel) rfl (aaW rfl))) (y6 (i:=0)) (Gd (by decide)) (λ_ _ _ _=>⟨vB,(bO iM lG lE (hr.mono (by decide)) rfl (ah (bO cy cN cM (hr.mono (by decide)) rfl (ah (aq 1) (ah (gK aJ (aq 0)) aw))) aw))⟩)) (λR kk=>?_);walk_at "vc";refine⟨⟨by omega,by omega⟩,?_⟩;refine Fo Se PyData.int (by rw[fC];omega) ?_ ?_
  ·intro i d hd W N hW;obtain⟨hi,rfl⟩:=n9 hd;walk_at "vc";rw[aa7 rfl];walk_at "vc";exact⟨rfl,rfl,ns,_,rfl,by omega,by omega,λc=>⟨_,rfl,λn hn=>⟨rfl,hW n hn⟩⟩⟩
  intro ws lw hws;walk_at "vc";refine kk _ _ ?_;clear kk R;refine aK (bV (i:=7) iq.nd rfl (aaW rfl) (iQ (bO cy cN cM (hr.mono (by decide)) rfl (ah (aq 0) (ah aJ aw))) aJ)) (λR kk=>?_);walk_at "vc";refine⟨ns,2,rfl,by decide,by decide,λc2=>?_⟩;walk_at "vc";refine⟨by decide,kk _ _ ?_⟩;clear kk R;generalize c2 % 10001=bud;refine aK (gL (C4 (pq (bO j8 j5 j4 (hr.mono (by decide)) rfl (ah (aq 2) (ah (aq 4) (ah (aq 6) (ah (aq 7) aw))))))) (bw (cI Ax)) cT) (λR kk=>?_);walk_at "vc";refine⟨ps,j,bud,ws,rfl,h8,hp,hws,?_⟩;refine cu (kk _ _ ?_);clear kk R;refine aK (bV (i:=8) iq.nd rfl (aaW rfl) (iQ (bO cy cN cM (hr.mono (by decide)) rfl (ah (aq 0) (ah aJ aw))) (iR rfl bI (ah (aq 1) aw)))) (λR kk=>?_);walk_at "vc";refine⟨ns,3,rfl,by decide,by decide,λc3=>?_⟩;walk_at "vc";rw[aab];obtain⟨o,eo,ho⟩:=Dp c3 (n:=ps.length) rfl h0;rw[eo];refine⟨by omega,kk _ _ ?_⟩;clear kk R;have hpo:ps[o]?=some ps[o]:=dN ho;have P:=hp ps[o] (ach ho);generalize ps[o]=p at hpo P;have l4:=P.l4;refine aK (oa AQ (i:=9) iq.nd rfl (aaW rfl) 1 ["_law_k","_law_script"] [0] ⟨rfl,rfl,rfl,rfl,rfl,rfl,rfl,rfl⟩ (jl rfl cU (ah (iR rfl bI (ah (gO (n:=0) (vx (aq 1) (aq 8) (λ_ _=>rfl))) aw)) aw)) (λ_ _ _ _=>(bU (i:=0) (show List.Nodup (["_law_k","_law_script"]:List Str)by decide +kernel) rfl (aaW rfl))) (y6 (i:=0)) (Gd (by decide)) (λ_ _ _ _=>⟨vB,(bO iM lG lE (hr.mono (by decide)) rfl (ah (bO cy cN cM (hr.mono (by decide)) rfl (ah (aq 1) (ah (gK aJ (aq 0)) aw))) aw))⟩)) (λR kk=>?_);walk_at "vc";refine⟨_,uJ hpo,?_⟩;rw[show r6 p=PyData.tuple [.list (df p.takes),.tuple (oG p.gives),.int (p.boxes:Int),.int (p.height:Int),.list (p.rows.map Gp),.list (p.spans.map JK)]from rfl];walk_at "vc";rw[show(df p.takes).length=p.takes.length from aab _];refine⟨⟨by omega,by omega⟩,?_⟩;refine Fo Se PyData.int (by rw[fC];omega) ?_ ?_
  ·intro i d hd W N hW;obtain⟨hi,rfl⟩:=n9 hd;walk_at "vc";rw[aa7 rfl];walk_at "vc";exact⟨rfl,rfl,ns,_,rfl,by omega,by omega,λc=>⟨_,rfl,λn hn=>⟨rfl,hW n hn⟩⟩⟩
  intro us lu hus;walk_at "vc";refine kk _ _ ?_;clear kk R;refine jI (cI (NW (bO j8 j5 j4 (hr.mono (by decide)) rfl (ah (aq 2) (ah (aq 8) (ah (aq 9) (ah (aq 7) aw))))) (RL (bO j8 j5 j4 (hr.mono (by decide)) rfl (ah (aq 2) (ah (aq 4) (ah (aq 6) (ah (aq 7) aw)))))))) ?_;walk_at "vc";exact⟨ps,o,bud,us,rfl,h8,hp,hus,dY ⟨ps,j,bud,ws,rfl,h8,hp,hws,q⟩⟩
 refine kZ (λj0=>?_) λj0=>?_
 ·rw[aab];refine kZ (λj1=>?_) λj1=>?_
  ·obtain⟨jn,rfl⟩:∃n:Nat,j=(n:Int):=⟨j.toNat,by omega⟩;have hpo:ps[jn]?=some (ps[jn]'(by omega)):=dN (by omega);have P:=hp _ (abd hpo);generalize ps[jn]'(by omega)=p at hpo P;have l4:=P.l4;refine⟨_,uJ hpo,?_⟩;rw[show r6 p=PyData.tuple [.list (df p.takes),.tuple (oG p.gives),.int (p.boxes:Int),.int (p.height:Int),.list (p.rows.map Gp),.list (p.spans.map JK)]from rfl];walk_at "vc";rw[show(df p.takes).length=p.takes.length from aab _];obtain⟨x,ex,hx⟩:=Dp (c1 / 13) (m:=8) (n:=8) rfl (by decide);rw[ex]
   have go:∀y:Int,-2<=y->y<=2->R [some (.dat (.list (ns.map PyData.int))),some (.dat (.list (ps.map r6))),some (.dat (wW cC ps)),some (.dat (.int c1)),some (.dat (.int (jn:Int))),some (.dat (.int (if (p.takes.length:Int) + y > 0 then(p.takes.length:Int) + y else 0))),none,none,none,none] []:=λy y1 y2=>by
    have e:(if (p.takes.length:Int) + y > 0 then(p.takes.length:Int) + y else 0)=(((p.takes.length:Int) + y).toNat:Int):=by split<;>omega
    rw[e];exact fin _ (by omega)
   refine⟨⟨by decide,by decide⟩,by decide,?_⟩
   match x,hx with
   | 0,_=>exact⟨_,rfl,go 0 (by decide) (by decide)⟩
   | 1,_=>exact⟨_,rfl,go 0 (by decide) (by decide)⟩
   | 2,_=>exact⟨_,rfl,go 0 (by decide) (by decide)⟩
   | 3,_=>exact⟨_,rfl,go 0 (by decide) (by decide)⟩
   | 4,_=>exact⟨_,rfl,go 1 (by decide) (by decide)⟩
   | 5,_=>exact⟨_,rfl,go 2 (by decide) (by decide)⟩
   | 6,_=>exact⟨_,rfl,go (-1) (by decide) (by decide)⟩
   | 7,_=>exact⟨_,rfl,go (-2) (by decide) (by decide)⟩
  ·exact fin 0 (by decide)
 ·exact fin 0 (by decide)
end
def eR(K:ay)(n:Str)(s:Stmt):Prop:=∃f fd,PySem.W.nsIn K mainGlobals n=some (some (.ref f))/\eO K n n s f fd
def jx(K:ay)(f:Addr)(n q:Str)(s:Stmt):Prop:=(∃fd,eO K n q s f fd)/\PySem.W.isFn K (.ref f)=true
theorem all_mk{l:PySem.W.OpenLaw}{w:World}{K:ay}{h:Heap}{mg:Str->Option Value}{fa f4 f5 f6 f8 f9 YR YS YT YU YV f17 f27 YW YX f34 f36 f37 YY YZ Y0 Y1:Addr}(X:K.In h)(G:h.Ns mainGlobals mg)(hfa:mg "law"=some (.ref fa))
  {Y2 VL:Option Addr} {Y3:Array (Option Value)} {Y4 VM VN VO SE VP:Value}
  {h7 ar ia ib bE:Addr}
  {GK:Nat}
  {pY pZ p5 lX lZ md me mf mh mi mj ml mn mq mr mv mw mx mB mC mD mE mF mG mH mI mJ mK mL mM mO mP mQ j9 kb kc ke kg kh ki kj kl bY:Addr} {wq wu wx wy tE tF tG tH tI tJ tK tL tM tN tO tP tQ tS tT tU tV tW tX tY tZ t4 t6 t7 t8 t9 ua ub uc ra rb rf rh rj rk rm rn rq rz:Tok}
  {sD:Addr} {yf yg yh:Tok}
  {OM:Nat}
  {j7:Addr} {Bu Bv Bw Bx By Bz BA BB BC yi yj yk ym yn yo yp yq yr yt yu:Tok}
  {iu:Addr} {mR mS mT mU mV:Tok}
  {i6:Addr} {oO oP oQ oR oS oT oU:Tok}
  {af:Addr} (wz:PySem.W.nsIn K mainGlobals "Frame"=some (some (.ref af)))
  (wA:PySem.W.plainGet K af Str.empty=true)
  (wB:PySem.W.hasDictIn K af=true)
  (wC:PySem.W.plainOver K af=true)
  (wD:PySem.W.findIn K (.ref af) "__setattr__"=some (some (.builtin "object.__setattr__")))
  (wF:PySem.W.makesIn K af=true)
  (wG:PySem.W.keepIn K (.ref af)=true)
  (i7:PySem.W.findIn K (.ref af) "part"=some none)
  (mW:PySem.W.findIn K (.ref af) "at"=some none)
  (iw:PySem.W.findIn K (.ref af) "boxes"=some none)
  (iy:PySem.W.findIn K (.ref af) "stack"=some none)
  (eH:PySem.W.findIn K (.ref af) "__init__"=some (some (.ref f34)))
  {au:Addr} (wH:PySem.W.nsIn K mainGlobals "Plain"=some (some (.ref au)))
  (wI:PySem.W.plainGet K au Str.empty=true)
  (wJ:PySem.W.hasDictIn K au=true)
  (wK:PySem.W.plainOver K au=true)
  (wL:PySem.W.findIn K (.ref au) "__setattr__"=some (some (.builtin "object.__setattr__")))
  (wM:PySem.W.makesIn K au=true)
  (wN:PySem.W.keepIn K (.ref au)=true)
  (i8:PySem.W.findIn K (.ref au) "book"=some none)
  (i9:PySem.W.findIn K (.ref au) "live"=some none)
  (fc:PySem.W.findIn K (.ref au) "records"=some none)
  (ja:PySem.W.findIn K (.ref au) "said"=some none)
  (jb:PySem.W.findIn K (.ref au) "left"=some none)
  (ko:PySem.W.findIn K (.ref au) "end"=some none)
  (jc:PySem.W.findIn K (.ref au) "bare"=some (some (.ref f4)))
  (fe:PySem.W.findIn K (.ref au) "do_give"=some (some (.ref f6)))
  (fP:PySem.W.findIn K (.ref au) "tagged"=some (some (.ref f8)))
  (cQ:PySem.W.findIn K (.ref au) "do_straight"=some (some (.ref YR)))
  (iz:PySem.W.findIn K (.ref au) "spend"=some (some (.ref YS)))
  (iA:PySem.W.findIn K (.ref au) "go_on"=some (some (.ref YT)))
  (iB:PySem.W.findIn K (.ref au) "fault"=some (some (.ref YU)))
  (fQ:PySem.W.findIn K (.ref au) "do_row"=some (some (.ref YV)))
  (fR:PySem.W.findIn K (.ref au) "looked"=some (some (.ref f17)))
  (jd:PySem.W.findIn K (.ref au) "step"=some (some (.ref YW)))
  (je:PySem.W.findIn K (.ref au) "told"=some (some (.ref YX)))
  (fh:PySem.W.findIn K (.ref au) "nothing"=some (some (.ref f36)))
  (dH:PySem.W.findIn K (.ref au) "add_frame"=some (some (.ref YY)))
  (eI:PySem.W.findIn K (.ref au) "__init__"=some (some (.ref YZ)))
  (fS:PySem.W.findIn K (.ref au) "frames"=some (some (.ref Y0)))
  {ak:Addr} (p6:PySem.W.nsIn K mainGlobals "Watched"=some (some (.ref ak)))
  (p7:PySem.W.plainGet K ak Str.empty=true)
  (p8:PySem.W.hasDictIn K ak=true)
  (p9:PySem.W.plainOver K ak=true)
  (qa:PySem.W.findIn K (.ref ak) "__setattr__"=some (some (.builtin "object.__setattr__")))
  (qb:PySem.W.makesIn K ak=true)
  (qc:PySem.W.keepIn K (.ref ak)=true)
  (fT:PySem.W.findIn K (.ref ak) "book"=some none)
  (fU:PySem.W.findIn K (.ref ak) "live"=some none)
  (dI:PySem.W.findIn K (.ref ak) "records"=some none)
  (fV:PySem.W.findIn K (.ref ak) "said"=some none)
  (fW:PySem.W.findIn K (.ref ak) "left"=some none)
  (iD:PySem.W.findIn K (.ref ak) "end"=some none)
  (fX:PySem.W.findIn K (.ref ak) "bare"=some (some (.ref f5)))
  (dJ:PySem.W.findIn K (.ref ak) "do_give"=some (some (.ref f6)))
  (eJ:PySem.W.findIn K (.ref ak) "tagged"=some (some (.ref f9)))
  (cE:PySem.W.findIn K (.ref ak) "do_straight"=some (some (.ref YR)))
  (fi:PySem.W.findIn K (.ref ak) "spend"=some (some (.ref YS)))
  (fj:PySem.W.findIn K (.ref ak) "go_on"=some (some (.ref YT)))
  (fk:PySem.W.findIn K (.ref ak) "fault"=some (some (.ref YU)))
  (eK:PySem.W.findIn K (.ref ak) "do_row"=some (some (.ref YV)))
  (eL:PySem.W.findIn K (.ref ak) "looked"=some (some (.ref f27)))
  (fY:PySem.W.findIn K (.ref ak) "step"=some (some (.ref YW)))
  (fZ:PySem.W.findIn K (.ref ak) "told"=some (some (.ref YX)))
  (dM:PySem.W.findIn K (.ref ak) "nothing"=some (some (.ref f37)))
  (cR:PySem.W.findIn K (.ref ak) "add_frame"=some (some (.ref YY)))
  (dq:PySem.W.findIn K (.ref ak) "__init__"=some (some (.ref YZ)))
  (eM:PySem.W.findIn K (.ref ak) "frames"=some (some (.ref Y0)))
  (d0:eR K "_law_cell" px)
  (d1:eR K "_law_kind" pz)
  (d2:eR K "_law_word" pA)
  (d3:eR K "_law_part" pB)
  (l4:jx K f4 "bare" "Plain.bare" jK)
  (l5:jx K f5 "bare" "Watched.bare" gQ)
  (l6:jx K f6 "do_give" "Plain.do_give" fN)
  (d7:eR K "taken" zc)
  (l8:jx K f8 "tagged" "Plain.tagged" gS)
  (l9:jx K f9 "tagged" "Watched.tagged" eW)
  (Y5:jx K YR "do_straight" "Plain.do_straight" dc)
  (Y6:eR K "catcher" rV)
  (Y7:eR K "caught_at" lj)
  (Y8:jx K YS "spend" "Plain.spend" iT)
  (Y9:jx K YT "go_on" "Plain.go_on" iU)
  (Za:jx K YU "fault" "Plain.fault" iV)
  (Zb:jx K YV "do_row" "Plain.do_row" gU)
  (Zc:jx K f17 "looked" "Plain.looked" gW)
  (Zd:eR K "elders_of" ll)
  (Ze:eR K "fields_of" lq)
  (Zf:eR K "full_mask" lr)
  (Zg:eR K "asked_of_records" dF)
  (Zh:eR K "asked" zd)
  (Zi:eR K "is_under" pC)
  (Zj:eR K "record_has_kind" eg)
  (Zk:eR K "has_kind" pD)
  (Zl:eR K "leaves" vE)
  (Zm:jx K f27 "looked" "Watched.looked" eX)
  (Zn:jx K YW "step" "Plain.step" jL)
  (Zo:jx K YX "told" "Plain.told" jM)
  (Zp:eR K "finished" pE)
  (Zq:eR K "is_door" rW)
  (Zr:eR K "check_door" jN)
  (Zs:eR K "copied" vF)
  (Zt:jx K f34 "__init__" "Frame.__init__" eY)
  (Zu:eR K "started" rX)
  (Zv:jx K f36 "nothing" "Plain.nothing" fO)
  (Zw:jx K f37 "nothing" "Watched.nothing" eh)
  (Zx:jx K YY "add_frame" "Plain.add_frame" ey)
  (Zy:jx K YZ "__init__" "Plain.__init__" eZ)
  (Zz:eR K "run" JG)
  (ZA:eR K "run_watched" iW)
  (ZC:eR K "frame_told" jO)
  (ZD:jx K Y0 "frames" "Plain.frames" gX)
  (ZE:eR K "_law_asked" lA)
  (ZF:eR K "_law_due" rY)
  (ZG:eR K "_law_frames" jP)
  (ZH:eR K "_law_right" lB)
  (ZI:PySem.W.nsIn K mainGlobals "law"=some (some (.ref Y1))) (ZJ:K.lookup Y1=some ⟨Y4,Y2,.func (PySem.W.fnOf "law" "law" (dA qA) (dB qA) (dS qA) .none VM VN VO VL SE VP),Y3⟩) (ZK:PySem.W.codeIn K SE "law"=true) (ZL:PySem.W.keepIn K (.ref Y1)=true)
  (lT:PySem.W.nsIn K mainGlobals "NoBook"=some (some (.ref h7)))
  (qW:PySem.W.ktsIn K h7 "BaseException"=true)
  (fK:PySem.W.nsIn K mainGlobals "NoDoor"=some (some (.ref ar)))
  (fL:PySem.W.excIn K ar yO "ValueError.__new__"=true)
  (jw:PySem.W.ktsIn K ar "BaseException"=true)
  (lU:PySem.W.nsIn K mainGlobals "NoPass"=some (some (.ref ia)))
  (qX:PySem.W.ktsIn K ia "BaseException"=true)
  (lV:PySem.W.nsIn K mainGlobals "NoTree"=some (some (.ref ib)))
  (qY:PySem.W.ktsIn K ib "BaseException"=true)
  (bR:PySem.W.nsIn K mainGlobals "WardenError"=some (some (.ref bE)))
  (fz:PySem.W.excIn K bE yO "ValueError.__new__"=true)
  (bS:PySem.W.ktsIn K bE "BaseException"=true)
  (Bq:PySem.W.mroIn K ar (.ref bE)=some true)
  (ic:PySem.W.findIn K (.ref ar) "__getattribute__"=some (some (.builtin "BaseException.__getattribute__")))
  (ie:PySem.W.findIn K (.ref ar) "__getattr__"=some none)
  (ig:PySem.W.findIn K (.ref ar) "__class__"=some (some (.builtin "object.__class__")))
  (ij:PySem.W.mroIn K ar (.type "BaseException")=some true)
  (ik:PySem.W.mroIn K ar (.type "object")=some true)
  (ip:PySem.W.hasDictIn K ar=true)
  (Kh:PySem.W.kitOne K (.ref ar) (.ref ar)=some true)
  (Ki:PySem.W.kitOne K (.ref ar) (.type "ValueError")=some true)
  (Kj:PySem.W.kitOne K (.ref ar) (.ref h7)=some false)
  (Kk:PySem.W.kitOne K (.ref ar) (.ref ib)=some false)
  (Kl:PySem.W.kitOne K (.ref ar) (.ref ia)=some false)
  (jv:PySem.W.nsIn K mainGlobals "ALWAYS"=some (some (.ref bY)))
  (kq:(bY == sysModules)=false)
  (kr:K.lookup bY=some {cls:=.type "dict",data:=.dict #[{hash:=PyData.keyHash w.params "push",key:=.str "push" wq,val:=.ref pY},{hash:=PyData.keyHash w.params "load",key:=.str "load" wu,val:=.ref pZ},{hash:=PyData.keyHash w.params "store",key:=.str "store" wx,val:=.ref lX},{hash:=PyData.keyHash w.params "dup",key:=.str "dup" tE,val:=.ref md},{hash:=PyData.keyHash w.params "swap",key:=.str "swap" tG,val:=.ref mh},{hash:=PyData.keyHash w.params "drop",key:=.str "drop" tJ,val:=.ref mj},{hash:=PyData.keyHash w.params "add",key:=.str "add" tL,val:=.ref mq},{hash:=PyData.keyHash w.params "sub",key:=.str "sub" tO,val:=.ref mw},{hash:=PyData.keyHash w.params "mul",key:=.str "mul" tS,val:=.ref mC},{hash:=PyData.keyHash w.params "div",key:=.str "div" tV,val:=.ref mF},{hash:=PyData.keyHash w.params "rem",key:=.str "rem" tY,val:=.ref mI},{hash:=PyData.keyHash w.params "less",key:=.str "less" t6,val:=.ref mL},{hash:=PyData.keyHash w.params "same",key:=.str "same" t9,val:=.ref mP},{hash:=PyData.keyHash w.params "jump",key:=.str "jump" uc,val:=.ref mQ},{hash:=PyData.keyHash w.params "zero",key:=.str "zero" ra,val:=.ref kb},{hash:=PyData.keyHash w.params "kin",key:=.str "kin" rf,val:=.ref ke},{hash:=PyData.keyHash w.params "make",key:=.str "make" rk,val:=.ref kg},{hash:=PyData.keyHash w.params "toss",key:=.str "toss" rm,val:=.ref ki},{hash:=PyData.keyHash w.params "say",key:=.str "say" rq,val:=.ref kl}] GK})
  (ku:K.lookup kl=some {cls:=.type "tuple",data:=.seq #[.ref kj] 0})
  (ky:K.lookup kj=some {cls:=.type "tuple",data:=.seq #[.str "number" rz] 0})
  (kz:K.lookup ki=some {cls:=.type "tuple",data:=.seq #[.ref kh] 0})
  (kB:K.lookup kh=some {cls:=.type "tuple",data:=.seq #[.str "number" rn] 0})
  (kC:K.lookup kg=some {cls:=.type "tuple",data:=.seq #[] 0})
  (kD:K.lookup ke=some {cls:=.type "tuple",data:=.seq #[.ref kc] 0})
  (kF:K.lookup kc=some {cls:=.type "tuple",data:=.seq #[.str "whole" rh,.int 0 rj] 0})
  (kG:K.lookup kb=some {cls:=.type "tuple",data:=.seq #[.ref j9] 0})
  (kH:K.lookup j9=some {cls:=.type "tuple",data:=.seq #[.str "number" rb] 0})
  (mX:K.lookup mQ=some {cls:=.type "tuple",data:=.seq #[] 0})
  (mY:K.lookup mP=some {cls:=.type "tuple",data:=.seq #[.ref mM,.ref mO] 0})
  (mZ:K.lookup mO=some {cls:=.type "tuple",data:=.seq #[.str "number" ub] 0})
  (m4:K.lookup mM=some {cls:=.type "tuple",data:=.seq #[.str "number" ua] 0})
  (m5:K.lookup mL=some {cls:=.type "tuple",data:=.seq #[.ref mJ,.ref mK] 0})
  (m6:K.lookup mK=some {cls:=.type "tuple",data:=.seq #[.str "number" t8] 0})
  (m7:K.lookup mJ=some {cls:=.type "tuple",data:=.seq #[.str "number" t7] 0})
  (m9:K.lookup mI=some {cls:=.type "tuple",data:=.seq #[.ref mG,.ref mH] 0})
  (nc:K.lookup mH=some {cls:=.type "tuple",data:=.seq #[.str "number" t4] 0})
  (ng:K.lookup mG=some {cls:=.type "tuple",data:=.seq #[.str "number" tZ] 0})
  (nh:K.lookup mF=some {cls:=.type "tuple",data:=.seq #[.ref mD,.ref mE] 0})
  (nj:K.lookup mE=some {cls:=.type "tuple",data:=.seq #[.str "number" tX] 0})
  (nk:K.lookup mD=some {cls:=.type "tuple",data:=.seq #[.str "number" tW] 0})
  (nq:K.lookup mC=some {cls:=.type "tuple",data:=.seq #[.ref mx,.ref mB] 0})
  (nv:K.lookup mB=some {cls:=.type "tuple",data:=.seq #[.str "number" tU] 0})
  (ny:K.lookup mx=some {cls:=.type "tuple",data:=.seq #[.str "number" tT] 0})
  (nz:K.lookup mw=some {cls:=.type "tuple",data:=.seq #[.ref mr,.ref mv] 0})
  (nA:K.lookup mv=some {cls:=.type "tuple",data:=.seq #[.str "number" tQ] 0})
  (nC:K.lookup mr=some {cls:=.type "tuple",data:=.seq #[.str "number" tP] 0})
  (nE:K.lookup mq=some {cls:=.type "tuple",data:=.seq #[.ref ml,.ref mn] 0})
  (nF:K.lookup mn=some {cls:=.type "tuple",data:=.seq #[.str "number" tN] 0})
  (nG:K.lookup ml=some {cls:=.type "tuple",data:=.seq #[.str "number" tM] 0})
  (nI:K.lookup mj=some {cls:=.type "tuple",data:=.seq #[.ref mi] 0})
  (nJ:K.lookup mi=some {cls:=.type "tuple",data:=.seq #[.str "any" tK] 0})
  (nK:K.lookup mh=some {cls:=.type "tuple",data:=.seq #[.ref me,.ref mf] 0})
  (nM:K.lookup mf=some {cls:=.type "tuple",data:=.seq #[.str "any" tI] 0})
  (nO:K.lookup me=some {cls:=.type "tuple",data:=.seq #[.str "any" tH] 0})
  (nP:K.lookup md=some {cls:=.type "tuple",data:=.seq #[.ref lZ] 0})
  (nQ:K.lookup lZ=some {cls:=.type "tuple",data:=.seq #[.str "any" tF] 0})
  (nR:K.lookup lX=some {cls:=.type "tuple",data:=.seq #[.ref p5] 0})
  (nS:K.lookup p5=some {cls:=.type "tuple",data:=.seq #[.str "any" wy] 0})
  (qf:K.lookup pZ=some {cls:=.type "tuple",data:=.seq #[] 0})
  (qg:K.lookup pY=some {cls:=.type "tuple",data:=.seq #[] 0})
  (qQ:PySem.W.nsIn K mainGlobals "GOING"=some (some (.ref sD)))
  (jy:K.lookup sD=some {cls:=.type "tuple",data:=.seq #[.str "jump" yf,.str "zero" yg,.str "kin" yh] 0})
  (wg:PySem.W.nsIn K mainGlobals "LEFT"=some (some (.ref j7)))
  (sE:(j7 == sysModules)=false)
  (sF:K.lookup j7=some {cls:=.type "dict",data:=.dict #[{hash:=PyData.keyHash w.params "store",key:=.str "store" Bu,val:=.int 0 Bv},{hash:=PyData.keyHash w.params "dup",key:=.str "dup" Bw,val:=.int 2 Bx},{hash:=PyData.keyHash w.params "swap",key:=.str "swap" By,val:=.int 2 Bz},{hash:=PyData.keyHash w.params "drop",key:=.str "drop" BA,val:=.int 0 BB},{hash:=PyData.keyHash w.params "jump",key:=.str "jump" BC,val:=.int 0 yi},{hash:=PyData.keyHash w.params "zero",key:=.str "zero" yj,val:=.int 0 yk},{hash:=PyData.keyHash w.params "put",key:=.str "put" ym,val:=.int 0 yn},{hash:=PyData.keyHash w.params "toss",key:=.str "toss" yo,val:=.int 0 yp},{hash:=PyData.keyHash w.params "say",key:=.str "say" yq,val:=.int 0 yr},{hash:=PyData.keyHash w.params "give",key:=.str "give" yt,val:=.int 0 yu}] OM})
  (eF:PySem.W.nsIn K mainGlobals "OF_RECORDS"=some (some (.ref iu)))
  (cS:K.lookup iu=some {cls:=.type "tuple",data:=.seq #[.str "make" mR,.str "fill" mS,.str "begin" mT,.str "get" mU,.str "put" mV] 0})
  (fJ:PySem.W.nsIn K mainGlobals "RECKONING"=some (some (.ref i6)))
  (dz:K.lookup i6=some {cls:=.type "tuple",data:=.seq #[.str "add" oO,.str "sub" oP,.str "mul" oQ,.str "div" oR,.str "rem" oS,.str "less" oT,.str "same" oU] 0})
  (eG:PySem.W.nsIn K mainGlobals "ValueError"=some none)
  (Bp:PySem.W.nsIn K mainGlobals "all"=some none)
  (Bs:PySem.W.nsIn K mainGlobals "int"=some none)
  (bP:PySem.W.nsIn K mainGlobals "isinstance"=some none)
  (bI:PySem.W.nsIn K mainGlobals "len"=some none)
  (cO:PySem.W.nsIn K mainGlobals "list"=some none)
  (v8:PySem.W.nsIn K mainGlobals "max"=some none)
  (Bd:PySem.W.nsIn K mainGlobals "min"=some none)
  (cU:PySem.W.nsIn K mainGlobals "range"=some none)
  (gA:PySem.W.nsIn K mainGlobals "tuple"=some none)
  (Bm:PySem.W.nsIn K mainGlobals "zip"=some none)
  : ∃fd:FuncData,(∀(s:Shared) (v:Value),BindsTo s fd ⟨[v],[]⟩ [("_law_script",v)])/\∀base:Heap,K.In base->base.Ns mainGlobals mg->bh l.prog w K mg base aU 12 fa fd ["_law_script"] (zo K):=by
 have e:=hfa.symm.trans (aaV X G ZI);cases e;obtain⟨f0,fd0,a0,F0⟩:=d0;have k0:=F0.kp;have b0:=F0.binds (ps:=["_law_script","_law_k"]) λ_ _ _ _ _ _=>ln2 (λ_ _=>by rfl)
 obtain⟨f1,fd1,a1,F1⟩:=d1;have k1:=F1.kp;have b1:=F1.binds (ps:=["_law_cell_here"]) λ_ _ _ _ _ _=>Fg (λ_=>by rfl)
 obtain⟨f2,fd2,a2,F2⟩:=d2;have k2:=F2.kp;have b2:=F2.binds (ps:=["_law_cell_here"]) λ_ _ _ _ _ _=>Fg (λ_=>by rfl)
 obtain⟨f3,fd3,a3,F3⟩:=d3;have k3:=F3.kp;have b3:=F3.binds (ps:=["_law_script","_law_k"]) λ_ _ _ _ _ _=>ln2 (λ_ _=>by rfl)
 obtain⟨⟨fd4,F4⟩,q4⟩:=l4;have k4:=F4.kp;have b4:=F4.binds (ps:=["self","value"]) λ_ _ _ _ _ _=>ln2 (λ_ _=>by rfl)
 obtain⟨⟨fd5,F5⟩,q5⟩:=l5;have k5:=F5.kp;have b5:=F5.binds (ps:=["self","value"]) λ_ _ _ _ _ _=>ln2 (λ_ _=>by rfl)
 obtain⟨⟨fd6,F6⟩,q6⟩:=l6;have k6:=F6.kp;have b6:=F6.binds (ps:=["self","frame"]) λ_ _ _ _ _ _=>ln2 (λ_ _=>by rfl)
 obtain⟨f7,fd7,a7,F7⟩:=d7;have k7:=F7.kp;have b7:=F7.binds (ps:=["stack","many"]) λ_ _ _ _ _ _=>ln2 (λ_ _=>by rfl)
 obtain⟨⟨fd8,F8⟩,q8⟩:=l8;have k8:=F8.kp;have b8:=F8.binds (ps:=["self","tag","number"]) λ_ _ _ _ _ _=>C7 (λ_ _ _=>by rfl)
 obtain⟨⟨fd9,F9⟩,q9⟩:=l9;have k9:=F9.kp;have b9:=F9.binds (ps:=["self","tag","number"]) λ_ _ _ _ _ _=>C7 (λ_ _ _=>by rfl)
 obtain⟨⟨adM,W4⟩,WJ⟩:=Y5;have W3:=W4.kp;have b10:=W4.binds (ps:=["self","frame","row"]) λ_ _ _ _ _ _=>C7 (λ_ _ _=>by rfl)
 obtain⟨f11,adN,a11,ZM⟩:=Y6;have k11:=ZM.kp;have b11:=ZM.binds (ps:=["stretches","at"]) λ_ _ _ _ _ _=>ln2 (λ_ _=>by rfl)
 obtain⟨f12,adR,a12,ZN⟩:=Y7;have k12:=ZN.kp;have b12:=ZN.binds (ps:=["parts","live"]) λ_ _ _ _ _ _=>ln2 (λ_ _=>by rfl)
 obtain⟨⟨adV,W5⟩,q13⟩:=Y8;have k13:=W5.kp;have b13:=W5.binds (ps:=["self"]) λ_ _ _ _ _ _=>Fg (λ_=>by rfl)
 obtain⟨⟨adW,W6⟩,q14⟩:=Y9;have k14:=W6.kp;have b14:=W6.binds (ps:=["self","frame","at"]) λ_ _ _ _ _ _=>C7 (λ_ _ _=>by rfl)
 obtain⟨⟨adX,W7⟩,q15⟩:=Za;have k15:=W7.kp;have b15:=W7.binds (ps:=["self","number"]) λ_ _ _ _ _ _=>ln2 (λ_ _=>by rfl)
 obtain⟨⟨adY,W8⟩,q16⟩:=Zb;have k16:=W8.kp;have b16:=W8.binds (ps:=["self","frame","row"]) λ_ _ _ _ _ _=>C7 (λ_ _ _=>by rfl)
 obtain⟨⟨adZ,ZO⟩,q17⟩:=Zc;have k17:=ZO.kp;have b17:=ZO.binds (ps:=["self","frame","row"]) λ_ _ _ _ _ _=>C7 (λ_ _ _=>by rfl)
 obtain⟨f18,ad3,a18,ZP⟩:=Zd;have k18:=ZP.kp;have b18:=ZP.binds (ps:=["makes","c"]) λ_ _ _ _ _ _=>ln2 (λ_ _=>by rfl)
 obtain⟨f19,ad7,a19,ZQ⟩:=Ze;have k19:=ZQ.kp;have b19:=ZQ.binds (ps:=["makes","c"]) λ_ _ _ _ _ _=>ln2 (λ_ _=>by rfl)
 obtain⟨f20,aeb,a20,ZR⟩:=Zf;have k20:=ZR.kp;have b20:=ZR.binds (ps:=["makes","c"]) λ_ _ _ _ _ _=>ln2 (λ_ _=>by rfl)
 obtain⟨f21,aef,a21,ZS⟩:=Zg;have k21:=ZS.kp;have b21:=ZS.binds (ps:=["makes","row"]) λ_ _ _ _ _ _=>ln2 (λ_ _=>by rfl)
 obtain⟨f22,aej,a22,ZT⟩:=Zh;have k22:=ZT.kp;have b22:=ZT.binds (ps:=["book","part","row"]) λ_ _ _ _ _ _=>C7 (λ_ _ _=>by rfl)
 obtain⟨f23,aen,a23,ZU⟩:=Zi;have k23:=ZU.kp;have b23:=ZU.binds (ps:=["makes","c","other"]) λ_ _ _ _ _ _=>C7 (λ_ _ _=>by rfl)
 obtain⟨f24,aer,a24,ZV⟩:=Zj;have k24:=ZV.kp;have b24:=ZV.binds (ps:=["makes","record","kind"]) λ_ _ _ _ _ _=>C7 (λ_ _ _=>by rfl)
 obtain⟨f25,aev,a25,ZW⟩:=Zk;have k25:=ZW.kp;have b25:=ZW.binds (ps:=["makes","heap","value","kind"]) λ_ _ _ _ _ _=>Oi (λ_ _ _ _=>by rfl)
 obtain⟨f26,aez,a26,ZX⟩:=Zl;have k26:=ZX.kp;have b26:=ZX.binds (ps:=["row"]) λ_ _ _ _ _ _=>Fg (λ_=>by rfl)
 obtain⟨⟨aeD,ZY⟩,q27⟩:=Zm;have k27:=ZY.kp;have b27:=ZY.binds (ps:=["self","frame","row"]) λ_ _ _ _ _ _=>C7 (λ_ _ _=>by rfl)
 obtain⟨⟨aeH,W9⟩,q28⟩:=Zn;have k28:=W9.kp;have b28:=W9.binds (ps:=["self"]) λ_ _ _ _ _ _=>Fg (λ_=>by rfl)
 obtain⟨⟨aeI,Xa⟩,q29⟩:=Zo;have k29:=Xa.kp;have b29:=Xa.binds (ps:=["self"]) λ_ _ _ _ _ _=>Fg (λ_=>by rfl)
 obtain⟨f30,aeJ,a30,Xb⟩:=Zp;have k30:=Xb.kp;have b30:=Xb.binds (ps:=["machine"]) λ_ _ _ _ _ _=>Fg (λ_=>by rfl)
 obtain⟨f31,aeK,a31,ZZ⟩:=Zq;have k31:=ZZ.kp;have b31:=ZZ.binds (ps:=["takes","gives"]) λ_ _ _ _ _ _=>ln2 (λ_ _=>by rfl)
 obtain⟨f32,aeO,a32,Z0⟩:=Zr;have k32:=Z0.kp;have b32:=Z0.binds (ps:=["parts","part","inputs"]) λ_ _ _ _ _ _=>C7 (λ_ _ _=>by rfl)
 obtain⟨f33,aeS,a33,Z1⟩:=Zs;have k33:=Z1.kp;have b33:=Z1.binds (ps:=["book"]) λ_ _ _ _ _ _=>Fg (λ_=>by rfl)
 obtain⟨⟨aeW,Z2⟩,q34⟩:=Zt;have k34:=Z2.kp;have b34:=Z2.binds (ps:=["self","part","boxes"]) λ_ _ _ _ _ _=>C7 (λ_ _ _=>by rfl)
 obtain⟨f35,aeZ,a35,Z3⟩:=Zu;have k35:=Z3.kp;have b35:=Z3.binds (ps:=["parts","part","values","nothing"]) λ_ _ _ _ _ _=>Oi (λ_ _ _ _=>by rfl)
 obtain⟨⟨ae3,Z4⟩,q36⟩:=Zv;have k36:=Z4.kp;have b36:=Z4.binds (ps:=["self"]) λ_ _ _ _ _ _=>Fg (λ_=>by rfl)
 obtain⟨⟨ae7,Z5⟩,q37⟩:=Zw;have k37:=Z5.kp;have b37:=Z5.binds (ps:=["self"]) λ_ _ _ _ _ _=>Fg (λ_=>by rfl)
 obtain⟨⟨afb,Xc⟩,q38⟩:=Zx;have k38:=Xc.kp;have b38:=Xc.binds (ps:=["self","part","values"]) λ_ _ _ _ _ _=>C7 (λ_ _ _=>by rfl)
 obtain⟨⟨afc,Xd⟩,q39⟩:=Zy;have k39:=Xd.kp;have b39:=Xd.binds (ps:=["self","book","part","inputs","budget"]) λ_ _ _ _ _ _=>Yj (λ_ _ _ _ _=>by rfl)
 obtain⟨f40,afd,a40,Z6⟩:=Zz;have k40:=Z6.kp;have b40:=Z6.binds (ps:=["book","part","inputs","budget"]) λ_ _ _ _ _ _=>Oi (λ_ _ _ _=>by rfl)
 obtain⟨f41,afh,a41,Z7⟩:=ZA;have k41:=Z7.kp;have b41:=Z7.binds (ps:=["book","part","inputs","budget"]) λ_ _ _ _ _ _=>Oi (λ_ _ _ _=>by rfl)
 obtain⟨f42,afl,a42,Z8⟩:=ZC;have k42:=Z8.kp;have b42:=Z8.binds (ps:=["frame"]) λ_ _ _ _ _ _=>Fg (λ_=>by rfl)
 obtain⟨⟨afp,Xe⟩,q43⟩:=ZD;have k43:=Xe.kp;have b43:=Xe.binds (ps:=["self"]) λ_ _ _ _ _ _=>Fg (λ_=>by rfl)
 obtain⟨f44,afq,a44,Z9⟩:=ZE;have k44:=Z9.kp;have b44:=Z9.binds (ps:=["_law_book","_law_part_here","_law_inputs","_law_budget","_law_way"]) λ_ _ _ _ _ _=>Yj (λ_ _ _ _ _=>by rfl)
 obtain⟨f45,afu,a45,F45⟩:=ZF;have k45:=F45.kp;have b45:=F45.binds (ps:=["_law_parts","_law_part_here","_law_inputs","_law_budget"]) λ_ _ _ _ _ _=>Oi (λ_ _ _ _=>by rfl)
 obtain⟨f46,afy,a46,F46⟩:=ZG;have k46:=F46.kp;have b46:=F46.binds (ps:=["_law_parts","_law_part_here","_law_inputs","_law_watched"]) λ_ _ _ _ _ _=>Oi (λ_ _ _ _=>by rfl)
 obtain⟨f47,afC,a47,F47⟩:=ZH;have k47:=F47.kp;have b47:=F47.binds (ps:=["_law_book","_law_part_here","_law_inputs","_law_budget"]) λ_ _ _ _ _ _=>Oi (λ_ _ _ _=>by rfl)
 have F48:=CV (st:=qA) ZJ ZK ZL;have zF:=abk X G eG;have VQ:=abk X G Bp;have VR:=abk X G Bs;have zG:=abk X G bP;have kP:=abk X G bI;have sG:=abk X G cO;have QL:=abk X G v8;have VS:=abk X G Bd;have uQ:=abk X G cU;have Fp:=abk X G gA;have VT:=abk X G Bm;have Km:=aaV X G jv;have Fq:=aaV X G qQ;have SF:=aaV X G wg;have rA:=aaV X G eF;have ud:=aaV X G fJ;have Ko:=aaV X G lT;have BD:=aaV X G fK;have Kp:=aaV X G lU;have Kq:=aaV X G lV;have xt:=aaV X G bR;have ON:=aaV X G wz;have ai:Mine.ai K af:=⟨⟨wA,wB,wC,wD⟩,i7,mW,iw,iy⟩;have OO:=aaV X G wH;have ax:Mine.ax K au:=⟨⟨wI,wJ,wK,wL⟩,i8,i9,fc,ja,jb,ko⟩;have GL:=aaV X G p6;have aD:Mine.ax K ak:=⟨⟨p7,p8,p9,qa⟩,fT,fU,dI,fV,fW,iD⟩;have Kr:Mv K w bY aZ:=Iy (ent:=[("push",wq,.ref pY),("load",wu,.ref pZ),("store",wx,.ref lX),("dup",tE,.ref md),("swap",tG,.ref mh),("drop",tJ,.ref mj),("add",tL,.ref mq),("sub",tO,.ref mw),("mul",tS,.ref mC),("div",tV,.ref mF),("rem",tY,.ref mI),("less",t6,.ref mL),("same",t9,.ref mP),("jump",uc,.ref mQ),("zero",ra,.ref kb),("kin",rf,.ref ke),("make",rk,.ref kg),("toss",rm,.ref ki),("say",rq,.ref kl)]) kq kr (show(["push","load","store","dup","swap","drop","add","sub","mul","div","rem","less","same","jump","zero","kin","make","toss","say"]:List Str).Nodup by decide +kernel) (.cons ⟨rfl,(aF (its:=[]) qg (show 0<=sizeLine by decide) .nil)⟩ (.cons ⟨rfl,(aF (its:=[]) qf (show 0<=sizeLine by decide) .nil)⟩ (.cons ⟨rfl,(aF (its:=[.ref p5]) nR (show 1<=sizeLine by decide) (.cons (aF (its:=[.str "any" wy]) nS (show 1<=sizeLine by decide) (.cons aL .nil)) .nil))⟩ (.cons ⟨rfl,(aF (its:=[.ref lZ]) nP (show 1<=sizeLine by decide) (.cons (aF (its:=[.str "any" tF]) nQ (show 1<=sizeLine by decide) (.cons aL .nil)) .nil))⟩ (.cons ⟨rfl,(aF (its:=[.ref me,.ref mf]) nK (show 2<=sizeLine by decide) (.cons (aF (its:=[.str "any" tH]) nO (show 1<=sizeLine by decide) (.cons aL .nil)) (.cons (aF (its:=[.str "any" tI]) nM (show 1<=sizeLine by decide) (.cons aL .nil)) .nil)))⟩ (.cons ⟨rfl,(aF (its:=[.ref mi]) nI (show 1<=sizeLine by decide) (.cons (aF (its:=[.str "any" tK]) nJ (show 1<=sizeLine by decide) (.cons aL .nil)) .nil))⟩ (.cons ⟨rfl,(aF (its:=[.ref ml,.ref mn]) nE (show 2<=sizeLine by decide) (.cons (aF (its:=[.str "number" tM]) nG (show 1<=sizeLine by decide) (.cons aL .nil)) (.cons (aF (its:=[.str "number" tN]) nF (show 1<=sizeLine by decide) (.cons aL .nil)) .nil)))⟩ (.cons ⟨rfl,(aF (its:=[.ref mr,.ref mv]) nz (show 2<=sizeLine by decide) (.cons (aF (its:=[.str "number" tP]) nC (show 1<=sizeLine by decide) (.cons aL .nil)) (.cons (aF (its:=[.str "number" tQ]) nA (show 1<=sizeLine by decide) (.cons aL .nil)) .nil)))⟩ (.cons ⟨rfl,(aF (its:=[.ref mx,.ref mB]) nq (show 2<=sizeLine by decide) (.cons (aF (its:=[.str "number" tT]) ny (show 1<=sizeLine by decide) (.cons aL .nil)) (.cons (aF (its:=[.str "number" tU]) nv (show 1<=sizeLine by decide) (.cons aL .nil)) .nil)))⟩ (.cons ⟨rfl,(aF (its:=[.ref mD,.ref mE]) nh (show 2<=sizeLine by decide) (.cons (aF (its:=[.str "number" tW]) nk (show 1<=sizeLine by decide) (.cons aL .nil)) (.cons (aF (its:=[.str "number" tX]) nj (show 1<=sizeLine by decide) (.cons aL .nil)) .nil)))⟩ (.cons ⟨rfl,(aF (its:=[.ref mG,.ref mH]) m9 (show 2<=sizeLine by decide) (.cons (aF (its:=[.str "number" tZ]) ng (show 1<=sizeLine by decide) (.cons aL .nil)) (.cons (aF (its:=[.str "number" t4]) nc (show 1<=sizeLine by decide) (.cons aL .nil)) .nil)))⟩ (.cons ⟨rfl,(aF (its:=[.ref mJ,.ref mK]) m5 (show 2<=sizeLine by decide) (.cons (aF (its:=[.str "number" t7]) m7 (show 1<=sizeLine by decide) (.cons aL .nil)) (.cons (aF (its:=[.str "number" t8]) m6 (show 1<=sizeLine by decide) (.cons aL .nil)) .nil)))⟩ (.cons ⟨rfl,(aF (its:=[.ref mM,.ref mO]) mY (show 2<=sizeLine by decide) (.cons (aF (its:=[.str "number" ua]) m4 (show 1<=sizeLine by decide) (.cons aL .nil)) (.cons (aF (its:=[.str "number" ub]) mZ (show 1<=sizeLine by decide) (.cons aL .nil)) .nil)))⟩ (.cons ⟨rfl,(aF (its:=[]) mX (show 0<=sizeLine by decide) .nil)⟩ (.cons ⟨rfl,(aF (its:=[.ref j9]) kG (show 1<=sizeLine by decide) (.cons (aF (its:=[.str "number" rb]) kH (show 1<=sizeLine by decide) (.cons aL .nil)) .nil))⟩ (.cons ⟨rfl,(aF (its:=[.ref kc]) kD (show 1<=sizeLine by decide) (.cons (aF (its:=[.str "whole" rh,.int 0 rj]) kF (show 2<=sizeLine by decide) (.cons aL (.cons d8 .nil))) .nil))⟩ (.cons ⟨rfl,(aF (its:=[]) kC (show 0<=sizeLine by decide) .nil)⟩ (.cons ⟨rfl,(aF (its:=[.ref kh]) kz (show 1<=sizeLine by decide) (.cons (aF (its:=[.str "number" rn]) kB (show 1<=sizeLine by decide) (.cons aL .nil)) .nil))⟩ (.cons ⟨rfl,(aF (its:=[.ref kj]) ku (show 1<=sizeLine by decide) (.cons (aF (its:=[.str "number" rz]) ky (show 1<=sizeLine by decide) (.cons aL .nil)) .nil))⟩ .nil)))))))))))))))))));have Fs:∀H:Hp,aR K H (.ref sD) AV:=yM (aF (its:=[.str "jump" yf,.str "zero" yg,.str "kin" yh]) jy (show 3<=sizeLine by decide) (.cons aL (.cons aL (.cons aL .nil))));have SG:Mv K w j7 og:=Iy (ent:=[("store",Bu,.int 0 Bv),("dup",Bw,.int 2 Bx),("swap",By,.int 2 Bz),("drop",BA,.int 0 BB),("jump",BC,.int 0 yi),("zero",yj,.int 0 yk),("put",ym,.int 0 yn),("toss",yo,.int 0 yp),("say",yq,.int 0 yr),("give",yt,.int 0 yu)]) sE sF (show(["store","dup","swap","drop","jump","zero","put","toss","say","give"]:List Str).Nodup by decide +kernel) (.cons ⟨rfl,d8⟩ (.cons ⟨rfl,d8⟩ (.cons ⟨rfl,d8⟩ (.cons ⟨rfl,d8⟩ (.cons ⟨rfl,d8⟩ (.cons ⟨rfl,d8⟩ (.cons ⟨rfl,d8⟩ (.cons ⟨rfl,d8⟩ (.cons ⟨rfl,d8⟩ (.cons ⟨rfl,d8⟩ .nil))))))))));have rB:∀H:Hp,aR K H (.ref iu) oF:=yM (aF (its:=[.str "make" mR,.str "fill" mS,.str "begin" mT,.str "get" mU,.str "put" mV]) cS (show 5<=sizeLine by decide) (.cons aL (.cons aL (.cons aL (.cons aL (.cons aL .nil))))));have ue:∀H:Hp,aR K H (.ref i6) qB:=yM (aF (its:=[.str "add" oO,.str "sub" oP,.str "mul" oQ,.str "div" oR,.str "rem" oS,.str "less" oT,.str "same" oU]) dz (show 7<=sizeLine by decide) (.cons aL (.cons aL (.cons aL (.cons aL (.cons aL (.cons aL (.cons aL .nil))))))));refine⟨PySem.W.fnOf "law" "law" (dA qA) (dB qA) (dS qA) .none VM VN VO VL SE VP,λs v=>.of_eq rfl,λbase _ _=>?_⟩;have uf:c9 l.prog w K mg base aU "_law_cell" 1 ["_law_script","_law_k"] (fF K):=⟨_,_,zp F0 kP ai,b0,k0,aaV X G a0⟩;have BE:c9 l.prog w K mg base aU "_law_kind" 1 ["_law_cell_here"] (iJ K):=⟨_,_,zq F1 ai,b1,k1,aaV X G a1⟩;have ug:c9 l.prog w K mg base aU "_law_word" 1 ["_law_cell_here"] (fG K):=⟨_,_,zr F2 QL VS ai,b2,k2,aaV X G a2⟩;have BG:c9 l.prog w K mg base aU "_law_part" 2 ["_law_script","_law_k"] (iK K):=⟨_,_,zt F3 kP uQ ai uf BE ug,b3,k3,aaV X G a3⟩;have jf:bJ l.prog w K mg base aU au "bare" 1 ["self","value"] (jW K false):=⟨⟨_,_,xi F4 (C:=au) ai ax,b4,⟨jc,q4,k4⟩⟩,ax.cl⟩;have gc:bJ l.prog w K mg base aU ak "bare" 1 ["self","value"] (jW K true):=⟨⟨_,_,uv F5 (C:=ak) ai aD,b5,⟨fX,q5,k5⟩⟩,aD.cl⟩;have sH:bJ l.prog w K mg base aU au "do_give" 2 ["self","frame"] (jX K af au false):=⟨⟨_,_,jt F6 (C:=au) (wt:=false) kP ai ax jf,b6,⟨fe,q6,k6⟩⟩,ax.cl⟩;have qh:bJ l.prog w K mg base aU ak "do_give" 2 ["self","frame"] (jX K af ak true):=⟨⟨_,_,jt F6 (C:=ak) (wt:=true) kP ai aD gc,b6,⟨dJ,q6,k6⟩⟩,aD.cl⟩;have Ft:c9 l.prog w K mg base aU "taken" 1 ["stack","many"] (vW K):=⟨_,_,J6 F7 uQ ai,b7,k7,aaV X G a7⟩;have gf:bJ l.prog w K mg base aU au "tagged" 1 ["self","tag","number"] (e7 K false):=⟨⟨_,_,ux F8 (C:=au) ai ax,b8,⟨fP,q8,k8⟩⟩,ax.cl⟩;have eN:bJ l.prog w K mg base aU ak "tagged" 1 ["self","tag","number"] (e7 K true):=⟨⟨_,_,qN F9 (C:=ak) ai aD,b9,⟨eJ,q9,k9⟩⟩,aD.cl⟩;have nU:bJ l.prog w K mg base aU au "do_straight" 2 ["self","frame","row"] (eD K af au false):=⟨⟨_,_,fI W4 (C:=au) (wt:=false) ai ax Ft jf gf,b10,⟨cQ,WJ,W3⟩⟩,ax.cl⟩;have kI:bJ l.prog w K mg base aU ak "do_straight" 2 ["self","frame","row"] (eD K af ak true):=⟨⟨_,_,fI W4 (C:=ak) (wt:=true) ai aD Ft gc eN,b10,⟨cE,WJ,W3⟩⟩,aD.cl⟩;have GN:c9 l.prog w K mg base aU "catcher" 1 ["stretches","at"] (pM K):=⟨_,_,Du ZM ai,b11,k11,aaV X G a11⟩;have uh:c9 l.prog w K mg base aU "caught_at" 2 ["parts","live"] (jY K af):=⟨_,_,zu ZN kP ai GN,b12,k12,aaV X G a12⟩;have wO:bJ l.prog w K mg base aU au "spend" 1 ["self"] (qE K af au false):=⟨⟨_,_,lN W5 (C:=au) (wt:=false) ai ax,b13,⟨iz,q13,k13⟩⟩,ax.cl⟩;have sI:bJ l.prog w K mg base aU ak "spend" 1 ["self"] (qE K af ak true):=⟨⟨_,_,lN W5 (C:=ak) (wt:=true) ai aD,b13,⟨fi,q13,k13⟩⟩,aD.cl⟩;have wQ:bJ l.prog w K mg base aU au "go_on" 2 ["self","frame","at"] (qF K af au false):=⟨⟨_,_,lO W6 (C:=au) (wt:=false) ai ax wO,b14,⟨iA,q14,k14⟩⟩,ax.cl⟩;have sJ:bJ l.prog w K mg base aU ak "go_on" 2 ["self","frame","at"] (qF K af ak true):=⟨⟨_,_,lO W6 (C:=ak) (wt:=true) ai aD sI,b14,⟨fj,q14,k14⟩⟩,aD.cl⟩;have wR:bJ l.prog w K mg base aU au "fault" 3 ["self","number"] (qG K af au false):=⟨⟨_,_,lP W7 (C:=au) (wt:=false) ai ax uh wQ gf,b15,⟨iB,q15,k15⟩⟩,ax.cl⟩;have sL:bJ l.prog w K mg base aU ak "fault" 3 ["self","number"] (qG K af ak true):=⟨⟨_,_,lP W7 (C:=ak) (wt:=true) ai aD uh sJ eN,b15,⟨fk,q15,k15⟩⟩,aD.cl⟩;have uC:bJ l.prog w K mg base aU au "do_row" 4 ["self","frame","row"] (ou K af au false):=⟨⟨_,_,kM W8 (C:=au) (wt:=false) Fq Fs ⟨_,jy,rfl,rfl⟩ rA rB ⟨_,cS,rfl,rfl⟩ ud ue ⟨_,dz,rfl,rfl⟩ ai ax jf sH nU wR,b16,⟨fQ,q16,k16⟩⟩,ax.cl⟩;have rC:bJ l.prog w K mg base aU ak "do_row" 4 ["self","frame","row"] (ou K af ak true):=⟨⟨_,_,kM W8 (C:=ak) (wt:=true) Fq Fs ⟨_,jy,rfl,rfl⟩ rA rB ⟨_,cS,rfl,rfl⟩ ud ue ⟨_,dz,rfl,rfl⟩ ai aD gc qh kI sL,b16,⟨eK,q16,k16⟩⟩,aD.cl⟩;have uD:bJ l.prog w K mg base aU au "looked" 6 ["self","frame","row"] (jr K af au false):=⟨⟨_,_,uz ZO (C:=au) ai ax,b17,⟨fR,q17,k17⟩⟩,ax.cl⟩;have ui:c9 l.prog w K mg base aU "elders_of" 1 ["makes","c"] (gq K):=⟨_,_,zw ZP ai,b18,k18,aaV X G a18⟩;have uj:c9 l.prog w K mg base aU "fields_of" 2 ["makes","c"] (gr K):=⟨_,_,zx ZQ sG ai ui,b19,k19,aaV X G a19⟩;have BH:c9 l.prog w K mg base aU "full_mask" 3 ["makes","c"] (jZ K):=⟨_,_,zA ZR kP ai uj,b20,k20,aaV X G a20⟩;have qi:c9 l.prog w K mg base aU "asked_of_records" 4 ["makes","row"] (dh K):=⟨_,_,oz ZS ai uj BH,b21,k21,aaV X G a21⟩;have OP:c9 l.prog w K mg base aU "asked" 5 ["book","part","row"] (vX K):=⟨_,_,Kb ZT sG Km Kr ai qi,b22,k22,aaV X G a22⟩;have DG:c9 l.prog w K mg base aU "is_under" 2 ["makes","c","other"] (lH K):=⟨_,_,Bj ZU ai ui,b23,k23,aaV X G a23⟩;have rD:c9 l.prog w K mg base aU "record_has_kind" 3 ["makes","record","kind"] (dG K):=⟨_,_,pS ZV ai DG,b24,k24,aaV X G a24⟩;have DH:c9 l.prog w K mg base aU "has_kind" 4 ["makes","heap","value","kind"] (lI K):=⟨_,_,Bl ZW ai rD,b25,k25,aaV X G a25⟩;have Ks:c9 l.prog w K mg base aU "leaves" 1 ["row"] (sq K):=⟨_,_,GD ZX SF SG ai,b26,k26,aaV X G a26⟩;have rE:bJ l.prog w K mg base aU ak "looked" 6 ["self","frame","row"] (jr K af ak true):=⟨⟨_,_,qS ZY (C:=ak) kP VT ai aD OP DH Ks,b27,⟨eL,q27,k27⟩⟩,aD.cl⟩;have xu:bJ l.prog w K mg base aU au "step" 7 ["self"] (uO K af au false):=⟨⟨_,_,oK W9 (C:=au) (wt:=false) ai ax uC uD,b28,⟨jd,q28,k28⟩⟩,ax.cl⟩;have uE:bJ l.prog w K mg base aU ak "step" 7 ["self"] (uO K af ak true):=⟨⟨_,_,oK W9 (C:=ak) (wt:=true) ai aD rC rE,b28,⟨fY,q28,k28⟩⟩,aD.cl⟩;have xv:bJ l.prog w K mg base aU au "told" 1 ["self"] (uP K af au false):=⟨⟨_,_,oM Xa (C:=au) (wt:=false) sG ai ax,b29,⟨je,q29,k29⟩⟩,ax.cl⟩;have uF:bJ l.prog w K mg base aU ak "told" 1 ["self"] (uP K af ak true):=⟨⟨_,_,oM Xa (C:=ak) (wt:=true) sG ai aD,b29,⟨fZ,q29,k29⟩⟩,aD.cl⟩;have rF:c9 l.prog w K mg base aU "finished" 8 ["machine"] (fH K af au false):=⟨_,_,tD Xb (C:=au) (wt:=false) ai ax xu xv,b30,k30,aaV X G a30⟩;have oA:c9 l.prog w K mg base aU "finished" 8 ["machine"] (fH K af ak true):=⟨_,_,tD Xb (C:=ak) (wt:=true) ai aD uE uF,b30,k30,aaV X G a30⟩;have GO:c9 l.prog w K mg base aU "is_door" 1 ["takes","gives"] (pO K):=⟨_,_,Dz ZZ VQ ai,b31,k31,aaV X G a31⟩;have rG:c9 l.prog w K mg base (pb l.prog w) "check_door" 2 ["parts","part","inputs"] (iZ K ar):=⟨_,_,xk Z0 kP BD fL jw ai GO,b32,k32,aaV X G a32⟩;have BI:c9 l.prog w K mg base aU "copied" 1 ["book"] (su K):=⟨_,_,GI Z1 sG ai,b33,k33,aaV X G a33⟩;have Kt:vv l.prog w K mg base aU af "Frame" 1 ["self","part","boxes"] (i4 K af):=⟨⟨_,_,qU Z2 ai,b34,⟨wF,eH,q34,wG⟩,ON⟩⟩;have yv:c9 l.prog w K mg base aU "started" 3 ["parts","part","values","nothing"] (pP K af):=⟨_,_,DB Z3 kP ai Kt,b35,k35,aaV X G a35⟩;have sM:bJ l.prog w K mg base aU au "nothing" 1 ["self"] (g8 K false):=⟨⟨_,_,sC Z4 (C:=au) ai ax,b36,⟨fh,q36,k36⟩⟩,ax.cl⟩;have qj:bJ l.prog w K mg base aU ak "nothing" 1 ["self"] (g8 K true):=⟨⟨_,_,pU Z5 (C:=ak) ai aD,b37,⟨dM,q37,k37⟩⟩,aD.cl⟩;have qk:bJ l.prog w K mg base aU au "add_frame" 4 ["self","part","values"] (gu K af au false):=⟨⟨_,_,hZ Xc (C:=au) (wt:=false) ai ax yv sM,b38,⟨dH,q38,k38⟩⟩,ax.cl⟩;have nV:bJ l.prog w K mg base aU ak "add_frame" 4 ["self","part","values"] (gu K af ak true):=⟨⟨_,_,hZ Xc (C:=ak) (wt:=true) ai aD yv qj,b38,⟨cR,q38,k38⟩⟩,aD.cl⟩;have BJ:vv l.prog w K mg base (pb l.prog w) au "Plain" 5 ["self","book","part","inputs","budget"] (bQ K af au false ar):=⟨⟨_,_,iN Xd (C:=au) (wt:=false) ai ax rG BI qk gf,b39,⟨wM,eI,q39,wN⟩,OO⟩⟩;have wU:vv l.prog w K mg base (pb l.prog w) ak "Watched" 5 ["self","book","part","inputs","budget"] (bQ K af ak true ar):=⟨⟨_,_,iN Xd (C:=ak) (wt:=true) ai aD rG BI nV eN,b39,⟨qb,dq,q39,qc⟩,GL⟩⟩;have VU:c9 l.prog w K mg base (pb l.prog w) "run" 9 ["book","part","inputs","budget"] (zk K ar):=⟨_,_,SA Z6 ai rF BJ,b40,k40,aaV X G a40⟩;have xw:c9 l.prog w K mg base (pb l.prog w) "run_watched" 9 ["book","part","inputs","budget"] (eE K ar):=⟨_,_,wm Z7 ai oA wU,b41,k41,aaV X G a41⟩;have rH:c9 l.prog w K mg base aU "frame_told" 1 ["frame"] (i5 K af):=⟨_,_,xn Z8 Fp ai,b42,k42,aaV X G a42⟩;have uG:bJ l.prog w K mg base aU au "frames" 2 ["self"] (gF K af au false):=⟨⟨_,_,kN Xe (C:=au) (wt:=false) ai ax rH,b43,⟨fS,q43,k43⟩⟩,ax.cl⟩;have rJ:bJ l.prog w K mg base aU ak "frames" 2 ["self"] (gF K af ak true):=⟨⟨_,_,kN Xe (C:=ak) (wt:=true) ai aD rH,b43,⟨eM,q43,k43⟩⟩,aD.cl⟩;have zH:c9 l.prog w K mg base aU "_law_asked" 10 ["_law_book","_law_part_here","_law_inputs","_law_budget","_law_way"] (gw K):=⟨_,_,xo Z9 zF zG Ko qW BD fL jw Kp qX Kq qY xt fz bS ai VU xw uG rJ BJ wU Bq ic ie ig ij ik ip Kh Ki Kj Kk Kl,b44,k44,aaV X G a44⟩;have DJ:c9 l.prog w K mg base aU "_law_due" 1 ["_law_parts","_law_part_here","_law_inputs","_law_budget"] (j2 K):=⟨_,_,Br F45 VR kP ai,b45,k45,aaV X G a45⟩;have xx:c9 l.prog w K mg base aU "_law_frames" 1 ["_law_parts","_law_part_here","_law_inputs","_law_watched"] (fv K):=⟨_,_,wo F46 kP Fp ai,b46,k46,aaV X G a46⟩;have zI:c9 l.prog w K mg base aU "_law_right" 11 ["_law_book","_law_part_here","_law_inputs","_law_budget"] (gx K):=⟨_,_,xq F47 sG uQ ai zH DJ xx,b47,k47,aaV X G a47⟩;exact SD (P:=l.prog) (w:=w) (base:=base) F48 kP QL uQ ai uf BG zI ug
theorem walk{l:PySem.W.OpenLaw}{q:Program}{loose:List Str}{XP:(Str->Option Value)->Heap->Prop}{YP:World->Heap->Prop}{d:DefRec}{K:Params->ay}(hn:l.most=some 63)(hdf:d.params.defaults=[])
  (hY:∀(w:World) (h:Heap),YP w h->(K w.params).In h)
  (F:∀(w:World) (mg:Str->Option Value) (fa:Addr) (h:Heap),(K w.params).In h->h.Ns mainGlobals mg->mg d.name=some (.ref fa) ->
   ∃fd:FuncData,(∀(s:Shared) (u:Value),BindsTo s fd ⟨[u],[]⟩ [("_law_script",u)])/\∀base:Heap,(K w.params).In base->base.Ns mainGlobals mg->bh l.prog w (K w.params) mg base aU 12 fa fd ["_law_script"] (zo (K w.params))) :
  PySem.W.WalkO q loose XP YP l.row.toRowW d [] (λf vs=>PySem.call f vs) :=
 L2.Nu (n:=63) (k:=12) (x:="_law_script") (CX:=λ_=>aU) (sp:=λw=>zo (K w.params)) hn (by decide) hdf ⟨rfl,by decide,by decide,rfl⟩ hY F (λ_ _ a ns hl _ hS=>⟨a,ns,rfl,hS,hl,λ_=>rfl⟩) λ_ _ _ _ _ z=>z
end Mine
noncomputable section
namespace MH
open PySem PySem.W L2 Mine
abbrev OF:=Program->Params->Obj
abbrev TF:=Program->Params->BT
abbrev r(a:Nat):Value:=.ref a
abbrev s(x:Str)(t:Tok):Value:=.str x t
abbrev i(n:Int):Value:=.int n 0
abbrev cF:Str:="/claim/cut.py"
def de(P:Params)(x:Str)(t:Tok)(v:Value):DictEntry:=⟨PyData.keyHash P x,.str x t,v⟩
abbrev fn(a b:Str)(e:Stmt)(dV kV doc pm:Value)(an:Option Addr)(cd ct:Value):FuncData:=PySem.W.fnOf a b (dA e) (dB e) (dS e) dV kV doc pm an cd ct
abbrev fx(g u:Nat)(a b:Str)(e:Stmt)(dV kV doc pm:Value)(an:Option Addr)(cd ct:Value):FuncData:=⟨a,b,dA e,.stmts (dB e),dS e,g,[],dV,kV,doc,pm,an,cd,ct,u⟩
abbrev tu(l:List Value):Obj:=⟨.type "tuple",none,.seq l.toArray 0,#[]⟩
abbrev nf(l:List Value):Obj:=⟨.none,none,.fields l.toArray,#[]⟩
abbrev co(l:List Value):Obj:=⟨.type "code",none,.fields l.toArray,#[]⟩
abbrev fm(l:List (Option Value)):Obj:=⟨.type "frame",none,.plain,l.toArray⟩
abbrev di(l:List DictEntry)(n:Nat):Obj:=⟨.type "dict",none,.dict l.toArray n,#[]⟩
abbrev fo(f:FuncData):Obj:=⟨.type "function",none,.func f,#[]⟩
abbrev no(f:FuncData):Obj:=⟨.none,none,.func f,#[]⟩
abbrev bn(o:Obj)(l r:BT):BT:=.node o l r
abbrev bl(o:Obj):BT:=.node o .nil .nil
abbrev aa(o:OF)(l r:TF):TF:=λp P=>.node (o p P) (l p P) (r p P)
abbrev ae(o:OF):TF:=λp P=>.node (o p P) .nil .nil
abbrev av:TF:=λ_ _=>.nil
abbrev f0_(a b:Str)(e:Stmt):FuncData:=fn a b e .none .none .none .none none .none .none
abbrev cY(g u:Nat)(a b:Str)(e:Stmt):FuncData:=fx g u a b e .none .none .none .none none .none .none
abbrev Cv:OF:=λ_ P=>boot_o_0 P
abbrev Cw:OF:=λ_ P=>boot_o_1 P
abbrev ql:OF:=λ_ P=>boot_o_10 P
abbrev DK:OF:=λ_ P=>boot_o_2 P
abbrev b3_:OF:=λ_ P=>boot_o_3 P
abbrev DL:OF:=λ_ P=>boot_o_4 P
abbrev DM:OF:=λ_ P=>boot_o_5 P
abbrev DN:OF:=λ_ P=>boot_o_6 P
abbrev DP:OF:=λ_ P=>boot_o_7 P
abbrev DQ:OF:=λ_ P=>boot_o_8 P
abbrev DR:OF:=λ_ P=>boot_o_9 P
abbrev pw:Program:=PySem.Challenge.pw_stackwarden_k30_doors_of_books
def jz(p:Program):Env:={scope:=p.main.scope,locals:=mainNs,globals:=mainNs,cells:=[],code:=(.ref 13),frame:=some 14}
def bt(p:Program):Code:=.body (behindTheImports p) (jz p)
abbrev BF:List Frame:=[topFrame ⟨0,0,0,0⟩]
def bT(p:Program)(i n:Nat):List Stmt:=((behindTheImports p).drop i).take n
def cb(p:Program):Program:={p with main:={p.main with body:=[tf p 1,tf p 2,tf p 3,tf p 4,tf p 5,tf p 6,tf p 8,tf p 9,tf p 10,tf p 11,tf p 13,tf p 14,tf p 15,tf p 16,tf p 17,tf p 18,tf p 19,tf p 20,tf p 22,tf p 24,tf p 25,tf p 27,tf p 28,tf p 29,tf p 30,tf p 31,tf p 32,tf p 34,tf p 35,tf p 36,tf p 37,tf p 38,tf p 39,tf p 41,tf p 43,tf p 44,tf p 45,tf p 47,tf p 48,tf p 50,tf p 52,tf p 53,tf p 54,tf p 56,tf p 57,tf p 58,tf p 59,tf p 60,tf p 61,tf p 62,tf p 63,tf p 64]}}
abbrev ST(t:BT)(n k:Nat)(os:OsState):SharedT:=⟨t,n,{},Array.mk [],{},k,os⟩
abbrev SH(h:Heap)(k:Nat)(os:OsState):Shared:=⟨h,Array.mk [],{},k,os⟩
local macro_rules | `(tactic| walk_at "qk")=>`(tactic| ((try rewrite [Fast.te14364793385576792824]); (try rewrite [Fast.te10110043849684766642]); (try rewrite [Fast.te14374325043358763698]); (try rewrite [Fast.te15667345088766844465]); (try rewrite [Fast.te14082659384304107361]); (try rewrite [Fast.te11892475500146522536]); (try rewrite [Fast.te5160383126252970620]); (try rewrite [Fast.te3399658132070893891]); (try rewrite [Fast.te5991557255702980513]); (try rewrite [Fast.te10880121769531294198]); (try rewrite [Fast.te821141287760084731]); (try rewrite [Fast.te7409074990110511671]); (try rewrite [Fast.te13664370479719496447]); (try rewrite [Fast.te5923862056798008813]); (try rewrite [Fast.te14722251495701143533]); (try rewrite [Fast.te10994771534591457954]); (try rewrite [Fast.te479339242167458305]); (try rewrite [Fast.te16090120013241838585]); (try rewrite [Fast.te3247288618530077131]); (try rewrite [Fast.te2386780881361962483]); (try rewrite [Fast.te11698064438423848299]); (try rewrite [Fast.te7317090234206586261]); (try rewrite [Fast.te7369524293546568484]); (try rewrite [Fast.te8920871248978507458]); (try rewrite [PySem.W.R.mapR_eq]); (try rewrite [Fast.te9514465320323239794]); kernel_rfl))
def o0:OF:=λp P=>tu []
def o1:OF:=λp P=>nf []
def o2:OF:=λp P=>co [(s "<module>" 182),(s "<module>" 183),(s cF 184),(i 1),(i 0),(i 0),(i 0),(i 0),(r 11),(.bool false),(i 181),(r 12),.none,.none,.none,.none,(i 185),(i 1),(s cF 186)]
def o3:OF:=λp P=>fm [(some (r 13)),(some (r 3)),(some (r 3)),none,(some (s "__main__" 164)),none,(some (r 0))]
def H0(p:Program)(P:Params):Heap:=⟨Array.mk [boot_o_0 P,boot_o_1 P,boot_o_2 P,boot_o_3 P,boot_o_4 P,boot_o_5 P,boot_o_6 P,boot_o_7 P,boot_o_8 P,boot_o_9 P,boot_o_10 P,o0 p P,o1 p P,o2 p P,o3 p P],{}⟩
def dq0_(P:Params):List DictEntry:=[de P "__doc__" 166 .none,de P "__package__" 167 .none,de P "__loader__" 168 (.builtin "__main__.__loader__#opaque"),de P "__spec__" 169 .none,de P "__annotations__" 170 (r 6),de P "__builtins__" 171 (r 4),de P "__file__" 173 (s cF 172),de P "__cached__" 174 .none,de P "WardenError" 206 (r 24)]
def dq1_(P:Params):List DictEntry:=dq0_ P++[de P "Nought" 222 (r 37)]
def dq2_(P:Params):List DictEntry:=dq1_ P++[de P "NoBook" 249 (r 56)]
def dq3_(P:Params):List DictEntry:=dq2_ P++[de P "NoDoor" 265 (r 68)]
def dq4_(P:Params):List DictEntry:=dq3_ P++[de P "NoPass" 294 (r 87)]
def dq5_(P:Params):List DictEntry:=dq4_ P++[de P "NoTree" 319 (r 106),de P "elders_of" 330 (r 115),de P "fields_of" 340 (r 122),de P "is_under" 349 (r 129),de P "full_mask" 357 (r 136),de P "HALF" 361 (.int 2147483648 360)]
def dq6_(P:Params):List DictEntry:=dq5_ P++[de P "TURN" 363 (.int 4294967296 362),de P "wrapped" 370 (r 143),de P "reckoned" 379 (r 150),de P "divided" 388 (r 157),de P "RECKONING" 396 (r 158),de P "OF_RECORDS" 402 (r 159),de P "GOING" 406 (r 160),de P "copied" 414 (r 165),de P "is_door" 422 (r 170),de P "check_door" 432 (r 177)]
def dq7_(P:Params):List DictEntry:=dq6_ P++[de P "ALWAYS" 497 (r 178)]
def dq8_(P:Params):List DictEntry:=dq7_ P++[de P "LEFT" 528 (r 222),de P "asked" 539 (r 229),de P "asked_of_records" 550 (r 236),de P "leaves" 557 (r 243),de P "catcher" 566 (r 250),de P "MOST_FRAMES" 570 (.int 12 569)]
def dq9_(P:Params):List DictEntry:=dq8_ P++[de P "Frame" 603 (r 267),de P "started" 613 (r 278),de P "taken" 619 (r 283),de P "caught_at" 628 (r 290),de P "frame_told" 635 (r 297),de P "replaced" 646 (r 304)]
def dq10_(P:Params):List DictEntry:=dq9_ P++[de P "BY_NOUGHT" 650 (.int 1 649),de P "TOO_DEEP" 652 (.int 2 651)]
def dq11_(P:Params):List DictEntry:=dq10_ P++[de P "Plain" 887 (r 476)]
def dq12_(P:Params):List DictEntry:=dq11_ P++[de P "has_kind" 899 (r 487),de P "record_has_kind" 908 (r 494)]
def dq13_(P:Params):List DictEntry:=dq12_ P++[de P "Watched" 989 (r 553)]
def dq14_(P:Params):List DictEntry:=dq13_ P++[de P "finished" 998 (r 562),de P "run" 1008 (r 569),de P "run_watched" 1018 (r 576),de P "_law_cell" 1030 (r 583),de P "_law_word" 1038 (r 590),de P "_law_kind" 1046 (r 597),de P "_law_part" 1052 (r 602),de P "_law_due" 1058 (r 607),de P "_law_asked" 1072 (r 614),de P "_law_frames" 1078 (r 619),de P "_law_right" 1091 (r 626),de P "law" 1097 (r 631)]
def o4:OF:=λp P=>di (de P "__name__" 165 (s "stackwarden.errors" 187)::dq0_ P) 10
def o5:OF:=λp P=>nf [(i 2),(i 0),(r 20)]
def o6:OF:=λp P=>tu [(.type "ValueError")]
def o7:OF:=λp P=>⟨(.type "builtin_function_or_method"),none,(.fields #[(.builtin "type.__prepare__"),(.type "type")]),#[]⟩
noncomputable def o8:OF:=λp P=>di [de P "__module__" 196 (s "stackwarden.errors" 187),de P "__qualname__" 198 (s "WardenError" 197),de P "__firstlineno__" 200 (.int 2 199),de P "__static_attributes__" 201 (r 22)] 4
def o9:OF:=λp P=>co [(s "WardenError" 191),(s "WardenError" 192),(s cF 193),(i 2),(i 0),(i 0),(i 0),(i 0),(r 18),(.bool false),(i 181),(r 19),.none,.none,.none,.none,(i 194),(i 2),(s cF 195)]
def DU:OF:=λp P=>fm [(some (r 20)),(some (r 3)),(some (r 17)),none,(some (s "stackwarden.errors" 187)),none,(some (r 0))]
noncomputable def Cy:OF:=λp P=>di [de P "__module__" 196 (s "stackwarden.errors" 187),de P "__firstlineno__" 200 (.int 2 199),de P "__static_attributes__" 201 (r 22),de P "__weakref__" 203 (r 25),de P "__doc__" 204 .none] 3
noncomputable def o12:OF:=λp P=>⟨(.type "type"),none,(.cls {name:="WardenError",bases:=[(.type "ValueError")],mro:=[(r 24),(.type "ValueError"),(.type "Exception"),(.type "BaseException"),(.type "object")],ns:=23,qualname:="WardenError"}),#[(some (r 15)),none,(some (s "WardenError" 189)),(some (s "WardenError" 197)),(some (.builtin "ValueError.__new__")),(some (.bool true))]⟩
def Cz:OF:=λp P=>⟨(.type "getset_descriptor"),none,(.fields #[(s "__weakref__" 202),(r 24),(.builtin "ExceptionGroup.__weakref__"),.none]),#[]⟩
def DW:OF:=λp P=>⟨(.type "super"),none,(.fields #[(r 24),(r 24),(r 24)]),#[]⟩
def DY:OF:=λp P=>⟨(.type "builtin_function_or_method"),none,(.fields #[(.builtin "object.__init_subclass__"),(r 24)]),#[]⟩
def o16:OF:=λp P=>di (de P "__name__" 165 (s "stackwarden.errors" 187)::dq1_ P) 11
def o17:OF:=λp P=>nf [(i 2),(i 0),(r 20),(i 4),(i 0),(r 33)]
noncomputable def o18:OF:=λp P=>⟨(.type "type"),none,(.cls {name:="WardenError",bases:=[(.type "ValueError")],mro:=[(r 24),(.type "ValueError"),(.type "Exception"),(.type "BaseException"),(.type "object")],ns:=23,qualname:="WardenError",subclasses:=[(r 37)]}),#[(some (r 15)),none,(some (s "WardenError" 189)),(some (s "WardenError" 197)),(some (.builtin "ValueError.__new__")),(some (.bool true))]⟩
def dU:OF:=λp P=>tu [(r 24)]
noncomputable def Fu:OF:=λp P=>di [de P "__module__" 214 (s "stackwarden.errors" 187),de P "__qualname__" 216 (s "Nought" 215),de P "__firstlineno__" 218 (.int 4 217),de P "__static_attributes__" 219 (r 35)] 4
def Fv:OF:=λp P=>co [(s "Nought" 209),(s "Nought" 210),(s cF 211),(i 4),(i 0),(i 0),(i 0),(i 0),(r 31),(.bool false),(i 181),(r 32),.none,.none,.none,.none,(i 212),(i 4),(s cF 213)]
def Fw:OF:=λp P=>fm [(some (r 33)),(some (r 3)),(some (r 30)),none,(some (s "stackwarden.errors" 187)),none,(some (r 0))]
def DZ:OF:=λp P=>di [de P "__module__" 214 (s "stackwarden.errors" 187),de P "__firstlineno__" 218 (.int 4 217),de P "__static_attributes__" 219 (r 35),de P "__doc__" 220 .none] 2
noncomputable def D1:OF:=λp P=>⟨(.type "type"),none,(.cls {name:="Nought",bases:=[(r 24)],mro:=[(r 37),(r 24),(.type "ValueError"),(.type "Exception"),(.type "BaseException"),(.type "object")],ns:=36,qualname:="Nought"}),#[(some (r 28)),none,(some (s "Nought" 207)),(some (s "Nought" 215)),(some (.builtin "ValueError.__new__")),(some (.bool true))]⟩
def Fx:OF:=λp P=>⟨(.type "super"),none,(.fields #[(r 37),(r 37),(r 37)]),#[]⟩
def Fy:OF:=λp P=>⟨(.type "builtin_function_or_method"),none,(.fields #[(.builtin "object.__init_subclass__"),(r 37)]),#[]⟩
def o27:OF:=λp P=>di (de P "__name__" 165 (s "stackwarden.errors" 187)::dq2_ P) 12
def o28:OF:=λp P=>nf [(i 2),(i 0),(r 20),(i 4),(i 0),(r 33),(i 6),(i 0),(r 45)]
noncomputable def o29:OF:=λp P=>⟨(.type "type"),none,(.cls {name:="WardenError",bases:=[(.type "ValueError")],mro:=[(r 24),(.type "ValueError"),(.type "Exception"),(.type "BaseException"),(.type "object")],ns:=23,qualname:="WardenError",subclasses:=[(r 37),(r 56)]}),#[(some (r 15)),none,(some (s "WardenError" 189)),(some (s "WardenError" 197)),(some (.builtin "ValueError.__new__")),(some (.bool true))]⟩
noncomputable def GP:OF:=λp P=>di [de P "__module__" 230 (s "stackwarden.errors" 187),de P "__qualname__" 232 (s "NoBook" 231),de P "__firstlineno__" 234 (.int 6 233),de P "__init__" 243 (r 53),de P "__static_attributes__" 246 (r 54)] 5
def GQ:OF:=λp P=>nf [(i 8),(i 4),(r 52)]
def GR:OF:=λp P=>co [(s "NoBook" 225),(s "NoBook" 226),(s cF 227),(i 6),(i 0),(i 0),(i 0),(i 0),(r 43),(.bool false),(i 181),(r 44),.none,.none,.none,.none,(i 228),(i 6),(s cF 229)]
def GS:OF:=λp P=>fm [(some (r 45)),(some (r 3)),(some (r 42)),none,(some (s "stackwarden.errors" 187)),none,(some (r 0))]
def GU:OF:=λp P=>tu [(s "self" 238),(s "part" 239),(s "at" 240)]
def HC:OF:=λp P=>no (cY 0 0 "__init__" "NoBook.__init__" (inner (tf p 3)))
noncomputable def GV:OF:=λp P=>co [(s "__init__" 235),(s "NoBook.__init__" 236),(s cF 237),(i 8),(i 3),(i 0),(i 0),(i 3),(r 47),(.bool true),(i 181),(r 48),.none,(r 49),(r 50),(r 51),(i 241),(i 8),(s cF 242)]
def GW:OF:=λp P=>fo (fn "__init__" "NoBook.__init__" (inner (tf p 3)) .none .none .none (s "stackwarden.errors" 187) none (r 52) .none)
def GX:OF:=λp P=>tu [(s "at" 244),(s "part" 245)]
noncomputable def GY:OF:=λp P=>di [de P "__module__" 230 (s "stackwarden.errors" 187),de P "__firstlineno__" 234 (.int 6 233),de P "__init__" 243 (r 53),de P "__static_attributes__" 246 (r 54),de P "__doc__" 247 .none] 2
noncomputable def GZ:OF:=λp P=>⟨(.type "type"),none,(.cls {name:="NoBook",bases:=[(r 24)],mro:=[(r 56),(r 24),(.type "ValueError"),(.type "Exception"),(.type "BaseException"),(.type "object")],ns:=55,qualname:="NoBook"}),#[(some (r 40)),none,(some (s "NoBook" 223)),(some (s "NoBook" 231)),(some (.builtin "ValueError.__new__")),(some (.bool true))]⟩
def HD:OF:=λp P=>⟨(.type "super"),none,(.fields #[(r 56),(r 56),(r 56)]),#[]⟩
def HE:OF:=λp P=>⟨(.type "builtin_function_or_method"),none,(.fields #[(.builtin "object.__init_subclass__"),(r 56)]),#[]⟩
def o43:OF:=λp P=>di (de P "__name__" 165 (s "stackwarden.errors" 187)::dq3_ P) 13
def o44:OF:=λp P=>nf [(i 2),(i 0),(r 20),(i 4),(i 0),(r 33),(i 6),(i 0),(r 45),(i 11),(i 0),(r 64)]
noncomputable def o45:OF:=λp P=>⟨(.type "type"),none,(.cls {name:="WardenError",bases:=[(.type "ValueError")],mro:=[(r 24),(.type "ValueError"),(.type "Exception"),(.type "BaseException"),(.type "object")],ns:=23,qualname:="WardenError",subclasses:=[(r 37),(r 56),(r 68)]}),#[(some (r 15)),none,(some (s "WardenError" 189)),(some (s "WardenError" 197)),(some (.builtin "ValueError.__new__")),(some (.bool true))]⟩
noncomputable def MD:OF:=λp P=>di [de P "__module__" 257 (s "stackwarden.errors" 187),de P "__qualname__" 259 (s "NoDoor" 258),de P "__firstlineno__" 261 (.int 11 260),de P "__static_attributes__" 262 (r 66)] 4
def Ku:OF:=λp P=>co [(s "NoDoor" 252),(s "NoDoor" 253),(s cF 254),(i 11),(i 0),(i 0),(i 0),(i 0),(r 62),(.bool false),(i 181),(r 63),.none,.none,.none,.none,(i 255),(i 11),(s cF 256)]
def Kv:OF:=λp P=>fm [(some (r 64)),(some (r 3)),(some (r 61)),none,(some (s "stackwarden.errors" 187)),none,(some (r 0))]
def HG:OF:=λp P=>di [de P "__module__" 257 (s "stackwarden.errors" 187),de P "__firstlineno__" 261 (.int 11 260),de P "__static_attributes__" 262 (r 66),de P "__doc__" 263 .none] 2
noncomputable def HH:OF:=λp P=>⟨(.type "type"),none,(.cls {name:="NoDoor",bases:=[(r 24)],mro:=[(r 68),(r 24),(.type "ValueError"),(.type "Exception"),(.type "BaseException"),(.type "object")],ns:=67,qualname:="NoDoor"}),#[(some (r 59)),none,(some (s "NoDoor" 250)),(some (s "NoDoor" 258)),(some (.builtin "ValueError.__new__")),(some (.bool true))]⟩
def Kw:OF:=λp P=>⟨(.type "super"),none,(.fields #[(r 68),(r 68),(r 68)]),#[]⟩
def Kx:OF:=λp P=>⟨(.type "builtin_function_or_method"),none,(.fields #[(.builtin "object.__init_subclass__"),(r 68)]),#[]⟩
def o53:OF:=λp P=>di (de P "__name__" 165 (s "stackwarden.errors" 187)::dq4_ P) 14
def o54:OF:=λp P=>nf [(i 2),(i 0),(r 20),(i 4),(i 0),(r 33),(i 6),(i 0),(r 45),(i 11),(i 0),(r 64),(i 13),(i 0),(r 76)]
noncomputable def o55:OF:=λp P=>⟨(.type "type"),none,(.cls {name:="WardenError",bases:=[(.type "ValueError")],mro:=[(r 24),(.type "ValueError"),(.type "Exception"),(.type "BaseException"),(.type "object")],ns:=23,qualname:="WardenError",subclasses:=[(r 37),(r 56),(r 68),(r 87)]}),#[(some (r 15)),none,(some (s "WardenError" 189)),(some (s "WardenError" 197)),(some (.builtin "ValueError.__new__")),(some (.bool true))]⟩
noncomputable def ME:OF:=λp P=>di [de P "__module__" 273 (s "stackwarden.errors" 187),de P "__qualname__" 275 (s "NoPass" 274),de P "__firstlineno__" 277 (.int 13 276),de P "__init__" 287 (r 84),de P "__static_attributes__" 291 (r 85)] 5
def MF:OF:=λp P=>nf [(i 15),(i 4),(r 83)]
def MG:OF:=λp P=>co [(s "NoPass" 268),(s "NoPass" 269),(s cF 270),(i 13),(i 0),(i 0),(i 0),(i 0),(r 74),(.bool false),(i 181),(r 75),.none,.none,.none,.none,(i 271),(i 13),(s cF 272)]
def MI:OF:=λp P=>fm [(some (r 76)),(some (r 3)),(some (r 73)),none,(some (s "stackwarden.errors" 187)),none,(some (r 0))]
def Ky:OF:=λp P=>tu [(s "self" 281),(s "part" 282),(s "at" 283),(s "word" 284)]
def MJ:OF:=λp P=>no (cY 0 0 "__init__" "NoPass.__init__" (inner (tf p 5)))
noncomputable def Kz:OF:=λp P=>co [(s "__init__" 278),(s "NoPass.__init__" 279),(s cF 280),(i 15),(i 4),(i 0),(i 0),(i 3),(r 78),(.bool true),(i 181),(r 79),.none,(r 80),(r 81),(r 82),(i 285),(i 15),(s cF 286)]
def KA:OF:=λp P=>fo (fn "__init__" "NoPass.__init__" (inner (tf p 5)) .none .none .none (s "stackwarden.errors" 187) none (r 83) .none)
def KC:OF:=λp P=>tu [(s "at" 288),(s "part" 289),(s "word" 290)]
noncomputable def KG:OF:=λp P=>di [de P "__module__" 273 (s "stackwarden.errors" 187),de P "__firstlineno__" 277 (.int 13 276),de P "__init__" 287 (r 84),de P "__static_attributes__" 291 (r 85),de P "__doc__" 292 .none] 2
noncomputable def KH:OF:=λp P=>⟨(.type "type"),none,(.cls {name:="NoPass",bases:=[(r 24)],mro:=[(r 87),(r 24),(.type "ValueError"),(.type "Exception"),(.type "BaseException"),(.type "object")],ns:=86,qualname:="NoPass"}),#[(some (r 71)),none,(some (s "NoPass" 266)),(some (s "NoPass" 274)),(some (.builtin "ValueError.__new__")),(some (.bool true))]⟩
def MK:OF:=λp P=>⟨(.type "super"),none,(.fields #[(r 87),(r 87),(r 87)]),#[]⟩
def ML:OF:=λp P=>⟨(.type "builtin_function_or_method"),none,(.fields #[(.builtin "object.__init_subclass__"),(r 87)]),#[]⟩
def o69:OF:=λp P=>di (de P "__name__" 165 (s "stackwarden.words" 358)::dq5_ P) 20
noncomputable def o70:OF:=λp P=>nf [(i 2),(i 0),(r 20),(i 4),(i 0),(r 33),(i 6),(i 0),(r 45),(i 11),(i 0),(r 64),(i 13),(i 0),(r 76),(i 19),(i 0),(r 95),(i 24),(i 0),(r 114),(i 30),(i 0),(r 121),(i 35),(i 0),(r 128),(i 37),(i 0),(r 135)]
noncomputable def KI:OF:=λp P=>⟨(.type "type"),none,(.cls {name:="WardenError",bases:=[(.type "ValueError")],mro:=[(r 24),(.type "ValueError"),(.type "Exception"),(.type "BaseException"),(.type "object")],ns:=23,qualname:="WardenError",subclasses:=[(r 37),(r 56),(r 68),(r 87),(r 106)]}),#[(some (r 15)),none,(some (s "WardenError" 189)),(some (s "WardenError" 197)),(some (.builtin "ValueError.__new__")),(some (.bool true))]⟩
noncomputable def QM:OF:=λp P=>di [de P "__module__" 302 (s "stackwarden.errors" 187),de P "__qualname__" 304 (s "NoTree" 303),de P "__firstlineno__" 306 (.int 19 305),de P "__init__" 314 (r 103),de P "__static_attributes__" 316 (r 104)] 5
def OQ:OF:=λp P=>nf [(i 21),(i 4),(r 102)]
def OR:OF:=λp P=>co [(s "NoTree" 297),(s "NoTree" 298),(s cF 299),(i 19),(i 0),(i 0),(i 0),(i 0),(r 93),(.bool false),(i 181),(r 94),.none,.none,.none,.none,(i 300),(i 19),(s cF 301)]
def OS:OF:=λp P=>fm [(some (r 95)),(some (r 3)),(some (r 92)),none,(some (s "stackwarden.errors" 187)),none,(some (r 0))]
def KJ:OF:=λp P=>tu [(s "self" 310),(s "part" 311)]
def MM:OF:=λp P=>no (cY 0 0 "__init__" "NoTree.__init__" (inner (tf p 6)))
noncomputable def KL:OF:=λp P=>co [(s "__init__" 307),(s "NoTree.__init__" 308),(s cF 309),(i 21),(i 2),(i 0),(i 0),(i 3),(r 97),(.bool true),(i 181),(r 98),.none,(r 99),(r 100),(r 101),(i 312),(i 21),(s cF 313)]
def KN:OF:=λp P=>fo (fn "__init__" "NoTree.__init__" (inner (tf p 6)) .none .none .none (s "stackwarden.errors" 187) none (r 102) .none)
def KO:OF:=λp P=>tu [(s "part" 315)]
noncomputable def KP:OF:=λp P=>di [de P "__module__" 302 (s "stackwarden.errors" 187),de P "__firstlineno__" 306 (.int 19 305),de P "__init__" 314 (r 103),de P "__static_attributes__" 316 (r 104),de P "__doc__" 317 .none] 2
noncomputable def KQ:OF:=λp P=>⟨(.type "type"),none,(.cls {name:="NoTree",bases:=[(r 24)],mro:=[(r 106),(r 24),(.type "ValueError"),(.type "Exception"),(.type "BaseException"),(.type "object")],ns:=105,qualname:="NoTree"}),#[(some (r 90)),none,(some (s "NoTree" 295)),(some (s "NoTree" 303)),(some (.builtin "ValueError.__new__")),(some (.bool true))]⟩
def MN:OF:=λp P=>⟨(.type "super"),none,(.fields #[(r 106),(r 106),(r 106)]),#[]⟩
def OT:OF:=λp P=>⟨(.type "builtin_function_or_method"),none,(.fields #[(.builtin "object.__init_subclass__"),(r 106)]),#[]⟩
def MO:OF:=λp P=>tu [(s "makes" 325),(s "c" 326),(s "elders" 327)]
def OU:OF:=λp P=>no (cY 0 0 "elders_of" "elders_of" (tf p 8))
noncomputable def MP:OF:=λp P=>co [(s "elders_of" 322),(s "elders_of" 323),(s cF 324),(i 24),(i 2),(i 0),(i 0),(i 3),(r 109),(.bool true),(i 181),(r 110),.none,(r 111),(r 112),(r 113),(i 328),(i 24),(s cF 329)]
def MQ:OF:=λp P=>fo (fn "elders_of" "elders_of" (tf p 8) .none .none .none (s "stackwarden.kinds" 320) none (r 114) .none)
def MR:OF:=λp P=>tu [(s "makes" 334),(s "c" 335),(s "fields" 336),(s "elder" 337)]
def OV:OF:=λp P=>no (cY 0 0 "fields_of" "fields_of" (tf p 9))
noncomputable def MS:OF:=λp P=>co [(s "fields_of" 331),(s "fields_of" 332),(s cF 333),(i 30),(i 2),(i 0),(i 0),(i 3),(r 116),(.bool true),(i 181),(r 117),.none,(r 118),(r 119),(r 120),(i 338),(i 30),(s cF 339)]
def MT:OF:=λp P=>fo (fn "fields_of" "fields_of" (tf p 9) .none .none .none (s "stackwarden.kinds" 320) none (r 121) .none)
def OW:OF:=λp P=>tu [(s "makes" 344),(s "c" 345),(s "other" 346)]
def OX:OF:=λp P=>no (cY 0 0 "is_under" "is_under" (tf p 10))
noncomputable def MU:OF:=λp P=>co [(s "is_under" 341),(s "is_under" 342),(s cF 343),(i 35),(i 3),(i 0),(i 0),(i 3),(r 123),(.bool true),(i 181),(r 124),.none,(r 125),(r 126),(r 127),(i 347),(i 35),(s cF 348)]
def MV:OF:=λp P=>fo (fn "is_under" "is_under" (tf p 10) .none .none .none (s "stackwarden.kinds" 320) none (r 128) .none)
def MW:OF:=λp P=>tu [(s "makes" 353),(s "c" 354)]
def OY:OF:=λp P=>no (cY 0 0 "full_mask" "full_mask" (tf p 11))
noncomputable def MX:OF:=λp P=>co [(s "full_mask" 350),(s "full_mask" 351),(s cF 352),(i 37),(i 2),(i 0),(i 0),(i 3),(r 130),(.bool true),(i 181),(r 131),.none,(r 132),(r 133),(r 134),(i 355),(i 37),(s cF 356)]
def xy:OF:=λp P=>fo (fn "full_mask" "full_mask" (tf p 11) .none .none .none (s "stackwarden.kinds" 320) none (r 135) .none)
def aad:OF:=λp P=>di (de P "__name__" 165 (s "stackwarden.asks" 433)::dq6_ P) 30
noncomputable def VV:OF:=λp P=>nf [(i 2),(i 0),(r 20),(i 4),(i 0),(r 33),(i 6),(i 0),(r 45),(i 11),(i 0),(r 64),(i 13),(i 0),(r 76),(i 19),(i 0),(r 95),(i 24),(i 0),(r 114),(i 30),(i 0),(r 121),(i 35),(i 0),(r 128),(i 37),(i 0),(r 135),(i 42),(i 0),(r 142),(i 44),(i 0),(r 149),(i 56),(i 0),(r 156),(i 66),(i 0),(r 164),(i 71),(i 0),(r 169),(i 73),(i 0),(r 176)]
def zJ:OF:=λp P=>tu [(s "number" 367)]
def BK:OF:=λp P=>no (cY 0 0 "wrapped" "wrapped" (tf p 15))
def zK:OF:=λp P=>co [(s "wrapped" 364),(s "wrapped" 365),(s cF 366),(i 42),(i 1),(i 0),(i 0),(i 3),(r 137),(.bool true),(i 181),(r 138),.none,(r 139),(r 140),(r 141),(i 368),(i 42),(s cF 369)]
def zL:OF:=λp P=>fo (fn "wrapped" "wrapped" (tf p 15) .none .none .none (s "stackwarden.words" 358) none (r 142) .none)
def zM:OF:=λp P=>tu [(s "sign" 374),(s "one" 375),(s "other" 376)]
def BL:OF:=λp P=>no (cY 0 0 "reckoned" "reckoned" (tf p 16))
noncomputable def zN:OF:=λp P=>co [(s "reckoned" 371),(s "reckoned" 372),(s cF 373),(i 44),(i 3),(i 0),(i 0),(i 3),(r 144),(.bool true),(i 181),(r 145),.none,(r 146),(r 147),(r 148),(i 377),(i 44),(s cF 378)]
def zO:OF:=λp P=>fo (fn "reckoned" "reckoned" (tf p 16) .none .none .none (s "stackwarden.words" 358) none (r 149) .none)
def zP:OF:=λp P=>tu [(s "sign" 383),(s "one" 384),(s "other" 385)]
def D3:OF:=λp P=>no (cY 0 0 "divided" "divided" (tf p 17))
def BM:OF:=λp P=>co [(s "divided" 380),(s "divided" 381),(s cF 382),(i 56),(i 3),(i 0),(i 0),(i 3),(r 151),(.bool true),(i 181),(r 152),.none,(r 153),(r 154),(r 155),(i 386),(i 56),(s cF 387)]
def BN:OF:=λp P=>fo (fn "divided" "divided" (tf p 17) .none .none .none (s "stackwarden.words" 358) none (r 156) .none)
def zQ:OF:=λp P=>tu [(s "add" 389),(s "sub" 390),(s "mul" 391),(s "div" 392),(s "rem" 393),(s "less" 394),(s "same" 395)]
def zR:OF:=λp P=>tu [(s "make" 397),(s "fill" 398),(s "begin" 399),(s "get" 400),(s "put" 401)]
def zS:OF:=λp P=>tu [(s "jump" 403),(s "zero" 404),(s "kin" 405)]
def zT:OF:=λp P=>no (cY 0 0 "copied" "copied" (tf p 22))
def xA:OF:=λp P=>co [(s "copied" 409),(s "copied" 410),(s cF 411),(i 66),(i 1),(i 0),(i 0),(i 3),(r 161),(.bool true),(i 181),(r 162),.none,.none,.none,(r 163),(i 412),(i 66),(s cF 413)]
def xB:OF:=λp P=>fo (fn "copied" "copied" (tf p 22) .none .none .none (s "stackwarden.books" 407) none (r 164) .none)
def zU:OF:=λp P=>no (cY 0 0 "is_door" "is_door" (tf p 24))
def xC:OF:=λp P=>co [(s "is_door" 417),(s "is_door" 418),(s cF 419),(i 71),(i 2),(i 0),(i 0),(i 3),(r 166),(.bool true),(i 181),(r 167),.none,.none,.none,(r 168),(i 420),(i 71),(s cF 421)]
def xD:OF:=λp P=>fo (fn "is_door" "is_door" (tf p 24) .none .none .none (s "stackwarden.doors" 415) none (r 169) .none)
def zV:OF:=λp P=>tu [(s "parts" 426),(s "part" 427),(s "inputs" 428),(s "takes" 429)]
def BO:OF:=λp P=>no (cY 0 0 "check_door" "check_door" (tf p 25))
noncomputable def zW:OF:=λp P=>co [(s "check_door" 423),(s "check_door" 424),(s cF 425),(i 73),(i 3),(i 0),(i 0),(i 3),(r 171),(.bool true),(i 181),(r 172),.none,(r 173),(r 174),(r 175),(i 430),(i 73),(s cF 431)]
def zX:OF:=λp P=>fo (fn "check_door" "check_door" (tf p 25) .none .none .none (s "stackwarden.doors" 415) none (r 176) .none)
def aae:OF:=λp P=>di (de P "__name__" 165 (s "stackwarden.asks" 433)::dq7_ P) 31
noncomputable def BP:OF:=λp P=>di [de P "push" 435 (r 179),de P "load" 437 (r 180),de P "store" 439 (r 182),de P "dup" 442 (r 184),de P "swap" 445 (r 187),de P "drop" 449 (r 189),de P "add" 452 (r 192),de P "sub" 456 (r 195),de P "mul" 460 (r 198),de P "div" 464 (r 201),de P "rem" 468 (r 204),de P "less" 472 (r 207),de P "same" 476 (r 210),de P "jump" 480 (r 211),de P "zero" 482 (r 213),de P "kin" 485 (r 215),de P "make" 489 (r 216),de P "toss" 491 (r 219),de P "say" 493 (r 221)] 19
def BQ:OF:=λp P=>tu [(s "any" 440)]
def BR:OF:=λp P=>tu [(r 181)]
def BS:OF:=λp P=>tu [(s "any" 443)]
def BU:OF:=λp P=>tu [(r 183)]
def BV:OF:=λp P=>tu [(s "any" 446)]
def BW:OF:=λp P=>tu [(s "any" 447)]
def D4:OF:=λp P=>tu [(r 185),(r 186)]
def D5:OF:=λp P=>tu [(s "any" 450)]
def D6:OF:=λp P=>tu [(r 188)]
def BX:OF:=λp P=>tu [(s "number" 453)]
def BY:OF:=λp P=>tu [(s "number" 454)]
def BZ:OF:=λp P=>tu [(r 190),(r 191)]
def B0:OF:=λp P=>tu [(s "number" 457)]
def B1:OF:=λp P=>tu [(s "number" 458)]
def B2:OF:=λp P=>tu [(r 193),(r 194)]
def B3:OF:=λp P=>tu [(s "number" 461)]
def B4:OF:=λp P=>tu [(s "number" 462)]
def B5:OF:=λp P=>tu [(r 196),(r 197)]
def B6:OF:=λp P=>tu [(s "number" 465)]
def B7:OF:=λp P=>tu [(s "number" 466)]
def B8:OF:=λp P=>tu [(r 199),(r 200)]
def B9:OF:=λp P=>tu [(s "number" 469)]
def Ca:OF:=λp P=>tu [(s "number" 470)]
def Cb:OF:=λp P=>tu [(r 202),(r 203)]
def Cc:OF:=λp P=>tu [(s "number" 473)]
def Cd:OF:=λp P=>tu [(s "number" 474)]
def Cf:OF:=λp P=>tu [(r 205),(r 206)]
def Cg:OF:=λp P=>tu [(s "number" 477)]
def Ci:OF:=λp P=>tu [(s "number" 478)]
def Cj:OF:=λp P=>tu [(r 208),(r 209)]
def Ck:OF:=λp P=>tu [(s "number" 483)]
def Cm:OF:=λp P=>tu [(r 212)]
def Cn:OF:=λp P=>tu [(s "whole" 486),(.int 0 487)]
def Co:OF:=λp P=>tu [(r 214)]
def D7:OF:=λp P=>di [de P "toss" 491 (r 219),de P "say" 493 (r 221)] 2
def Cp:OF:=λp P=>tu [(s "number" 492)]
def D8:OF:=λp P=>tu [(r 218)]
def D9:OF:=λp P=>tu [(s "number" 494)]
def Ea:OF:=λp P=>tu [(r 220)]
def aaf:OF:=λp P=>di (de P "__name__" 165 (s "stackwarden.frames" 567)::dq8_ P) 37
noncomputable def aag:OF:=λp P=>nf [(i 2),(i 0),(r 20),(i 4),(i 0),(r 33),(i 6),(i 0),(r 45),(i 11),(i 0),(r 64),(i 13),(i 0),(r 76),(i 19),(i 0),(r 95),(i 24),(i 0),(r 114),(i 30),(i 0),(r 121),(i 35),(i 0),(r 128),(i 37),(i 0),(r 135),(i 42),(i 0),(r 142),(i 44),(i 0),(r 149),(i 56),(i 0),(r 156),(i 66),(i 0),(r 164),(i 71),(i 0),(r 169),(i 73),(i 0),(r 176),(i 82),(i 0),(r 228),(i 92),(i 0),(r 235),(i 103),(i 0),(r 242),(i 105),(i 0),(r 249)]
noncomputable def Eb:OF:=λp P=>di [de P "store" 498 (.int 0 499),de P "dup" 500 (.int 2 501),de P "swap" 502 (.int 2 503),de P "drop" 504 (.int 0 505),de P "jump" 506 (.int 0 507),de P "zero" 508 (.int 0 509),de P "put" 510 (.int 0 511),de P "toss" 512 (.int 0 513),de P "say" 514 (.int 0 515),de P "give" 516 (.int 0 517)] 10
def Cq:OF:=λp P=>tu [(s "book" 532),(s "part" 533),(s "row" 534),(s "sign" 535),(s "parts" 536)]
def Ec:OF:=λp P=>no (cY 0 0 "asked" "asked" (tf p 29))
def Cr:OF:=λp P=>co [(s "asked" 529),(s "asked" 530),(s cF 531),(i 82),(i 3),(i 0),(i 0),(i 3),(r 223),(.bool true),(i 181),(r 224),.none,(r 225),(r 226),(r 227),(i 537),(i 82),(s cF 538)]
def Cs:OF:=λp P=>fo (fn "asked" "asked" (tf p 29) .none .none .none (s "stackwarden.asks" 433) none (r 228) .none)
def Ct:OF:=λp P=>tu [(s "makes" 543),(s "row" 544),(s "sign" 545),(s "c" 546),(s "field" 547)]
def Ed:OF:=λp P=>no (cY 0 0 "asked_of_records" "asked_of_records" (tf p 30))
noncomputable def Cu:OF:=λp P=>co [(s "asked_of_records" 540),(s "asked_of_records" 541),(s cF 542),(i 92),(i 2),(i 0),(i 0),(i 3),(r 230),(.bool true),(i 181),(r 231),.none,(r 232),(r 233),(r 234),(i 548),(i 92),(s cF 549)]
def Ee:OF:=λp P=>fo (fn "asked_of_records" "asked_of_records" (tf p 30) .none .none .none (s "stackwarden.asks" 433) none (r 235) .none)
def Ef:OF:=λp P=>tu [(s "row" 554)]
def G0:OF:=λp P=>no (cY 0 0 "leaves" "leaves" (tf p 31))
def Eg:OF:=λp P=>co [(s "leaves" 551),(s "leaves" 552),(s cF 553),(i 103),(i 1),(i 0),(i 0),(i 3),(r 237),(.bool true),(i 181),(r 238),.none,(r 239),(r 240),(r 241),(i 555),(i 103),(s cF 556)]
def Eh:OF:=λp P=>fo (fn "leaves" "leaves" (tf p 31) .none .none .none (s "stackwarden.asks" 433) none (r 242) .none)
def Ei:OF:=λp P=>tu [(s "stretches" 561),(s "at" 562),(s "stretch" 563)]
def G2:OF:=λp P=>no (cY 0 0 "catcher" "catcher" (tf p 32))
noncomputable def Ej:OF:=λp P=>co [(s "catcher" 558),(s "catcher" 559),(s cF 560),(i 105),(i 2),(i 0),(i 0),(i 3),(r 244),(.bool true),(i 181),(r 245),.none,(r 246),(r 247),(r 248),(i 564),(i 105),(s cF 565)]
def Ek:OF:=λp P=>fo (fn "catcher" "catcher" (tf p 32) .none .none .none (s "stackwarden.asks" 433) none (r 249) .none)
def aah:OF:=λp P=>di (de P "__name__" 165 (s "stackwarden.plain" 647)::dq9_ P) 43
noncomputable def aai:OF:=λp P=>nf [(i 2),(i 0),(r 20),(i 4),(i 0),(r 33),(i 6),(i 0),(r 45),(i 11),(i 0),(r 64),(i 13),(i 0),(r 76),(i 19),(i 0),(r 95),(i 24),(i 0),(r 114),(i 30),(i 0),(r 121),(i 35),(i 0),(r 128),(i 37),(i 0),(r 135),(i 42),(i 0),(r 142),(i 44),(i 0),(r 149),(i 56),(i 0),(r 156),(i 66),(i 0),(r 164),(i 71),(i 0),(r 169),(i 73),(i 0),(r 176),(i 82),(i 0),(r 228),(i 92),(i 0),(r 235),(i 103),(i 0),(r 242),(i 105),(i 0),(r 249),(i 112),(i 0),(r 256),(i 119),(i 0),(r 277),(i 121),(i 0),(r 282),(i 125),(i 0),(r 289),(i 132),(i 0),(r 296),(i 135),(i 0),(r 303)]
noncomputable def KR:OF:=λp P=>di [de P "__module__" 578 (s "stackwarden.frames" 567),de P "__qualname__" 580 (s "Frame" 579),de P "__firstlineno__" 582 (.int 112 581),de P "__init__" 591 (r 264),de P "__static_attributes__" 596 (r 265)] 5
def KS:OF:=λp P=>nf [(i 114),(i 4),(r 263)]
def KU:OF:=λp P=>co [(s "Frame" 573),(s "Frame" 574),(s cF 575),(i 112),(i 0),(i 0),(i 0),(i 0),(r 254),(.bool false),(i 181),(r 255),.none,.none,.none,.none,(i 576),(i 112),(s cF 577)]
def KW:OF:=λp P=>fm [(some (r 256)),(some (r 3)),(some (r 253)),none,(some (s "stackwarden.frames" 567)),none,(some (r 0))]
def G3:OF:=λp P=>tu [(s "self" 586),(s "part" 587),(s "boxes" 588)]
def KY:OF:=λp P=>no (cY 0 0 "__init__" "Frame.__init__" (iC (tf p 35) 0))
noncomputable def G4:OF:=λp P=>co [(s "__init__" 583),(s "Frame.__init__" 584),(s cF 585),(i 114),(i 3),(i 0),(i 0),(i 3),(r 258),(.bool true),(i 181),(r 259),.none,(r 260),(r 261),(r 262),(i 589),(i 114),(s cF 590)]
def G5:OF:=λp P=>fo (fn "__init__" "Frame.__init__" (iC (tf p 35) 0) .none .none .none (s "stackwarden.frames" 567) none (r 263) .none)
def G6:OF:=λp P=>tu [(s "at" 592),(s "boxes" 593),(s "part" 594),(s "stack" 595)]
noncomputable def G7:OF:=λp P=>di [de P "__module__" 578 (s "stackwarden.frames" 567),de P "__firstlineno__" 582 (.int 112 581),de P "__init__" 591 (r 264),de P "__static_attributes__" 596 (r 265),de P "__dict__" 598 (r 268),de P "__weakref__" 600 (r 269),de P "__doc__" 601 .none] 4
noncomputable def G8:OF:=λp P=>⟨(.type "type"),none,(.cls {name:="Frame",bases:=[(.type "object")],mro:=[(r 267),(.type "object")],ns:=266,qualname:="Frame"}),#[none,none,(some (s "Frame" 571)),(some (s "Frame" 579)),(some (.builtin "object.__new__")),(some (.bool true))]⟩
def G9:OF:=λp P=>⟨(.type "getset_descriptor"),none,(.fields #[(s "__dict__" 597),(r 267),(.builtin "function.__dict__"),(.builtin "function.__dict__#set")]),#[]⟩
def Ha:OF:=λp P=>⟨(.type "getset_descriptor"),none,(.fields #[(s "__weakref__" 599),(r 267),(.builtin "ExceptionGroup.__weakref__"),.none]),#[]⟩
def KZ:OF:=λp P=>⟨(.type "super"),none,(.fields #[(r 267),(r 267),(r 267)]),#[]⟩
def K5:OF:=λp P=>⟨(.type "builtin_function_or_method"),none,(.fields #[(.builtin "object.__init_subclass__"),(r 267)]),#[]⟩
def Hb:OF:=λp P=>tu [(s "parts" 607),(s "part" 608),(s "values" 609),(s "nothing" 610)]
def K6:OF:=λp P=>no (cY 0 0 "started" "started" (tf p 36))
noncomputable def Hc:OF:=λp P=>co [(s "started" 604),(s "started" 605),(s cF 606),(i 119),(i 4),(i 0),(i 0),(i 3),(r 272),(.bool true),(i 181),(r 273),.none,(r 274),(r 275),(r 276),(i 611),(i 119),(s cF 612)]
def Hd:OF:=λp P=>fo (fn "started" "started" (tf p 36) .none .none .none (s "stackwarden.frames" 567) none (r 277) .none)
def K7:OF:=λp P=>no (cY 0 0 "taken" "taken" (tf p 37))
def He:OF:=λp P=>co [(s "taken" 614),(s "taken" 615),(s cF 616),(i 121),(i 2),(i 0),(i 0),(i 3),(r 279),(.bool true),(i 181),(r 280),.none,.none,.none,(r 281),(i 617),(i 121),(s cF 618)]
def Hf:OF:=λp P=>fo (fn "taken" "taken" (tf p 37) .none .none .none (s "stackwarden.frames" 567) none (r 282) .none)
def Hg:OF:=λp P=>tu [(s "parts" 623),(s "live" 624),(s "at" 625)]
def K9:OF:=λp P=>no (cY 0 0 "caught_at" "caught_at" (tf p 38))
noncomputable def El:OF:=λp P=>co [(s "caught_at" 620),(s "caught_at" 621),(s cF 622),(i 125),(i 2),(i 0),(i 0),(i 3),(r 284),(.bool true),(i 181),(r 285),.none,(r 286),(r 287),(r 288),(i 626),(i 125),(s cF 627)]
def Em:OF:=λp P=>fo (fn "caught_at" "caught_at" (tf p 38) .none .none .none (s "stackwarden.frames" 567) none (r 289) .none)
def Eo:OF:=λp P=>tu [(s "frame" 632)]
def Hh:OF:=λp P=>no (cY 0 0 "frame_told" "frame_told" (tf p 39))
noncomputable def Ep:OF:=λp P=>co [(s "frame_told" 629),(s "frame_told" 630),(s cF 631),(i 132),(i 1),(i 0),(i 0),(i 3),(r 291),(.bool true),(i 181),(r 292),.none,(r 293),(r 294),(r 295),(i 633),(i 132),(s cF 634)]
def Er:OF:=λp P=>fo (fn "frame_told" "frame_told" (tf p 39) .none .none .none (s "stackwarden.frames" 567) none (r 296) .none)
def Hi:OF:=λp P=>tu [(s "some" 641),(s "spot" 642),(s "thing" 643)]
def La:OF:=λp P=>no (cY 0 0 "replaced" "replaced" (tf p 41))
noncomputable def Hj:OF:=λp P=>co [(s "replaced" 638),(s "replaced" 639),(s cF 640),(i 135),(i 3),(i 0),(i 0),(i 3),(r 298),(.bool true),(i 181),(r 299),.none,(r 300),(r 301),(r 302),(i 644),(i 135),(s cF 645)]
def Hk:OF:=λp P=>fo (fn "replaced" "replaced" (tf p 41) .none .none .none (s "stackwarden.spots" 636) none (r 303) .none)
def aaj:OF:=λp P=>di (de P "__name__" 165 (s "stackwarden.plain" 647)::dq10_ P) 45
def aak:OF:=λp P=>di (de P "__name__" 165 (s "stackwarden.plain" 647)::dq11_ P) 46
noncomputable def aal:OF:=λp P=>nf [(i 2),(i 0),(r 20),(i 4),(i 0),(r 33),(i 6),(i 0),(r 45),(i 11),(i 0),(r 64),(i 13),(i 0),(r 76),(i 19),(i 0),(r 95),(i 24),(i 0),(r 114),(i 30),(i 0),(r 121),(i 35),(i 0),(r 128),(i 37),(i 0),(r 135),(i 42),(i 0),(r 142),(i 44),(i 0),(r 149),(i 56),(i 0),(r 156),(i 66),(i 0),(r 164),(i 71),(i 0),(r 169),(i 73),(i 0),(r 176),(i 82),(i 0),(r 228),(i 92),(i 0),(r 235),(i 103),(i 0),(r 242),(i 105),(i 0),(r 249),(i 112),(i 0),(r 256),(i 119),(i 0),(r 277),(i 121),(i 0),(r 282),(i 125),(i 0),(r 289),(i 132),(i 0),(r 296),(i 135),(i 0),(r 303),(i 140),(i 0),(r 310)]
noncomputable def OZ:OF:=λp P=>di [de P "__module__" 660 (s "stackwarden.plain" 647),de P "__qualname__" 662 (s "Plain" 661),de P "__firstlineno__" 664 (.int 140 663),de P "__init__" 670 (r 316),de P "told" 677 (r 323),de P "frames" 683 (r 328),de P "heap" 690 (r 335),de P "step" 700 (r 342),de P "do_row" 710 (r 349),de P "do_straight" 722 (r 356),de P "do_of_records" 735 (r 363),de P "do_reckoning" 741 (r 368),de P "do_going" 750 (r 375),de P "goes" 760 (r 382),de P "go_on" 769 (r 389),de P "spend" 776 (r 396),de P "add_frame" 785 (r 403),de P "do_call" 794 (r 410),de P "do_give" 804 (r 417),de P "fault" 814 (r 424),de P "nothing" 821 (r 431),de P "tagged" 830 (r 438),de P "bare" 838 (r 445),de P "new_record" 846 (r 452),de P "with_field" 856 (r 459),de P "as_begun" 864 (r 466),de P "looked" 873 (r 473),de P "__static_attributes__" 880 (r 474)] 28
noncomputable def O0:OF:=λp P=>nf [(i 142),(i 4),(r 315),(i 152),(i 4),(r 322),(i 155),(i 4),(r 327),(i 158),(i 4),(r 334),(i 161),(i 4),(r 341),(i 172),(i 4),(r 348),(i 191),(i 4),(r 355),(i 210),(i 4),(r 362),(i 228),(i 4),(r 367),(i 238),(i 4),(r 374),(i 244),(i 4),(r 381),(i 252),(i 4),(r 388),(i 256),(i 4),(r 395),(i 263),(i 4),(r 402),(i 266),(i 4),(r 409),(i 274),(i 4),(r 416),(i 284),(i 4),(r 423),(i 293),(i 4),(r 430),(i 296),(i 4),(r 437),(i 299),(i 4),(r 444),(i 302),(i 4),(r 451),(i 305),(i 4),(r 458),(i 308),(i 4),(r 465),(i 311),(i 4),(r 472)]
def O1:OF:=λp P=>co [(s "Plain" 655),(s "Plain" 656),(s cF 657),(i 140),(i 0),(i 0),(i 0),(i 0),(r 308),(.bool false),(i 181),(r 309),.none,.none,.none,.none,(i 658),(i 140),(s cF 659)]
def O2:OF:=λp P=>fm [(some (r 310)),(some (r 3)),(some (r 307)),none,(some (s "stackwarden.plain" 647)),none,(some (r 0))]
def O3:OF:=λp P=>no (cY 0 0 "__init__" "Plain.__init__" (iC (tf p 45) 0))
noncomputable def Lb:OF:=λp P=>co [(s "__init__" 665),(s "Plain.__init__" 666),(s cF 667),(i 142),(i 5),(i 0),(i 0),(i 3),(r 312),(.bool true),(i 181),(r 313),.none,.none,.none,(r 314),(i 668),(i 142),(s cF 669)]
def Lc:OF:=λp P=>fo (fn "__init__" "Plain.__init__" (iC (tf p 45) 0) .none .none .none (s "stackwarden.plain" 647) none (r 315) .none)
def Ld:OF:=λp P=>tu [(s "self" 674)]
def O4:OF:=λp P=>no (cY 0 0 "told" "Plain.told" (iC (tf p 45) 1))
noncomputable def Le:OF:=λp P=>co [(s "told" 671),(s "Plain.told" 672),(s cF 673),(i 152),(i 1),(i 0),(i 0),(i 3),(r 317),(.bool true),(i 181),(r 318),.none,(r 319),(r 320),(r 321),(i 675),(i 152),(s cF 676)]
def Lf:OF:=λp P=>fo (fn "told" "Plain.told" (iC (tf p 45) 1) .none .none .none (s "stackwarden.plain" 647) none (r 322) .none)
def O5:OF:=λp P=>no (cY 0 0 "frames" "Plain.frames" (iC (tf p 45) 2))
noncomputable def Lg:OF:=λp P=>co [(s "frames" 678),(s "Plain.frames" 679),(s cF 680),(i 155),(i 1),(i 0),(i 0),(i 3),(r 324),(.bool true),(i 181),(r 325),.none,.none,.none,(r 326),(i 681),(i 155),(s cF 682)]
def Lh:OF:=λp P=>fo (fn "frames" "Plain.frames" (iC (tf p 45) 2) .none .none .none (s "stackwarden.plain" 647) none (r 327) .none)
def Li:OF:=λp P=>tu [(s "self" 687)]
def O6:OF:=λp P=>no (cY 0 0 "heap" "Plain.heap" (iC (tf p 45) 3))
noncomputable def Lj:OF:=λp P=>co [(s "heap" 684),(s "Plain.heap" 685),(s cF 686),(i 158),(i 1),(i 0),(i 0),(i 3),(r 329),(.bool true),(i 181),(r 330),.none,(r 331),(r 332),(r 333),(i 688),(i 158),(s cF 689)]
def Lk:OF:=λp P=>fo (fn "heap" "Plain.heap" (iC (tf p 45) 3) .none .none .none (s "stackwarden.plain" 647) none (r 334) .none)
def Ll:OF:=λp P=>tu [(s "self" 694),(s "frame" 695),(s "row" 696),(s "word" 697)]
def O7:OF:=λp P=>no (cY 0 0 "step" "Plain.step" (iC (tf p 45) 4))
noncomputable def Lm:OF:=λp P=>co [(s "step" 691),(s "Plain.step" 692),(s cF 693),(i 161),(i 1),(i 0),(i 0),(i 3),(r 336),(.bool true),(i 181),(r 337),.none,(r 338),(r 339),(r 340),(i 698),(i 161),(s cF 699)]
def Ln:OF:=λp P=>fo (fn "step" "Plain.step" (iC (tf p 45) 4) .none .none .none (s "stackwarden.plain" 647) none (r 341) .none)
def Lo:OF:=λp P=>tu [(s "self" 704),(s "frame" 705),(s "row" 706),(s "sign" 707)]
def O8:OF:=λp P=>no (cY 0 0 "do_row" "Plain.do_row" (iC (tf p 45) 5))
noncomputable def Lp:OF:=λp P=>co [(s "do_row" 701),(s "Plain.do_row" 702),(s cF 703),(i 172),(i 3),(i 0),(i 0),(i 3),(r 343),(.bool true),(i 181),(r 344),.none,(r 345),(r 346),(r 347),(i 708),(i 172),(s cF 709)]
def Lq:OF:=λp P=>fo (fn "do_row" "Plain.do_row" (iC (tf p 45) 5) .none .none .none (s "stackwarden.plain" 647) none (r 348) .none)
def Lr:OF:=λp P=>tu [(s "self" 714),(s "frame" 715),(s "row" 716),(s "sign" 717),(s "stack" 718),(s "pair" 719)]
def Ls:OF:=λp P=>no (cY 0 0 "do_straight" "Plain.do_straight" (iC (tf p 45) 6))
noncomputable def Hl:OF:=λp P=>co [(s "do_straight" 711),(s "Plain.do_straight" 712),(s cF 713),(i 191),(i 3),(i 0),(i 0),(i 3),(r 350),(.bool true),(i 181),(r 351),.none,(r 352),(r 353),(r 354),(i 720),(i 191),(s cF 721)]
def Hm:OF:=λp P=>fo (fn "do_straight" "Plain.do_straight" (iC (tf p 45) 6) .none .none .none (s "stackwarden.plain" 647) none (r 355) .none)
def Hn:OF:=λp P=>tu [(s "self" 726),(s "stack" 727),(s "row" 728),(s "sign" 729),(s "number" 730),(s "record" 731),(s "value" 732)]
def Lu:OF:=λp P=>no (cY 0 0 "do_of_records" "Plain.do_of_records" (iC (tf p 45) 7))
noncomputable def Ho:OF:=λp P=>co [(s "do_of_records" 723),(s "Plain.do_of_records" 724),(s cF 725),(i 210),(i 3),(i 0),(i 0),(i 3),(r 357),(.bool true),(i 181),(r 358),.none,(r 359),(r 360),(r 361),(i 733),(i 210),(s cF 734)]
def Hq:OF:=λp P=>fo (fn "do_of_records" "Plain.do_of_records" (iC (tf p 45) 7) .none .none .none (s "stackwarden.plain" 647) none (r 362) .none)
def O9:OF:=λp P=>no (cY 0 0 "do_reckoning" "Plain.do_reckoning" (iC (tf p 45) 8))
noncomputable def Lw:OF:=λp P=>co [(s "do_reckoning" 736),(s "Plain.do_reckoning" 737),(s cF 738),(i 228),(i 3),(i 0),(i 0),(i 3),(r 364),(.bool true),(i 181),(r 365),.none,.none,.none,(r 366),(i 739),(i 228),(s cF 740)]
def Lx:OF:=λp P=>fo (fn "do_reckoning" "Plain.do_reckoning" (iC (tf p 45) 8) .none .none .none (s "stackwarden.plain" 647) none (r 367) .none)
def Ly:OF:=λp P=>tu [(s "self" 745),(s "frame" 746),(s "row" 747)]
def Pa:OF:=λp P=>no (cY 0 0 "do_going" "Plain.do_going" (iC (tf p 45) 9))
noncomputable def Lz:OF:=λp P=>co [(s "do_going" 742),(s "Plain.do_going" 743),(s cF 744),(i 238),(i 3),(i 0),(i 0),(i 3),(r 369),(.bool true),(i 181),(r 370),.none,(r 371),(r 372),(r 373),(i 748),(i 238),(s cF 749)]
def LA:OF:=λp P=>fo (fn "do_going" "Plain.do_going" (iC (tf p 45) 9) .none .none .none (s "stackwarden.plain" 647) none (r 374) .none)
def LB:OF:=λp P=>tu [(s "self" 754),(s "stack" 755),(s "row" 756),(s "record" 757)]
def Pb:OF:=λp P=>no (cY 0 0 "goes" "Plain.goes" (iC (tf p 45) 10))
noncomputable def LC:OF:=λp P=>co [(s "goes" 751),(s "Plain.goes" 752),(s cF 753),(i 244),(i 3),(i 0),(i 0),(i 3),(r 376),(.bool true),(i 181),(r 377),.none,(r 378),(r 379),(r 380),(i 758),(i 244),(s cF 759)]
def LD:OF:=λp P=>fo (fn "goes" "Plain.goes" (iC (tf p 45) 10) .none .none .none (s "stackwarden.plain" 647) none (r 381) .none)
def LF:OF:=λp P=>tu [(s "self" 764),(s "frame" 765),(s "at" 766)]
def Pc:OF:=λp P=>no (cY 0 0 "go_on" "Plain.go_on" (iC (tf p 45) 11))
noncomputable def LG:OF:=λp P=>co [(s "go_on" 761),(s "Plain.go_on" 762),(s cF 763),(i 252),(i 3),(i 0),(i 0),(i 3),(r 383),(.bool true),(i 181),(r 384),.none,(r 385),(r 386),(r 387),(i 767),(i 252),(s cF 768)]
def LH:OF:=λp P=>fo (fn "go_on" "Plain.go_on" (iC (tf p 45) 11) .none .none .none (s "stackwarden.plain" 647) none (r 388) .none)
def LI:OF:=λp P=>tu [(s "self" 773)]
def Pd:OF:=λp P=>no (cY 0 0 "spend" "Plain.spend" (iC (tf p 45) 12))
noncomputable def LJ:OF:=λp P=>co [(s "spend" 770),(s "Plain.spend" 771),(s cF 772),(i 256),(i 1),(i 0),(i 0),(i 3),(r 390),(.bool true),(i 181),(r 391),.none,(r 392),(r 393),(r 394),(i 774),(i 256),(s cF 775)]
def LK:OF:=λp P=>fo (fn "spend" "Plain.spend" (iC (tf p 45) 12) .none .none .none (s "stackwarden.plain" 647) none (r 395) .none)
def LL:OF:=λp P=>tu [(s "self" 780),(s "part" 781),(s "values" 782)]
def Pe:OF:=λp P=>no (cY 0 0 "add_frame" "Plain.add_frame" (iC (tf p 45) 13))
noncomputable def LM:OF:=λp P=>co [(s "add_frame" 777),(s "Plain.add_frame" 778),(s cF 779),(i 263),(i 3),(i 0),(i 0),(i 3),(r 397),(.bool true),(i 181),(r 398),.none,(r 399),(r 400),(r 401),(i 783),(i 263),(s cF 784)]
def LN:OF:=λp P=>fo (fn "add_frame" "Plain.add_frame" (iC (tf p 45) 13) .none .none .none (s "stackwarden.plain" 647) none (r 402) .none)
def LO:OF:=λp P=>tu [(s "self" 789),(s "frame" 790),(s "part" 791)]
def Pf:OF:=λp P=>no (cY 0 0 "do_call" "Plain.do_call" (iC (tf p 45) 14))
noncomputable def LP:OF:=λp P=>co [(s "do_call" 786),(s "Plain.do_call" 787),(s cF 788),(i 266),(i 3),(i 0),(i 0),(i 3),(r 404),(.bool true),(i 181),(r 405),.none,(r 406),(r 407),(r 408),(i 792),(i 266),(s cF 793)]
def LQ:OF:=λp P=>fo (fn "do_call" "Plain.do_call" (iC (tf p 45) 14) .none .none .none (s "stackwarden.plain" 647) none (r 409) .none)
def LR:OF:=λp P=>tu [(s "self" 798),(s "frame" 799),(s "value" 800),(s "beneath" 801)]
def Pg:OF:=λp P=>no (cY 0 0 "do_give" "Plain.do_give" (iC (tf p 45) 15))
noncomputable def LS:OF:=λp P=>co [(s "do_give" 795),(s "Plain.do_give" 796),(s cF 797),(i 274),(i 2),(i 0),(i 0),(i 3),(r 411),(.bool true),(i 181),(r 412),.none,(r 413),(r 414),(r 415),(i 802),(i 274),(s cF 803)]
def Hr:OF:=λp P=>fo (fn "do_give" "Plain.do_give" (iC (tf p 45) 15) .none .none .none (s "stackwarden.plain" 647) none (r 416) .none)
def Hs:OF:=λp P=>tu [(s "self" 808),(s "number" 809),(s "at" 810),(s "frame" 811)]
def LU:OF:=λp P=>no (cY 0 0 "fault" "Plain.fault" (iC (tf p 45) 16))
noncomputable def Ht:OF:=λp P=>co [(s "fault" 805),(s "Plain.fault" 806),(s cF 807),(i 284),(i 2),(i 0),(i 0),(i 3),(r 418),(.bool true),(i 181),(r 419),.none,(r 420),(r 421),(r 422),(i 812),(i 284),(s cF 813)]
def Hu:OF:=λp P=>fo (fn "fault" "Plain.fault" (iC (tf p 45) 16) .none .none .none (s "stackwarden.plain" 647) none (r 423) .none)
def Hv:OF:=λp P=>tu [(s "self" 818)]
def Ph:OF:=λp P=>no (cY 0 0 "nothing" "Plain.nothing" (iC (tf p 45) 17))
noncomputable def LV:OF:=λp P=>co [(s "nothing" 815),(s "Plain.nothing" 816),(s cF 817),(i 293),(i 1),(i 0),(i 0),(i 3),(r 425),(.bool true),(i 181),(r 426),.none,(r 427),(r 428),(r 429),(i 819),(i 293),(s cF 820)]
def LW:OF:=λp P=>fo (fn "nothing" "Plain.nothing" (iC (tf p 45) 17) .none .none .none (s "stackwarden.plain" 647) none (r 430) .none)
def LX:OF:=λp P=>tu [(s "self" 825),(s "tag" 826),(s "number" 827)]
def Pj:OF:=λp P=>no (cY 0 0 "tagged" "Plain.tagged" (iC (tf p 45) 18))
noncomputable def LY:OF:=λp P=>co [(s "tagged" 822),(s "Plain.tagged" 823),(s cF 824),(i 296),(i 3),(i 0),(i 0),(i 3),(r 432),(.bool true),(i 181),(r 433),.none,(r 434),(r 435),(r 436),(i 828),(i 296),(s cF 829)]
def LZ:OF:=λp P=>fo (fn "tagged" "Plain.tagged" (iC (tf p 45) 18) .none .none .none (s "stackwarden.plain" 647) none (r 437) .none)
def L3:OF:=λp P=>tu [(s "self" 834),(s "value" 835)]
def Pk:OF:=λp P=>no (cY 0 0 "bare" "Plain.bare" (iC (tf p 45) 19))
def L4:OF:=λp P=>co [(s "bare" 831),(s "Plain.bare" 832),(s cF 833),(i 299),(i 2),(i 0),(i 0),(i 3),(r 439),(.bool true),(i 181),(r 440),.none,(r 441),(r 442),(r 443),(i 836),(i 299),(s cF 837)]
def L5:OF:=λp P=>fo (fn "bare" "Plain.bare" (iC (tf p 45) 19) .none .none .none (s "stackwarden.plain" 647) none (r 444) .none)
def L6:OF:=λp P=>tu [(s "self" 842),(s "c" 843)]
def Pl:OF:=λp P=>no (cY 0 0 "new_record" "Plain.new_record" (iC (tf p 45) 20))
noncomputable def L7:OF:=λp P=>co [(s "new_record" 839),(s "Plain.new_record" 840),(s cF 841),(i 302),(i 2),(i 0),(i 0),(i 3),(r 446),(.bool true),(i 181),(r 447),.none,(r 448),(r 449),(r 450),(i 844),(i 302),(s cF 845)]
def L8:OF:=λp P=>fo (fn "new_record" "Plain.new_record" (iC (tf p 45) 20) .none .none .none (s "stackwarden.plain" 647) none (r 451) .none)
def L9:OF:=λp P=>tu [(s "self" 850),(s "record" 851),(s "f" 852),(s "value" 853)]
def Pm:OF:=λp P=>no (cY 0 0 "with_field" "Plain.with_field" (iC (tf p 45) 21))
noncomputable def Ma:OF:=λp P=>co [(s "with_field" 847),(s "Plain.with_field" 848),(s cF 849),(i 305),(i 4),(i 0),(i 0),(i 3),(r 453),(.bool true),(i 181),(r 454),.none,(r 455),(r 456),(r 457),(i 854),(i 305),(s cF 855)]
def Mb:OF:=λp P=>fo (fn "with_field" "Plain.with_field" (iC (tf p 45) 21) .none .none .none (s "stackwarden.plain" 647) none (r 458) .none)
def Md:OF:=λp P=>tu [(s "self" 860),(s "record" 861)]
def Pn:OF:=λp P=>no (cY 0 0 "as_begun" "Plain.as_begun" (iC (tf p 45) 22))
noncomputable def Me:OF:=λp P=>co [(s "as_begun" 857),(s "Plain.as_begun" 858),(s cF 859),(i 308),(i 2),(i 0),(i 0),(i 3),(r 460),(.bool true),(i 181),(r 461),.none,(r 462),(r 463),(r 464),(i 862),(i 308),(s cF 863)]
def Mf:OF:=λp P=>fo (fn "as_begun" "Plain.as_begun" (iC (tf p 45) 22) .none .none .none (s "stackwarden.plain" 647) none (r 465) .none)
def Mg:OF:=λp P=>tu [(s "self" 868),(s "frame" 869),(s "row" 870)]
def Po:OF:=λp P=>no (cY 0 0 "looked" "Plain.looked" (iC (tf p 45) 23))
noncomputable def Mh:OF:=λp P=>co [(s "looked" 865),(s "Plain.looked" 866),(s cF 867),(i 311),(i 3),(i 0),(i 0),(i 3),(r 467),(.bool true),(i 181),(r 468),.none,(r 469),(r 470),(r 471),(i 871),(i 311),(s cF 872)]
def Mi:OF:=λp P=>fo (fn "looked" "Plain.looked" (iC (tf p 45) 23) .none .none .none (s "stackwarden.plain" 647) none (r 472) .none)
def Mj:OF:=λp P=>tu [(s "book" 874),(s "end" 875),(s "left" 876),(s "live" 877),(s "records" 878),(s "said" 879)]
noncomputable def Ml:OF:=λp P=>di [de P "__module__" 660 (s "stackwarden.plain" 647),de P "__firstlineno__" 664 (.int 140 663),de P "__init__" 670 (r 316),de P "told" 677 (r 323),de P "frames" 683 (r 328),de P "heap" 690 (r 335),de P "step" 700 (r 342),de P "do_row" 710 (r 349),de P "do_straight" 722 (r 356),de P "do_of_records" 735 (r 363),de P "do_reckoning" 741 (r 368),de P "do_going" 750 (r 375),de P "goes" 760 (r 382),de P "go_on" 769 (r 389),de P "spend" 776 (r 396),de P "add_frame" 785 (r 403),de P "do_call" 794 (r 410),de P "do_give" 804 (r 417),de P "fault" 814 (r 424),de P "nothing" 821 (r 431),de P "tagged" 830 (r 438),de P "bare" 838 (r 445),de P "new_record" 846 (r 452),de P "with_field" 856 (r 459),de P "as_begun" 864 (r 466),de P "looked" 873 (r 473),de P "__static_attributes__" 880 (r 474),de P "__dict__" 882 (r 477),de P "__weakref__" 884 (r 478),de P "__doc__" 885 .none] 4
noncomputable def aam:OF:=λp P=>⟨(.type "type"),none,(.cls {name:="Plain",bases:=[(.type "object")],mro:=[(r 476),(.type "object")],ns:=475,qualname:="Plain"}),#[none,none,(some (s "Plain" 653)),(some (s "Plain" 661)),(some (.builtin "object.__new__")),(some (.bool true))]⟩
def Mm:OF:=λp P=>⟨(.type "getset_descriptor"),none,(.fields #[(s "__dict__" 881),(r 476),(.builtin "function.__dict__"),(.builtin "function.__dict__#set")]),#[]⟩
def Mn:OF:=λp P=>⟨(.type "getset_descriptor"),none,(.fields #[(s "__weakref__" 883),(r 476),(.builtin "ExceptionGroup.__weakref__"),.none]),#[]⟩
def Pp:OF:=λp P=>⟨(.type "super"),none,(.fields #[(r 476),(r 476),(r 476)]),#[]⟩
def Pq:OF:=λp P=>⟨(.type "builtin_function_or_method"),none,(.fields #[(.builtin "object.__init_subclass__"),(r 476)]),#[]⟩
def aan:OF:=λp P=>di (de P "__name__" 165 (s "stackwarden.watched" 909)::dq12_ P) 48
noncomputable def aao:OF:=λp P=>nf [(i 2),(i 0),(r 20),(i 4),(i 0),(r 33),(i 6),(i 0),(r 45),(i 11),(i 0),(r 64),(i 13),(i 0),(r 76),(i 19),(i 0),(r 95),(i 24),(i 0),(r 114),(i 30),(i 0),(r 121),(i 35),(i 0),(r 128),(i 37),(i 0),(r 135),(i 42),(i 0),(r 142),(i 44),(i 0),(r 149),(i 56),(i 0),(r 156),(i 66),(i 0),(r 164),(i 71),(i 0),(r 169),(i 73),(i 0),(r 176),(i 82),(i 0),(r 228),(i 92),(i 0),(r 235),(i 103),(i 0),(r 242),(i 105),(i 0),(r 249),(i 112),(i 0),(r 256),(i 119),(i 0),(r 277),(i 121),(i 0),(r 282),(i 125),(i 0),(r 289),(i 132),(i 0),(r 296),(i 135),(i 0),(r 303),(i 140),(i 0),(r 310),(i 314),(i 0),(r 486),(i 322),(i 0),(r 493)]
def Mo:OF:=λp P=>tu [(s "makes" 893),(s "heap" 894),(s "value" 895),(s "kind" 896)]
def Pr:OF:=λp P=>no (cY 0 0 "has_kind" "has_kind" (tf p 47))
noncomputable def Mp:OF:=λp P=>co [(s "has_kind" 890),(s "has_kind" 891),(s cF 892),(i 314),(i 4),(i 0),(i 0),(i 3),(r 481),(.bool true),(i 181),(r 482),.none,(r 483),(r 484),(r 485),(i 897),(i 314),(s cF 898)]
def Mq:OF:=λp P=>fo (fn "has_kind" "has_kind" (tf p 47) .none .none .none (s "stackwarden.values" 888) none (r 486) .none)
def Mr:OF:=λp P=>tu [(s "makes" 903),(s "record" 904),(s "kind" 905)]
def SI:OF:=λp P=>no (cY 0 0 "record_has_kind" "record_has_kind" (tf p 48))
noncomputable def Pu:OF:=λp P=>co [(s "record_has_kind" 900),(s "record_has_kind" 901),(s cF 902),(i 322),(i 3),(i 0),(i 0),(i 3),(r 488),(.bool true),(i 181),(r 489),.none,(r 490),(r 491),(r 492),(i 906),(i 322),(s cF 907)]
def Pw:OF:=λp P=>fo (fn "record_has_kind" "record_has_kind" (tf p 48) .none .none .none (s "stackwarden.values" 888) none (r 493) .none)
def aap:OF:=λp P=>di (de P "__name__" 165 (s "stackwarden.watched" 909)::dq13_ P) 49
noncomputable def aaq:OF:=λp P=>nf [(i 2),(i 0),(r 20),(i 4),(i 0),(r 33),(i 6),(i 0),(r 45),(i 11),(i 0),(r 64),(i 13),(i 0),(r 76),(i 19),(i 0),(r 95),(i 24),(i 0),(r 114),(i 30),(i 0),(r 121),(i 35),(i 0),(r 128),(i 37),(i 0),(r 135),(i 42),(i 0),(r 142),(i 44),(i 0),(r 149),(i 56),(i 0),(r 156),(i 66),(i 0),(r 164),(i 71),(i 0),(r 169),(i 73),(i 0),(r 176),(i 82),(i 0),(r 228),(i 92),(i 0),(r 235),(i 103),(i 0),(r 242),(i 105),(i 0),(r 249),(i 112),(i 0),(r 256),(i 119),(i 0),(r 277),(i 121),(i 0),(r 282),(i 125),(i 0),(r 289),(i 132),(i 0),(r 296),(i 135),(i 0),(r 303),(i 140),(i 0),(r 310),(i 314),(i 0),(r 486),(i 322),(i 0),(r 493),(i 327),(i 0),(r 500)]
noncomputable def Px:OF:=λp P=>⟨(.type "type"),none,(.cls {name:="Plain",bases:=[(.type "object")],mro:=[(r 476),(.type "object")],ns:=475,qualname:="Plain",subclasses:=[(r 553)]}),#[none,none,(some (s "Plain" 653)),(some (s "Plain" 661)),(some (.builtin "object.__new__")),(some (.bool true))]⟩
def Py:OF:=λp P=>tu [(r 476)]
noncomputable def SJ:OF:=λp P=>di [de P "__module__" 918 (s "stackwarden.watched" 909),de P "__qualname__" 920 (s "Watched" 919),de P "__firstlineno__" 922 (.int 327 921),de P "nothing" 929 (r 508),de P "tagged" 938 (r 515),de P "bare" 946 (r 522),de P "new_record" 954 (r 529),de P "with_field" 964 (r 536),de P "as_begun" 972 (r 543),de P "looked" 985 (r 550),de P "__static_attributes__" 986 (r 551)] 11
def SK:OF:=λp P=>nf [(i 329),(i 4),(r 507),(i 332),(i 4),(r 514),(i 335),(i 4),(r 521),(i 338),(i 4),(r 528),(i 341),(i 4),(r 535),(i 344),(i 4),(r 542),(i 347),(i 4),(r 549)]
def SM:OF:=λp P=>co [(s "Watched" 913),(s "Watched" 914),(s cF 915),(i 327),(i 0),(i 0),(i 0),(i 0),(r 498),(.bool false),(i 181),(r 499),.none,.none,.none,.none,(i 916),(i 327),(s cF 917)]
def SN:OF:=λp P=>fm [(some (r 500)),(some (r 3)),(some (r 497)),none,(some (s "stackwarden.watched" 909)),none,(some (r 0))]
def Pz:OF:=λp P=>tu [(s "self" 926)]
def SO:OF:=λp P=>no (cY 0 0 "nothing" "Watched.nothing" (iC (tf p 50) 0))
noncomputable def PB:OF:=λp P=>co [(s "nothing" 923),(s "Watched.nothing" 924),(s cF 925),(i 329),(i 1),(i 0),(i 0),(i 3),(r 502),(.bool true),(i 181),(r 503),.none,(r 504),(r 505),(r 506),(i 927),(i 329),(s cF 928)]
def PC:OF:=λp P=>fo (fn "nothing" "Watched.nothing" (iC (tf p 50) 0) .none .none .none (s "stackwarden.watched" 909) none (r 507) .none)
def PD:OF:=λp P=>tu [(s "self" 933),(s "tag" 934),(s "number" 935)]
def SQ:OF:=λp P=>no (cY 0 0 "tagged" "Watched.tagged" (iC (tf p 50) 1))
noncomputable def PH:OF:=λp P=>co [(s "tagged" 930),(s "Watched.tagged" 931),(s cF 932),(i 332),(i 3),(i 0),(i 0),(i 3),(r 509),(.bool true),(i 181),(r 510),.none,(r 511),(r 512),(r 513),(i 936),(i 332),(s cF 937)]
def PJ:OF:=λp P=>fo (fn "tagged" "Watched.tagged" (iC (tf p 50) 1) .none .none .none (s "stackwarden.watched" 909) none (r 514) .none)
def PK:OF:=λp P=>tu [(s "self" 942),(s "value" 943)]
def SR:OF:=λp P=>no (cY 0 0 "bare" "Watched.bare" (iC (tf p 50) 2))
noncomputable def PL:OF:=λp P=>co [(s "bare" 939),(s "Watched.bare" 940),(s cF 941),(i 335),(i 2),(i 0),(i 0),(i 3),(r 516),(.bool true),(i 181),(r 517),.none,(r 518),(r 519),(r 520),(i 944),(i 335),(s cF 945)]
def PN:OF:=λp P=>fo (fn "bare" "Watched.bare" (iC (tf p 50) 2) .none .none .none (s "stackwarden.watched" 909) none (r 521) .none)
def PQ:OF:=λp P=>tu [(s "self" 950),(s "c" 951)]
def SS:OF:=λp P=>no (cY 0 0 "new_record" "Watched.new_record" (iC (tf p 50) 3))
noncomputable def PR:OF:=λp P=>co [(s "new_record" 947),(s "Watched.new_record" 948),(s cF 949),(i 338),(i 2),(i 0),(i 0),(i 3),(r 523),(.bool true),(i 181),(r 524),.none,(r 525),(r 526),(r 527),(i 952),(i 338),(s cF 953)]
def PU:OF:=λp P=>fo (fn "new_record" "Watched.new_record" (iC (tf p 50) 3) .none .none .none (s "stackwarden.watched" 909) none (r 528) .none)
def PV:OF:=λp P=>tu [(s "self" 958),(s "record" 959),(s "f" 960),(s "value" 961)]
def SU:OF:=λp P=>no (cY 0 0 "with_field" "Watched.with_field" (iC (tf p 50) 4))
noncomputable def PX:OF:=λp P=>co [(s "with_field" 955),(s "Watched.with_field" 956),(s cF 957),(i 341),(i 4),(i 0),(i 0),(i 3),(r 530),(.bool true),(i 181),(r 531),.none,(r 532),(r 533),(r 534),(i 962),(i 341),(s cF 963)]
def PY:OF:=λp P=>fo (fn "with_field" "Watched.with_field" (iC (tf p 50) 4) .none .none .none (s "stackwarden.watched" 909) none (r 535) .none)
def PZ:OF:=λp P=>tu [(s "self" 968),(s "record" 969)]
def SV:OF:=λp P=>no (cY 0 0 "as_begun" "Watched.as_begun" (iC (tf p 50) 5))
noncomputable def P1:OF:=λp P=>co [(s "as_begun" 965),(s "Watched.as_begun" 966),(s cF 967),(i 344),(i 2),(i 0),(i 0),(i 3),(r 537),(.bool true),(i 181),(r 538),.none,(r 539),(r 540),(r 541),(i 970),(i 344),(s cF 971)]
def P2:OF:=λp P=>fo (fn "as_begun" "Watched.as_begun" (iC (tf p 50) 5) .none .none .none (s "stackwarden.watched" 909) none (r 542) .none)
def P4:OF:=λp P=>tu [(s "self" 976),(s "frame" 977),(s "row" 978),(s "wanted" 979),(s "under" 980),(s "value" 981),(s "kind" 982)]
def SW:OF:=λp P=>no (cY 0 0 "looked" "Watched.looked" (iC (tf p 50) 6))
noncomputable def P7:OF:=λp P=>co [(s "looked" 973),(s "Watched.looked" 974),(s cF 975),(i 347),(i 3),(i 0),(i 0),(i 3),(r 544),(.bool true),(i 181),(r 545),.none,(r 546),(r 547),(r 548),(i 983),(i 347),(s cF 984)]
def P8:OF:=λp P=>fo (fn "looked" "Watched.looked" (iC (tf p 50) 6) .none .none .none (s "stackwarden.watched" 909) none (r 549) .none)
noncomputable def P9:OF:=λp P=>di [de P "__module__" 918 (s "stackwarden.watched" 909),de P "__firstlineno__" 922 (.int 327 921),de P "nothing" 929 (r 508),de P "tagged" 938 (r 515),de P "bare" 946 (r 522),de P "new_record" 954 (r 529),de P "with_field" 964 (r 536),de P "as_begun" 972 (r 543),de P "looked" 985 (r 550),de P "__static_attributes__" 986 (r 551),de P "__doc__" 987 .none] 2
noncomputable def Qa:OF:=λp P=>⟨(.type "type"),none,(.cls {name:="Watched",bases:=[(r 476)],mro:=[(r 553),(r 476),(.type "object")],ns:=552,qualname:="Watched"}),#[(some (r 495)),none,(some (s "Watched" 911)),(some (s "Watched" 919)),(some (.builtin "object.__new__")),(some (.bool true))]⟩
def SX:OF:=λp P=>⟨(.type "super"),none,(.fields #[(r 553),(r 553),(r 553)]),#[]⟩
def SY:OF:=λp P=>⟨(.type "builtin_function_or_method"),none,(.fields #[(.builtin "object.__init_subclass__"),(r 553)]),#[]⟩
def S0:OF:=λp P=>di (de P "__name__" 165 (s "law_stackwarden_k30_doors_of_books" 1019)::dq14_ P) 61
noncomputable def VW:OF:=λp P=>nf [(i 2),(i 0),(r 20),(i 4),(i 0),(r 33),(i 6),(i 0),(r 45),(i 11),(i 0),(r 64),(i 13),(i 0),(r 76),(i 19),(i 0),(r 95),(i 24),(i 0),(r 114),(i 30),(i 0),(r 121),(i 35),(i 0),(r 128),(i 37),(i 0),(r 135),(i 42),(i 0),(r 142),(i 44),(i 0),(r 149),(i 56),(i 0),(r 156),(i 66),(i 0),(r 164),(i 71),(i 0),(r 169),(i 73),(i 0),(r 176),(i 82),(i 0),(r 228),(i 92),(i 0),(r 235),(i 103),(i 0),(r 242),(i 105),(i 0),(r 249),(i 112),(i 0),(r 256),(i 119),(i 0),(r 277),(i 121),(i 0),(r 282),(i 125),(i 0),(r 289),(i 132),(i 0),(r 296),(i 135),(i 0),(r 303),(i 140),(i 0),(r 310),(i 314),(i 0),(r 486),(i 322),(i 0),(r 493),(i 327),(i 0),(r 500),(i 359),(i 0),(r 561),(i 363),(i 0),(r 568),(i 365),(i 0),(r 575),(i 368),(i 0),(r 582),(i 375),(i 0),(r 589),(i 384),(i 0),(r 596),(i 387),(i 0),(r 601),(i 396),(i 0),(r 606),(i 403),(i 0),(r 613),(i 424),(i 0),(r 618),(i 429),(i 0),(r 625),(i 442),(i 0),(r 630)]
def S1:OF:=λp P=>tu [(s "machine" 995)]
def VX:OF:=λp P=>no (cY 0 0 "finished" "finished" (tf p 52))
noncomputable def S4:OF:=λp P=>co [(s "finished" 992),(s "finished" 993),(s cF 994),(i 359),(i 1),(i 0),(i 0),(i 3),(r 556),(.bool true),(i 181),(r 557),.none,(r 558),(r 559),(r 560),(i 996),(i 359),(s cF 997)]
def S5:OF:=λp P=>fo (fn "finished" "finished" (tf p 52) .none .none .none (s "stackwarden.runs" 990) none (r 561) .none)
def S6:OF:=λp P=>tu [(s "book" 1002),(s "part" 1003),(s "inputs" 1004),(s "budget" 1005)]
def VY:OF:=λp P=>no (cY 0 0 "run" "run" (tf p 53))
def S7:OF:=λp P=>co [(s "run" 999),(s "run" 1000),(s cF 1001),(i 363),(i 4),(i 0),(i 0),(i 3),(r 563),(.bool true),(i 181),(r 564),.none,(r 565),(r 566),(r 567),(i 1006),(i 363),(s cF 1007)]
def S8:OF:=λp P=>fo (fn "run" "run" (tf p 53) .none .none .none (s "stackwarden.runs" 990) none (r 568) .none)
def S9:OF:=λp P=>tu [(s "book" 1012),(s "part" 1013),(s "inputs" 1014),(s "budget" 1015)]
def VZ:OF:=λp P=>no (cY 0 0 "run_watched" "run_watched" (tf p 54))
noncomputable def Ta:OF:=λp P=>co [(s "run_watched" 1009),(s "run_watched" 1010),(s cF 1011),(i 365),(i 4),(i 0),(i 0),(i 3),(r 570),(.bool true),(i 181),(r 571),.none,(r 572),(r 573),(r 574),(i 1016),(i 365),(s cF 1017)]
def Tb:OF:=λp P=>fo (fn "run_watched" "run_watched" (tf p 54) .none .none .none (s "stackwarden.runs" 990) none (r 575) .none)
def Tc:OF:=λp P=>tu [(s "_law_script" 1024),(s "_law_k" 1025),(s "_law_far" 1026),(s "_law_cell_here" 1027)]
def V0:OF:=λp P=>no (cY 0 0 "_law_cell" "_law_cell" (tf p 56))
noncomputable def Td:OF:=λp P=>co [(s "_law_cell" 1021),(s "_law_cell" 1022),(s cF 1023),(i 368),(i 2),(i 0),(i 0),(i 3),(r 577),(.bool true),(i 181),(r 578),.none,(r 579),(r 580),(r 581),(i 1028),(i 368),(s cF 1029)]
def Te:OF:=λp P=>fo (fn "_law_cell" "_law_cell" (tf p 56) .none .none .none (s "law_stackwarden_k30_doors_of_books" 1019) none (r 582) .none)
def Tf:OF:=λp P=>tu [(s "_law_cell_here" 1034),(s "_law_edge" 1035)]
def V1:OF:=λp P=>no (cY 0 0 "_law_word" "_law_word" (tf p 57))
noncomputable def Tg:OF:=λp P=>co [(s "_law_word" 1031),(s "_law_word" 1032),(s cF 1033),(i 375),(i 1),(i 0),(i 0),(i 3),(r 584),(.bool true),(i 181),(r 585),.none,(r 586),(r 587),(r 588),(i 1036),(i 375),(s cF 1037)]
def Th:OF:=λp P=>fo (fn "_law_word" "_law_word" (tf p 57) .none .none .none (s "law_stackwarden_k30_doors_of_books" 1019) none (r 589) .none)
def Ti:OF:=λp P=>tu [(s "_law_cell_here" 1042),(s "_law_some" 1043)]
def V2:OF:=λp P=>no (cY 0 0 "_law_kind" "_law_kind" (tf p 58))
noncomputable def Tj:OF:=λp P=>co [(s "_law_kind" 1039),(s "_law_kind" 1040),(s cF 1041),(i 384),(i 1),(i 0),(i 0),(i 3),(r 591),(.bool true),(i 181),(r 592),.none,(r 593),(r 594),(r 595),(i 1044),(i 384),(s cF 1045)]
def Tn:OF:=λp P=>fo (fn "_law_kind" "_law_kind" (tf p 58) .none .none .none (s "law_stackwarden_k30_doors_of_books" 1019) none (r 596) .none)
def V3:OF:=λp P=>no (cY 0 0 "_law_part" "_law_part" (tf p 59))
noncomputable def To:OF:=λp P=>co [(s "_law_part" 1047),(s "_law_part" 1048),(s cF 1049),(i 387),(i 2),(i 0),(i 0),(i 3),(r 598),(.bool true),(i 181),(r 599),.none,.none,.none,(r 600),(i 1050),(i 387),(s cF 1051)]
def Tp:OF:=λp P=>fo (fn "_law_part" "_law_part" (tf p 59) .none .none .none (s "law_stackwarden_k30_doors_of_books" 1019) none (r 601) .none)
def V4:OF:=λp P=>no (cY 0 0 "_law_due" "_law_due" (tf p 60))
noncomputable def Tq:OF:=λp P=>co [(s "_law_due" 1053),(s "_law_due" 1054),(s cF 1055),(i 396),(i 4),(i 0),(i 0),(i 3),(r 603),(.bool true),(i 181),(r 604),.none,.none,.none,(r 605),(i 1056),(i 396),(s cF 1057)]
def Tr:OF:=λp P=>fo (fn "_law_due" "_law_due" (tf p 60) .none .none .none (s "law_stackwarden_k30_doors_of_books" 1019) none (r 606) .none)
def Ts:OF:=λp P=>tu [(s "_law_book" 1062),(s "_law_part_here" 1063),(s "_law_inputs" 1064),(s "_law_budget" 1065),(s "_law_way" 1066),(s "_law_caught" 1067),(s "_law_told" 1068),(s "e" 1069)]
def V5:OF:=λp P=>no (cY 0 0 "_law_asked" "_law_asked" (tf p 61))
noncomputable def Tt:OF:=λp P=>co [(s "_law_asked" 1059),(s "_law_asked" 1060),(s cF 1061),(i 403),(i 5),(i 0),(i 0),(i 3),(r 608),(.bool true),(i 181),(r 609),.none,(r 610),(r 611),(r 612),(i 1070),(i 403),(s cF 1071)]
def Tu:OF:=λp P=>fo (fn "_law_asked" "_law_asked" (tf p 61) .none .none .none (s "law_stackwarden_k30_doors_of_books" 1019) none (r 613) .none)
def V6:OF:=λp P=>no (cY 0 0 "_law_frames" "_law_frames" (tf p 62))
noncomputable def Tv:OF:=λp P=>co [(s "_law_frames" 1073),(s "_law_frames" 1074),(s cF 1075),(i 424),(i 4),(i 0),(i 0),(i 3),(r 615),(.bool true),(i 181),(r 616),.none,.none,.none,(r 617),(i 1076),(i 424),(s cF 1077)]
def Tw:OF:=λp P=>fo (fn "_law_frames" "_law_frames" (tf p 62) .none .none .none (s "law_stackwarden_k30_doors_of_books" 1019) none (r 618) .none)
def Tx:OF:=λp P=>tu [(s "_law_book" 1082),(s "_law_part_here" 1083),(s "_law_inputs" 1084),(s "_law_budget" 1085),(s "_law_due_here" 1086),(s "_law_way" 1087),(s "_law_found" 1088)]
def V7:OF:=λp P=>no (cY 0 0 "_law_right" "_law_right" (tf p 63))
noncomputable def Tz:OF:=λp P=>co [(s "_law_right" 1079),(s "_law_right" 1080),(s cF 1081),(i 429),(i 4),(i 0),(i 0),(i 3),(r 620),(.bool true),(i 181),(r 621),.none,(r 622),(r 623),(r 624),(i 1089),(i 429),(s cF 1090)]
def TB:OF:=λp P=>fo (fn "_law_right" "_law_right" (tf p 63) .none .none .none (s "law_stackwarden_k30_doors_of_books" 1019) none (r 625) .none)
def V8:OF:=λp P=>no (cY 0 0 "law" "law" (tf p 64))
def TC:OF:=λp P=>co [(s "law" 1092),(s "law" 1093),(s cF 1094),(i 442),(i 1),(i 0),(i 0),(i 3),(r 627),(.bool true),(i 181),(r 628),.none,.none,.none,(r 629),(i 1095),(i 442),(s cF 1096)]
def TH:OF:=λp P=>fo (fn "law" "law" (tf p 64) .none .none .none (s "law_stackwarden_k30_doors_of_books" 1019) none (r 630) .none)
noncomputable def T0:TF:=(aa Cv (aa Cw (aa b3_ (ae DP) (ae o0)) (aa DM (ae DR) (ae o2))) (aa DK (aa DL (ae DQ) (ae o1)) (aa DN (ae ql) (ae o3))))
noncomputable def T1:TF:=(aa Cv (aa Cw (aa o4 (aa DP (ae o6) (ae Cy)) (aa o0 (ae o1) (ae DY))) (aa DM (aa DR (ae o8) (ae Cz)) (aa o2 (ae DU) av))) (aa DK (aa DL (aa DQ (ae o7) (ae o12)) (aa o5 (ae o9) av)) (aa DN (aa ql (ae o0) (ae DW)) (aa o3 (ae o0) av))))
noncomputable def T2:TF:=(aa Cv (aa Cw (aa o16 (aa DP (aa o6 (ae o0) av) (aa Cy (ae Fy) av)) (aa o0 (aa o1 (ae o0) av) (ae DY))) (aa DM (aa DR (aa o8 (ae Fv) av) (ae Cz)) (aa o2 (aa DU (ae D1) av) (ae o7)))) (aa DK (aa DL (aa DQ (aa o7 (ae o1) av) (ae o18)) (aa o17 (aa o9 (ae DZ) av) (ae dU))) (aa DN (aa ql (aa o0 (ae Fw) av) (ae DW)) (aa o3 (aa o0 (ae Fx) av) (ae Fu)))))
noncomputable def T3:TF:=(aa Cv (aa Cw (aa o27 (aa DP (aa o6 (ae o0) (ae o0)) (aa Cy (ae Fy) (ae GY))) (aa o0 (aa o1 (ae o0) (ae HC)) (aa DY (ae o0) av))) (aa DM (aa DR (aa o8 (ae Fv) (ae GU)) (aa Cz (ae o7) (ae HD))) (aa o2 (aa DU (ae D1) (ae GW)) (aa o7 (ae GR) av)))) (aa DK (aa DL (aa DQ (aa o7 (ae o1) (ae o1)) (aa o29 (ae dU) (ae GZ))) (aa o28 (aa o9 (ae DZ) (ae GV)) (aa dU (ae GQ) av))) (aa DN (aa ql (aa o0 (ae Fw) (ae o0)) (aa DW (ae GP) (ae HE))) (aa o3 (aa o0 (ae Fx) (ae GX)) (aa Fu (ae GS) av)))))
noncomputable def T4:TF:=(aa Cv (aa Cw (aa o43 (aa DP (aa o6 (aa o0 (ae o1) av) (ae o0)) (aa Cy (ae Fy) (ae GY))) (aa o0 (aa o1 (aa o0 (ae HG) av) (ae HC)) (aa DY (ae o0) (ae dU)))) (aa DM (aa DR (aa o8 (aa Fv (ae Kv) av) (ae GU)) (aa Cz (ae o7) (ae HD))) (aa o2 (aa DU (aa D1 (ae Kw) av) (ae GW)) (aa o7 (ae GR) (ae MD))))) (aa DK (aa DL (aa DQ (aa o7 (aa o1 (ae Ku) av) (ae o1)) (aa o45 (ae dU) (ae GZ))) (aa o44 (aa o9 (aa DZ (ae HH) av) (ae GV)) (aa dU (ae GQ) (ae o7)))) (aa DN (aa ql (aa o0 (aa Fw (ae o0) av) (ae o0)) (aa DW (ae GP) (ae HE))) (aa o3 (aa o0 (aa Fx (ae Kx) av) (ae GX)) (aa Fu (ae GS) (ae o0))))))
noncomputable def T5:TF:=(aa Cv (aa Cw (aa o53 (aa DP (aa o6 (aa o0 (ae o1) av) (aa o0 (ae o1) av)) (aa Cy (aa Fy (ae dU) av) (aa GY (ae KH) av))) (aa o0 (aa o1 (aa o0 (ae HG) av) (aa HC (ae Kz) av)) (aa DY (aa o0 (ae MF) av) (ae dU)))) (aa DM (aa DR (aa o8 (aa Fv (ae Kv) av) (aa GU (ae o0) av)) (aa Cz (aa o7 (ae ME) av) (aa HD (ae ML) av))) (aa o2 (aa DU (aa D1 (ae Kw) av) (aa GW (ae KC) av)) (aa o7 (aa GR (ae MI) av) (ae MD))))) (aa DK (aa DL (aa DQ (aa o7 (aa o1 (ae Ku) av) (aa o1 (ae Ky) av)) (aa o55 (aa dU (ae o7) av) (aa GZ (ae MK) av))) (aa o54 (aa o9 (aa DZ (ae HH) av) (aa GV (ae KA) av)) (aa dU (aa GQ (ae MG) av) (ae o7)))) (aa DN (aa ql (aa o0 (aa Fw (ae o0) av) (aa o0 (ae MJ) av)) (aa DW (aa GP (ae o0) av) (ae HE))) (aa o3 (aa o0 (aa Fx (ae Kx) av) (aa GX (ae KG) av)) (aa Fu (aa GS (ae o0) av) (ae o0))))))
noncomputable def T6:TF:=(aa Cv (aa Cw (aa o69 (aa DP (aa o6 (aa o0 (aa o1 (ae OX) av) (ae OR)) (aa o0 (ae o1) (ae MO))) (aa Cy (aa Fy (aa dU (ae MX) av) (ae KN)) (aa GY (ae KH) (ae o0)))) (aa o0 (aa o1 (aa o0 (aa HG (ae o1) av) (ae KJ)) (aa HC (ae Kz) (ae MQ))) (aa DY (aa o0 (ae MF) (ae MN)) (aa dU (ae o7) (ae o0))))) (aa DM (aa DR (aa o8 (aa Fv (aa Kv (ae MV) av) (ae o0)) (aa GU (ae o0) (ae OU))) (aa Cz (aa o7 (ae ME) (ae KP)) (aa HD (ae ML) (ae MS)))) (aa o2 (aa DU (aa D1 (aa Kw (ae o0) av) (ae MM)) (aa GW (ae KC) (ae o1))) (aa o7 (aa GR (ae MI) (ae o0)) (aa MD (ae o0) (ae OW)))))) (aa DK (aa DL (aa DQ (aa o7 (aa o1 (aa Ku (ae MU) av) (ae OS)) (aa o1 (ae Ky) (ae o0))) (aa KI (aa dU (aa o7 (ae xy) av) (ae KO)) (aa GZ (ae MK) (ae OV)))) (aa o70 (aa o9 (aa DZ (aa HH (ae MW) av) (ae o0)) (aa GV (ae KA) (ae o0))) (aa dU (aa GQ (ae MG) (ae OT)) (aa o7 (ae QM) (ae o1))))) (aa DN (aa ql (aa o0 (aa Fw (aa o0 (ae o0) av) (ae o1)) (aa o0 (ae MJ) (ae MP))) (aa DW (aa GP (ae o0) (ae KQ)) (aa HE (ae dU) (ae MT)))) (aa o3 (aa o0 (aa Fx (aa Kx (ae OY) av) (ae KL)) (aa GX (ae KG) (ae MR))) (aa Fu (aa GS (ae o0) (ae o1)) (aa o0 (ae OQ) (ae o0)))))))
noncomputable def T7:TF:=(aa Cv (aa Cw (aa aad (aa DP (aa o6 (aa o0 (aa o1 (ae OX) av) (aa OR (ae zR) av)) (aa o0 (aa o1 (ae zL) av) (aa MO (ae BO) av))) (aa Cy (aa Fy (aa dU (ae MX) av) (aa KN (ae o1) av)) (aa GY (aa KH (ae o0) av) (ae o0)))) (aa o0 (aa o1 (aa o0 (aa HG (ae o1) av) (aa KJ (ae zT) av)) (aa HC (aa Kz (ae o0) av) (ae MQ))) (aa DY (aa o0 (aa MF (ae zJ) av) (aa MN (ae o0) av)) (aa dU (aa o7 (ae D3) av) (ae o0))))) (aa DM (aa DR (aa o8 (aa Fv (aa Kv (ae MV) av) (aa o0 (ae o0) av)) (aa GU (aa o0 (ae o1) av) (aa OU (ae zX) av))) (aa Cz (aa o7 (aa ME (ae o0) av) (aa KP (ae xC) av)) (aa HD (aa ML (ae zP) av) (ae MS)))) (aa o2 (aa DU (aa D1 (aa Kw (ae o0) av) (aa MM (ae xB) av)) (aa GW (aa KC (ae zN) av) (ae o1))) (aa o7 (aa GR (aa MI (ae BK) av) (aa o0 (ae zV) av)) (aa MD (aa o0 (ae BN) av) (ae OW)))))) (aa DK (aa DL (aa DQ (aa o7 (aa o1 (aa Ku (ae MU) av) (aa OS (ae zS) av)) (aa o1 (aa Ky (ae o0) av) (aa o0 (ae zW) av))) (aa KI (aa dU (aa o7 (ae xy) av) (aa KO (ae zU) av)) (aa GZ (aa MK (ae o1) av) (ae OV)))) (aa VV (aa o9 (aa DZ (aa HH (ae MW) av) (aa o0 (ae xA) av)) (aa GV (aa KA (ae BL) av) (ae o0))) (aa dU (aa GQ (aa MG (ae o0) av) (aa OT (ae o1) av)) (aa o7 (aa QM (ae BM) av) (ae o1))))) (aa DN (aa ql (aa o0 (aa Fw (aa o0 (ae o0) av) (aa o1 (ae o1) av)) (aa o0 (aa MJ (ae zM) av) (ae MP))) (aa DW (aa GP (aa o0 (ae o1) av) (aa KQ (ae xD) av)) (aa HE (aa dU (ae o0) av) (ae MT)))) (aa o3 (aa o0 (aa Fx (aa Kx (ae OY) av) (aa KL (ae o0) av)) (aa GX (aa KG (ae zO) av) (ae MR))) (aa Fu (aa GS (aa o0 (ae zK) av) (aa o1 (ae o0) av)) (aa o0 (aa OQ (ae zQ) av) (ae o0)))))))
noncomputable def u0:TF:=(aa dU (aa o7 (ae D3) (ae D8)) (aa o0 (ae D4) av))
noncomputable def u1:TF:=(aa MD (aa o0 (ae BN) (ae Ea)) (aa OW (ae D6) av))
noncomputable def u2:TF:=(aa o7 (aa QM (ae BM) (ae D9)) (aa o1 (ae D5) av))
noncomputable def T8:TF:=(aa Cv (aa Cw (aa aae (aa DP (aa o6 (aa o0 (aa o1 (ae OX) (ae BY)) (aa OR (ae zR) av)) (aa o0 (aa o1 (ae zL) (ae Cf)) (aa MO (ae BO) av))) (aa Cy (aa Fy (aa dU (ae MX) (ae B6)) (aa KN (ae o1) av)) (aa GY (aa KH (ae o0) (ae Co)) (aa o0 (ae BS) av)))) (aa o0 (aa o1 (aa o0 (aa HG (ae o1) (ae B2)) (aa KJ (ae zT) av)) (aa HC (aa Kz (ae o0) (ae o0)) (aa MQ (ae o0) av))) (aa DY (aa o0 (aa MF (ae zJ) (ae Ca)) (aa MN (ae o0) av)) u0))) (aa DM (aa DR (aa o8 (aa Fv (aa Kv (ae MV) (ae B0)) (aa o0 (ae o0) av)) (aa GU (aa o0 (ae o1) (ae Ci)) (aa OU (ae zX) av))) (aa Cz (aa o7 (aa ME (ae o0) (ae B8)) (aa KP (ae xC) av)) (aa HD (aa ML (ae zP) (ae D7)) (aa MS (ae BV) av)))) (aa o2 (aa DU (aa D1 (aa Kw (ae o0) (ae B4)) (aa MM (ae xB) av)) (aa GW (aa KC (ae zN) (ae Cm)) (aa o1 (ae BQ) av))) (aa o7 (aa GR (aa MI (ae BK) (ae Cc)) (aa o0 (ae zV) av)) u1)))) (aa DK (aa DL (aa DQ (aa o7 (aa o1 (aa Ku (ae MU) (ae BZ)) (aa OS (ae zS) av)) (aa o1 (aa Ky (ae o0) (ae Cg)) (aa o0 (ae zW) av))) (aa KI (aa dU (aa o7 (ae xy) (ae B7)) (aa KO (ae zU) av)) (aa GZ (aa MK (ae o1) (ae o0)) (aa OV (ae BU) av)))) (aa VV (aa o9 (aa DZ (aa HH (ae MW) (ae B3)) (aa o0 (ae xA) av)) (aa GV (aa KA (ae BL) (ae Ck)) (aa o0 (ae o0) av))) (aa dU (aa GQ (aa MG (ae o0) (ae Cb)) (aa OT (ae o1) av)) u2))) (aa DN (aa ql (aa o0 (aa Fw (aa o0 (ae o0) (ae B1)) (aa o1 (ae o1) av)) (aa o0 (aa MJ (ae zM) (ae Cj)) (aa MP (ae BP) av))) (aa DW (aa GP (aa o0 (ae o1) (ae B9)) (aa KQ (ae xD) av)) (aa HE (aa dU (ae o0) (ae Cp)) (aa MT (ae BW) av)))) (aa o3 (aa o0 (aa Fx (aa Kx (ae OY) (ae B5)) (aa KL (ae o0) av)) (aa GX (aa KG (ae zO) (ae Cn)) (aa MR (ae BR) av))) (aa Fu (aa GS (aa o0 (ae zK) (ae Cd)) (aa o1 (ae o0) av)) (aa o0 (aa OQ (ae zQ) av) (aa o0 (ae BX) av)))))))
noncomputable def T9:TF:=(aa Cv (aa Cw (aa aaf (aa DP (aa o6 (aa o0 (aa o1 (ae OX) (ae BY)) (aa OR (ae zR) (ae o0))) (aa o0 (aa o1 (ae zL) (ae Cf)) (aa MO (ae BO) (ae Ef)))) (aa Cy (aa Fy (aa dU (ae MX) (ae B6)) (aa KN (ae o1) (ae o1))) (aa GY (aa KH (ae o0) (ae Co)) (aa o0 (ae BS) (ae o0))))) (aa o0 (aa o1 (aa o0 (aa HG (ae o1) (ae B2)) (aa KJ (ae zT) (ae Ec))) (aa HC (aa Kz (ae o0) (ae o0)) (aa MQ (ae o0) (ae Eh)))) (aa DY (aa o0 (aa MF (ae zJ) (ae Ca)) (aa MN (ae o0) (ae Cu))) u0))) (aa DM (aa DR (aa o8 (aa Fv (aa Kv (ae MV) (ae B0)) (aa o0 (ae o0) (ae Cq))) (aa GU (aa o0 (ae o1) (ae Ci)) (aa OU (ae zX) (ae G0)))) (aa Cz (aa o7 (aa ME (ae o0) (ae B8)) (aa KP (ae xC) (ae o0))) (aa HD (aa ML (ae zP) (ae D7)) (aa MS (ae BV) (ae Ej))))) (aa o2 (aa DU (aa D1 (aa Kw (ae o0) (ae B4)) (aa MM (ae xB) (ae Cs))) (aa GW (aa KC (ae zN) (ae Cm)) (aa o1 (ae BQ) (ae o1)))) (aa o7 (aa GR (aa MI (ae BK) (ae Cc)) (aa o0 (ae zV) (ae o0))) u1)))) (aa DK (aa DL (aa DQ (aa o7 (aa o1 (aa Ku (ae MU) (ae BZ)) (aa OS (ae zS) (ae o1))) (aa o1 (aa Ky (ae o0) (ae Cg)) (aa o0 (ae zW) (ae o0)))) (aa KI (aa dU (aa o7 (ae xy) (ae B7)) (aa KO (ae zU) (ae Ct))) (aa GZ (aa MK (ae o1) (ae o0)) (aa OV (ae BU) (ae G2))))) (aa aag (aa o9 (aa DZ (aa HH (ae MW) (ae B3)) (aa o0 (ae xA) (ae Cr))) (aa GV (aa KA (ae BL) (ae Ck)) (aa o0 (ae o0) (ae o0)))) (aa dU (aa GQ (aa MG (ae o0) (ae Cb)) (aa OT (ae o1) (ae Ee))) u2))) (aa DN (aa ql (aa o0 (aa Fw (aa o0 (ae o0) (ae B1)) (aa o1 (ae o1) (ae o0))) (aa o0 (aa MJ (ae zM) (ae Cj)) (aa MP (ae BP) (ae Eg)))) (aa DW (aa GP (aa o0 (ae o1) (ae B9)) (aa KQ (ae xD) (ae Ed))) (aa HE (aa dU (ae o0) (ae Cp)) (aa MT (ae BW) (ae Ek))))) (aa o3 (aa o0 (aa Fx (aa Kx (ae OY) (ae B5)) (aa KL (ae o0) (ae o0))) (aa GX (aa KG (ae zO) (ae Cn)) (aa MR (ae BR) (ae Ei)))) (aa Fu (aa GS (aa o0 (ae zK) (ae Cd)) (aa o1 (ae o0) (ae o1))) (aa o0 (aa OQ (ae zQ) (ae Eb)) (aa o0 (ae BX) av)))))))
noncomputable def u3:TF:=(aa o0 (aa o1 (aa OX (ae KS) av) (ae BY)) (aa OR (aa zR (ae o0) av) (ae o0)))
noncomputable def u4:TF:=(aa o0 (aa o1 (aa zL (ae K5) av) (ae Cf)) (aa MO (aa BO (ae Hj) av) (ae Ef)))
noncomputable def u5:TF:=(aa o6 u3 u4)
noncomputable def u6:TF:=(aa Fy (aa dU (aa MX (ae G4) av) (ae B6)) (aa KN (aa o1 (ae Hh) av) (ae o1)))
noncomputable def u7:TF:=(aa GY (aa KH (aa o0 (ae o0) av) (ae Co)) (aa o0 (ae BS) (ae o0)))
noncomputable def u8:TF:=(aa Cy u6 u7)
noncomputable def u9:TF:=(aa DP u5 u8)
noncomputable def u10:TF:=(aa o0 (aa HG (aa o1 (ae o1) av) (ae B2)) (aa KJ (aa zT (ae o0) av) (ae Ec)))
noncomputable def u11:TF:=(aa HC (aa Kz (aa o0 (ae o0) av) (ae o0)) (aa MQ (ae o0) (ae Eh)))
noncomputable def u12:TF:=(aa o1 u10 u11)
noncomputable def u13:TF:=(aa o0 (aa MF (aa zJ (ae G8) av) (ae Ca)) (aa MN (aa o0 (ae o1) av) (ae Cu)))
noncomputable def u14:TF:=(aa dU (aa o7 (aa D3 (ae Hf) av) (ae D8)) (aa o0 (ae D4) (ae o0)))
noncomputable def u15:TF:=(aa DY u13 u14)
noncomputable def u16:TF:=(aa o0 u12 u15)
noncomputable def u17:TF:=(aa Fv (aa Kv (aa MV (ae KW) av) (ae B0)) (aa o0 (aa o0 (ae El) av) (ae Cq)))
noncomputable def u18:TF:=(aa GU (aa o0 (aa o1 (ae o1) av) (ae Ci)) (aa OU (ae zX) (ae G0)))
noncomputable def u19:TF:=(aa o8 u17 u18)
noncomputable def u20:TF:=(aa o7 (aa ME (aa o0 (ae G6) av) (ae B8)) (aa KP (aa xC (ae Er) av) (ae o0)))
noncomputable def u21:TF:=(aa HD (aa ML (aa zP (ae K7) av) (ae D7)) (aa MS (ae BV) (ae Ej)))
noncomputable def u22:TF:=(aa Cz u20 u21)
noncomputable def u23:TF:=(aa DR u19 u22)
noncomputable def u24:TF:=(aa D1 (aa Kw (aa o0 (ae o0) av) (ae B4)) (aa MM (aa xB (ae Eo) av) (ae Cs)))
noncomputable def u25:TF:=(aa GW (aa KC (aa zN (ae Hc) av) (ae Cm)) (aa o1 (ae BQ) (ae o1)))
noncomputable def u26:TF:=(aa DU u24 u25)
noncomputable def u27:TF:=(aa GR (aa MI (aa BK (ae Ha) av) (ae Cc)) (aa o0 (aa zV (ae o0) av) (ae o0)))
noncomputable def u28:TF:=(aa MD (aa o0 (aa BN (ae o1) av) (ae Ea)) (aa OW (ae D6) (ae KR)))
noncomputable def u29:TF:=(aa o7 u27 u28)
noncomputable def u30:TF:=(aa o2 u26 u29)
noncomputable def u31:TF:=(aa DM u23 u30)
noncomputable def u32:TF:=(aa o1 (aa Ku (aa MU (ae KU) av) (ae BZ)) (aa OS (aa zS (ae K9) av) (ae o1)))
noncomputable def u33:TF:=(aa o1 (aa Ky (aa o0 (ae o0) av) (ae Cg)) (aa o0 (aa zW (ae Hk) av) (ae o0)))
noncomputable def u34:TF:=(aa o7 u32 u33)
noncomputable def u35:TF:=(aa dU (aa o7 (aa xy (ae G5) av) (ae B7)) (aa KO (aa zU (ae Ep) av) (ae Ct)))
noncomputable def u36:TF:=(aa GZ (aa MK (aa o1 (ae o1) av) (ae o0)) (aa OV (ae BU) (ae G2)))
noncomputable def u37:TF:=(aa KI u35 u36)
noncomputable def u38:TF:=(aa DQ u34 u37)
noncomputable def u39:TF:=(aa DZ (aa HH (aa MW (ae G3) av) (ae B3)) (aa o0 (aa xA (ae o1) av) (ae Cr)))
noncomputable def u40:TF:=(aa GV (aa KA (aa BL (ae K6) av) (ae Ck)) (aa o0 (ae o0) (ae o0)))
noncomputable def u41:TF:=(aa o9 u39 u40)
noncomputable def u42:TF:=(aa GQ (aa MG (aa o0 (ae G9) av) (ae Cb)) (aa OT (aa o1 (ae Hi) av) (ae Ee)))
noncomputable def u43:TF:=(aa o7 (aa QM (aa BM (ae o0) av) (ae D9)) (aa o1 (ae D5) (ae o7)))
noncomputable def u44:TF:=(aa dU u42 u43)
noncomputable def u45:TF:=(aa aai u41 u44)
noncomputable def u46:TF:=(aa DL u38 u45)
noncomputable def u47:TF:=(aa Fw (aa o0 (aa o0 (ae o0) av) (ae B1)) (aa o1 (aa o1 (ae Em) av) (ae o0)))
noncomputable def u48:TF:=(aa o0 (aa MJ (aa zM (ae Hb) av) (ae Cj)) (aa MP (ae BP) (ae Eg)))
noncomputable def u49:TF:=(aa o0 u47 u48)
noncomputable def u50:TF:=(aa GP (aa o0 (aa o1 (ae G7) av) (ae B9)) (aa KQ (aa xD (ae o0) av) (ae Ed)))
noncomputable def u51:TF:=(aa HE (aa dU (aa o0 (ae He) av) (ae Cp)) (aa MT (ae BW) (ae Ek)))
noncomputable def u52:TF:=(aa DW u50 u51)
noncomputable def u53:TF:=(aa ql u49 u52)
noncomputable def u54:TF:=(aa Fx (aa Kx (aa OY (ae KY) av) (ae B5)) (aa KL (aa o0 (ae o0) av) (ae o0)))
noncomputable def u55:TF:=(aa GX (aa KG (aa zO (ae Hd) av) (ae Cn)) (aa MR (ae BR) (ae Ei)))
noncomputable def u56:TF:=(aa o0 u54 u55)
noncomputable def u57:TF:=(aa GS (aa o0 (aa zK (ae KZ) av) (ae Cd)) (aa o1 (aa o0 (ae La) av) (ae o1)))
noncomputable def u58:TF:=(aa o0 (aa OQ (aa zQ (ae Hg) av) (ae Eb)) (aa o0 (ae BX) (ae o0)))
noncomputable def u59:TF:=(aa Fu u57 u58)
noncomputable def u60:TF:=(aa o3 u56 u59)
noncomputable def u61:TF:=(aa DN u53 u60)
noncomputable def u62:TF:=(aa DK u46 u61)
noncomputable def T10:TF:=(aa Cv (aa Cw (aa aah u9 u16) u31) u62)
noncomputable def T11:TF:=(aa Cv (aa Cw (aa aaj u9 u16) u31) u62)
noncomputable def u63:TF:=(aa o1 (aa OX (ae KS) (ae o0)) (aa BY (ae Ld) (ae o1)))
noncomputable def u64:TF:=(aa OR (aa zR (ae o0) (ae Pg)) (aa o0 (ae o1) (ae Pp)))
noncomputable def u65:TF:=(aa o0 u63 u64)
noncomputable def u66:TF:=(aa o1 (aa zL (ae K5) (ae LL)) (aa Cf (ae Lk) (ae o0)))
noncomputable def u67:TF:=(aa MO (aa BO (ae Hj) (ae LW)) (aa Ef (ae Lw) av))
noncomputable def u68:TF:=(aa o0 u66 u67)
noncomputable def u69:TF:=(aa o6 u65 u68)
noncomputable def u70:TF:=(aa dU (aa MX (ae G4) (ae o1)) (aa B6 (ae Lg) (ae L9)))
noncomputable def u71:TF:=(aa KH (aa o0 (ae o0) (ae o0)) (aa Co (ae o0) (ae Po)))
noncomputable def u72:TF:=(aa o0 (aa BS (ae O2) (ae o0)) (aa o0 (ae LA) av))
noncomputable def u73:TF:=(aa GY u71 u72)
noncomputable def u74:TF:=(aa HG (aa o1 (ae o1) (ae Pc)) (aa B2 (ae Lf) (ae L7)))
noncomputable def u75:TF:=(aa Kz (aa o0 (ae o0) (ae LN)) (aa o0 (ae o0) (ae o0)))
noncomputable def u76:TF:=(aa MQ (aa o0 (ae OZ) (ae o0)) (aa Eh (ae Ly) av))
noncomputable def u77:TF:=(aa HC u75 u76)
noncomputable def u78:TF:=(aa MF (aa zJ (ae G8) (ae LJ)) (aa Ca (ae Li) (ae Mb)))
noncomputable def u79:TF:=(aa o7 (aa D3 (ae Hf) (ae o0)) (aa D8 (ae O8) (ae Ml)))
noncomputable def u80:TF:=(aa o0 (aa D4 (ae Lb) (ae Pk)) (aa o0 (ae o0) av))
noncomputable def u81:TF:=(aa dU u79 u80)
noncomputable def u82:TF:=(aa Kv (aa MV (ae KW) (ae LF)) (aa B0 (ae O4) (ae o0)))
noncomputable def u83:TF:=(aa o0 (aa o1 (ae o1) (ae Pe)) (aa Ci (ae o1) (ae Me)))
noncomputable def u84:TF:=(aa OU (aa zX (ae o0) (ae o1)) (aa G0 (ae o0) av))
noncomputable def u85:TF:=(aa GU u83 u84)
noncomputable def u86:TF:=(aa ME (aa o0 (ae G6) (ae o0)) (aa B8 (ae o0) (ae Pm)))
noncomputable def u87:TF:=(aa ML (aa zP (ae K7) (ae LP)) (aa D7 (ae Lo) (ae Mi)))
noncomputable def u88:TF:=(aa MS (aa BV (ae o1) (ae L3)) (aa Ej (ae o1) av))
noncomputable def u89:TF:=(aa HD u87 u88)
noncomputable def u90:TF:=(aa Kw (aa o0 (ae o0) (ae LH)) (aa B4 (ae o1) (ae o0)))
noncomputable def u91:TF:=(aa KC (aa zN (ae Hc) (ae o1)) (aa Cm (ae Lm) (ae Mg)))
noncomputable def u92:TF:=(aa o1 (aa BQ (ae O0) (ae LY)) (aa o1 (ae Pa) av))
noncomputable def u93:TF:=(aa GW u91 u92)
noncomputable def u94:TF:=(aa MI (aa BK (ae Ha) (ae o0)) (aa Cc (ae O6) (ae o1)))
noncomputable def u95:TF:=(aa o0 (aa BN (ae o1) (ae LR)) (aa Ea (ae Lq) (ae Mm)))
noncomputable def u96:TF:=(aa OW (aa D6 (ae o0) (ae L5)) (aa KR (ae LC) av))
noncomputable def u97:TF:=(aa MD u95 u96)
noncomputable def u98:TF:=(aa Ku (aa MU (ae KU) (ae o1)) (aa BZ (ae o0) (ae L6)))
noncomputable def u99:TF:=(aa OS (aa zS (ae K9) (ae LS)) (aa o1 (ae Lr) (ae Pq)))
noncomputable def aar:TF:=(aa o1 u98 u99)
noncomputable def aas:TF:=(aa Ky (aa o0 (ae o0) (ae o0)) (aa Cg (ae o0) (ae Pn)))
noncomputable def aat:TF:=(aa o0 (aa zW (ae Hk) (ae o0)) (aa o0 (ae Lx) av))
noncomputable def aau:TF:=(aa o1 aas aat)
noncomputable def V9:TF:=(aa o7 aar aau)
noncomputable def Wa:TF:=(aa o7 (aa xy (ae G5) (ae LI)) (aa B7 (ae Lh) (ae o0)))
noncomputable def aav:TF:=(aa MK (aa o1 (ae o1) (ae Pf)) (aa o0 (ae o1) (ae Mh)))
noncomputable def aaw:TF:=(aa OV (aa BU (ae o0) (ae o1)) (aa G2 (ae o0) av))
noncomputable def Wb:TF:=(aa GZ aav aaw)
noncomputable def Wc:TF:=(aa HH (aa MW (ae G3) (ae LG)) (aa B3 (ae o0) (ae L8)))
noncomputable def aax:TF:=(aa KA (aa BL (ae K6) (ae o0)) (aa Ck (ae O7) (ae o1)))
noncomputable def aay:TF:=(aa o0 (aa o0 (ae o0) (ae Pj)) (aa o0 (ae o0) av))
noncomputable def Wd:TF:=(aa GV aax aay)
noncomputable def We:TF:=(aa MG (aa o0 (ae G9) (ae LK)) (aa Cb (ae o0) (ae o0)))
noncomputable def aaz:TF:=(aa QM (aa BM (ae o0) (ae o1)) (aa D9 (ae Lp) (ae aam)))
noncomputable def aaA:TF:=(aa o1 (aa D5 (ae Lc) (ae L4)) (aa o7 (ae Pb) av))
noncomputable def Wg:TF:=(aa o7 aaz aaA)
noncomputable def Wh:TF:=(aa o0 (aa o0 (ae o0) (ae o0)) (aa B1 (ae Le) (ae Pl)))
noncomputable def aaB:TF:=(aa MJ (aa zM (ae Hb) (ae LM)) (aa Cj (ae Ll) (ae Mf)))
noncomputable def aaC:TF:=(aa MP (aa BP (ae o7) (ae LX)) (aa Eg (ae o1) av))
noncomputable def Wi:TF:=(aa o0 aaB aaC)
noncomputable def Wj:TF:=(aa o0 (aa o1 (ae G7) (ae Pd)) (aa B9 (ae o1) (ae Ma)))
noncomputable def aaD:TF:=(aa dU (aa o0 (ae He) (ae LQ)) (aa Cp (ae o0) (ae Mj)))
noncomputable def aaE:TF:=(aa MT (aa BW (ae O3) (ae o0)) (aa Ek (ae LB) av))
noncomputable def Wk:TF:=(aa HE aaD aaE)
noncomputable def Wl:TF:=(aa Kx (aa OY (ae KY) (ae o0)) (aa B5 (ae O5) (ae o1)))
noncomputable def aaF:TF:=(aa KG (aa zO (ae Hd) (ae LO)) (aa Cn (ae Ln) (ae o0)))
noncomputable def aaG:TF:=(aa MR (aa BR (ae O1) (ae LZ)) (aa Ei (ae Lz) av))
noncomputable def Wm:TF:=(aa GX aaF aaG)
noncomputable def Wn:TF:=(aa o0 (aa zK (ae KZ) (ae o1)) (aa Cd (ae Lj) (ae Md)))
noncomputable def aaH:TF:=(aa OQ (aa zQ (ae Hg) (ae o0)) (aa Eb (ae o0) (ae Mn)))
noncomputable def aaI:TF:=(aa o0 (aa BX (ae o1) (ae o0)) (aa o0 (ae LD) av))
noncomputable def Wo:TF:=(aa o0 aaH aaI)
noncomputable def T12:TF:=(aa Cv (aa Cw (aa aak (aa DP u69 (aa Cy (aa Fy u70 (aa KN (aa o1 (ae Hh) (ae Ht)) (aa o1 (ae Hn) av))) u73)) (aa o0 (aa o1 (aa o0 u74 (aa KJ (aa zT (ae o0) (ae o1)) (aa Ec (ae Hl) av))) u77) (aa DY (aa o0 u78 (aa MN (aa o0 (ae o1) (ae Hv)) (aa Cu (ae Hq) av))) u81))) (aa DM (aa DR (aa o8 (aa Fv u82 (aa o0 (aa o0 (ae El) (ae Hr)) (aa Cq (ae o0) av))) u85) (aa Cz (aa o7 u86 (aa KP (aa xC (ae Er) (ae o0)) (aa o0 (ae Lu) av))) u89)) (aa o2 (aa DU (aa D1 u90 (aa MM (aa xB (ae Eo) (ae o0)) (aa Cs (ae o0) av))) u93) (aa o7 (aa GR u94 (aa o0 (aa zV (ae o0) (ae Ph)) (aa o0 (ae o1) av))) u97)))) (aa DK (aa DL (aa DQ V9 (aa KI (aa dU Wa (aa KO (aa zU (ae Ep) (ae Hu)) (aa Ct (ae o0) av))) Wb)) (aa aal (aa o9 (aa DZ Wc (aa o0 (aa xA (ae o1) (ae Hs)) (aa Cr (ae Hm) av))) Wd) (aa dU (aa GQ We (aa OT (aa o1 (ae Hi) (ae o0)) (aa Ee (ae o0) av))) Wg))) (aa DN (aa ql (aa o0 (aa Fw Wh (aa o1 (aa o1 (ae Em) (ae o0)) (aa o0 (ae Ls) av))) Wi) (aa DW (aa GP Wj (aa KQ (aa xD (ae o0) (ae o1)) (aa Ed (ae Ho) av))) Wk)) (aa o3 (aa o0 (aa Fx Wl (aa KL (aa o0 (ae o0) (ae LU)) (aa o0 (ae o1) av))) Wm) (aa Fu (aa GS Wn (aa o1 (aa o0 (ae La) (ae LV)) (aa o1 (ae O9) av))) Wo)))))
noncomputable def Wq:TF:=(aa o0 (aa zV (ae o0) (ae Ph)) (aa o0 (ae o1) (ae Pu)))
noncomputable def Wr:TF:=(aa OT (aa o1 (ae Hi) (ae o0)) (aa Ee (ae o0) (ae SI)))
noncomputable def Ws:TF:=(aa o1 (aa o0 (ae La) (ae LV)) (aa o1 (ae O9) (ae Pw)))
noncomputable def T13:TF:=(aa Cv (aa Cw (aa aan (aa DP u69 (aa Cy (aa Fy u70 (aa KN (aa o1 (ae Hh) (ae Ht)) (aa o1 (ae Hn) (ae Mq)))) u73)) (aa o0 (aa o1 (aa o0 u74 (aa KJ (aa zT (ae o0) (ae o1)) (aa Ec (ae Hl) (ae Mo)))) u77) (aa DY (aa o0 u78 (aa MN (aa o0 (ae o1) (ae Hv)) (aa Cu (ae Hq) (ae o0)))) u81))) (aa DM (aa DR (aa o8 (aa Fv u82 (aa o0 (aa o0 (ae El) (ae Hr)) (aa Cq (ae o0) (ae o0)))) u85) (aa Cz (aa o7 u86 (aa KP (aa xC (ae Er) (ae o0)) (aa o0 (ae Lu) (ae o1)))) u89)) (aa o2 (aa DU (aa D1 u90 (aa MM (aa xB (ae Eo) (ae o0)) (aa Cs (ae o0) (ae Pr)))) u93) (aa o7 (aa GR u94 Wq) u97)))) (aa DK (aa DL (aa DQ V9 (aa KI (aa dU Wa (aa KO (aa zU (ae Ep) (ae Hu)) (aa Ct (ae o0) (ae o0)))) Wb)) (aa aao (aa o9 (aa DZ Wc (aa o0 (aa xA (ae o1) (ae Hs)) (aa Cr (ae Hm) (ae o0)))) Wd) (aa dU (aa GQ We Wr) Wg))) (aa DN (aa ql (aa o0 (aa Fw Wh (aa o1 (aa o1 (ae Em) (ae o0)) (aa o0 (ae Ls) (ae o1)))) Wi) (aa DW (aa GP Wj (aa KQ (aa xD (ae o0) (ae o1)) (aa Ed (ae Ho) (ae Mr)))) Wk)) (aa o3 (aa o0 (aa Fx Wl (aa KL (aa o0 (ae o0) (ae LU)) (aa o0 (ae o1) (ae Mp)))) Wm) (aa Fu (aa GS Wn Ws) Wo)))))
noncomputable def T14:TF:=(aa Cv (aa Cw (aa aap (aa DP (aa o6 (aa o0 (aa o1 (aa OX (aa KS (ae PD) av) (ae o0)) (aa BY (ae Ld) (ae o1))) (aa OR (aa zR (aa o0 (ae P2) av) (ae Pg)) (aa o0 (ae o1) (ae Pp)))) (aa o0 (aa o1 (aa zL (aa K5 (ae SS) av) (ae LL)) (aa Cf (ae Lk) (ae o0))) (aa MO (aa BO (ae Hj) (ae LW)) (aa Ef (ae Lw) (ae Py))))) (aa Cy (aa Fy (aa dU (aa MX (aa G4 (ae o0) av) (ae o1)) (aa B6 (ae Lg) (ae L9))) (aa KN (aa o1 (aa Hh (ae o0) av) (ae Ht)) (aa o1 (ae Hn) (ae Mq)))) (aa GY (aa KH (aa o0 (aa o0 (ae PX) av) (ae o0)) (aa Co (ae o0) (ae Po))) (aa o0 (aa BS (ae O2) (ae o0)) (aa o0 (ae LA) (ae o1)))))) (aa o0 (aa o1 (aa o0 (aa HG (aa o1 (aa o1 (ae PJ) av) (ae Pc)) (aa B2 (ae Lf) (ae L7))) (aa KJ (aa zT (aa o0 (ae o0) av) (ae o1)) (aa Ec (ae Hl) (ae Mo)))) (aa HC (aa Kz (aa o0 (aa o0 (ae o1) av) (ae LN)) (aa o0 (ae o0) (ae o0))) (aa MQ (aa o0 (ae OZ) (ae o0)) (aa Eh (ae Ly) (ae SK))))) (aa DY (aa o0 (aa MF (aa zJ (aa G8 (ae o0) av) (ae LJ)) (aa Ca (ae Li) (ae Mb))) (aa MN (aa o0 (aa o1 (ae SY) av) (ae Hv)) (aa Cu (ae Hq) (ae o0)))) (aa dU (aa o7 (aa D3 (aa Hf (ae PZ) av) (ae o0)) (aa D8 (ae O8) (ae Ml))) (aa o0 (aa D4 (ae Lb) (ae Pk)) (aa o0 (ae o0) (ae PB))))))) (aa DM (aa DR (aa o8 (aa Fv (aa Kv (aa MV (aa KW (ae SQ) av) (ae LF)) (aa B0 (ae O4) (ae o0))) (aa o0 (aa o0 (aa El (ae o1) av) (ae Hr)) (aa Cq (ae o0) (ae o0)))) (aa GU (aa o0 (aa o1 (aa o1 (ae PU) av) (ae Pe)) (aa Ci (ae o1) (ae Me))) (aa OU (aa zX (ae o0) (ae o1)) (aa G0 (ae o0) (ae SJ))))) (aa Cz (aa o7 (aa ME (aa o0 (aa G6 (ae PL) av) (ae o0)) (aa B8 (ae o0) (ae Pm))) (aa KP (aa xC (aa Er (ae Qa) av) (ae o0)) (aa o0 (ae Lu) (ae o1)))) (aa HD (aa ML (aa zP (aa K7 (ae o0) av) (ae LP)) (aa D7 (ae Lo) (ae Mi))) (aa MS (aa BV (ae o1) (ae L3)) (aa Ej (ae o1) (ae o0)))))) (aa o2 (aa DU (aa D1 (aa Kw (aa o0 (aa o0 (ae o1) av) (ae LH)) (aa B4 (ae o1) (ae o0))) (aa MM (aa xB (aa Eo (ae P7) av) (ae o0)) (aa Cs (ae o0) (ae Pr)))) (aa GW (aa KC (aa zN (aa Hc (ae o0) av) (ae o1)) (aa Cm (ae Lm) (ae Mg))) (aa o1 (aa BQ (ae O0) (ae LY)) (aa o1 (ae Pa) (ae SN))))) (aa o7 (aa GR (aa MI (aa BK (aa Ha (ae PQ) av) (ae o0)) (aa Cc (ae O6) (ae o1))) Wq) (aa MD (aa o0 (aa BN (aa o1 (ae SV) av) (ae LR)) (aa Ea (ae Lq) (ae Mm))) (aa OW (aa D6 (ae o0) (ae L5)) (aa KR (ae LC) (ae o0)))))))) (aa DK (aa DL (aa DQ (aa o7 (aa o1 (aa Ku (aa MU (aa KU (ae o0) av) (ae o1)) (aa BZ (ae o0) (ae L6))) (aa OS (aa zS (aa K9 (ae o0) av) (ae LS)) (aa o1 (ae Lr) (ae Pq)))) (aa o1 (aa Ky (aa o0 (aa o0 (ae PR) av) (ae o0)) (aa Cg (ae o0) (ae Pn))) (aa o0 (aa zW (ae Hk) (ae o0)) (aa o0 (ae Lx) (ae o7))))) (aa KI (aa dU (aa o7 (aa xy (aa G5 (ae SR) av) (ae LI)) (aa B7 (ae Lh) (ae o0))) (aa KO (aa zU (aa Ep (ae P9) av) (ae Hu)) (aa Ct (ae o0) (ae o0)))) (aa GZ (aa MK (aa o1 (aa o1 (ae PY) av) (ae Pf)) (aa o0 (ae o1) (ae Mh))) (aa OV (aa BU (ae o0) (ae o1)) (aa G2 (ae o0) (ae Pz)))))) (aa aaq (aa o9 (aa DZ (aa HH (aa MW (aa G3 (ae o0) av) (ae LG)) (aa B3 (ae o0) (ae L8))) (aa o0 (aa xA (aa o1 (ae SW) av) (ae Hs)) (aa Cr (ae Hm) (ae o0)))) (aa GV (aa KA (aa BL (aa K6 (ae PV) av) (ae o0)) (aa Ck (ae O7) (ae o1))) (aa o0 (aa o0 (ae o0) (ae Pj)) (aa o0 (ae o0) (ae SM))))) (aa dU (aa GQ (aa MG (aa o0 (aa G9 (ae o1) av) (ae LK)) (aa Cb (ae o0) (ae o0))) Wr) (aa o7 (aa QM (aa BM (aa o0 (ae o0) av) (ae o1)) (aa D9 (ae Lp) (ae Px))) (aa o1 (aa D5 (ae Lc) (ae L4)) (aa o7 (ae Pb) (ae PC))))))) (aa DN (aa ql (aa o0 (aa Fw (aa o0 (aa o0 (aa o0 (ae PH) av) (ae o0)) (aa B1 (ae Le) (ae Pl))) (aa o1 (aa o1 (aa Em (ae P4) av) (ae o0)) (aa o0 (ae Ls) (ae o1)))) (aa o0 (aa MJ (aa zM (aa Hb (ae o0) av) (ae LM)) (aa Cj (ae Ll) (ae Mf))) (aa MP (aa BP (ae o7) (ae LX)) (aa Eg (ae o1) (ae o0))))) (aa DW (aa GP (aa o0 (aa o1 (aa G7 (ae PN) av) (ae Pd)) (aa B9 (ae o1) (ae Ma))) (aa KQ (aa xD (aa o0 (ae SX) av) (ae o1)) (aa Ed (ae Ho) (ae Mr)))) (aa HE (aa dU (aa o0 (aa He (ae o1) av) (ae LQ)) (aa Cp (ae o0) (ae Mj))) (aa MT (aa BW (ae O3) (ae o0)) (aa Ek (ae LB) (ae SO)))))) (aa o3 (aa o0 (aa Fx (aa Kx (aa OY (aa KY (ae PK) av) (ae o0)) (aa B5 (ae O5) (ae o1))) (aa KL (aa o0 (aa o0 (ae P8) av) (ae LU)) (aa o0 (ae o1) (ae Mp)))) (aa GX (aa KG (aa zO (aa Hd (ae SU) av) (ae LO)) (aa Cn (ae Ln) (ae o0))) (aa MR (aa BR (ae O1) (ae LZ)) (aa Ei (ae Lz) (ae o0))))) (aa Fu (aa GS (aa o0 (aa zK (aa KZ (ae o0) av) (ae o1)) (aa Cd (ae Lj) (ae Md))) Ws) (aa o0 (aa OQ (aa zQ (aa Hg (ae P1) av) (ae o0)) (aa Eb (ae o0) (ae Mn))) (aa o0 (aa BX (ae o1) (ae o0)) (aa o0 (ae LD) (ae o1)))))))))
noncomputable def T15:TF:=(aa Cv (aa Cw (aa S0 (aa DP (aa o6 (aa o0 (aa o1 (aa OX (aa KS (ae PD) av) (ae o0)) (aa BY (aa Ld (ae Ta) av) (ae o1))) (aa OR (aa zR (aa o0 (ae P2) av) (ae Pg)) (aa o0 (aa o1 (ae Tr) av) (ae Pp)))) (aa o0 (aa o1 (aa zL (aa K5 (ae SS) av) (ae LL)) (aa Cf (aa Lk (ae o0) av) (ae o0))) (aa MO (aa BO (aa Hj (ae o0) av) (ae LW)) (aa Ef (aa Lw (ae o0) av) (ae Py))))) (aa Cy (aa Fy (aa dU (aa MX (aa G4 (ae o0) av) (ae o1)) (aa B6 (aa Lg (ae Te) av) (ae L9))) (aa KN (aa o1 (aa Hh (ae o0) av) (ae Ht)) (aa o1 (aa Hn (ae o0) av) (ae Mq)))) (aa GY (aa KH (aa o0 (aa o0 (ae PX) av) (ae o0)) (aa Co (aa o0 (ae o1) av) (ae Po))) (aa o0 (aa BS (aa O2 (ae VY) av) (ae o0)) (aa o0 (aa LA (ae TH) av) (ae o1)))))) (aa o0 (aa o1 (aa o0 (aa HG (aa o1 (aa o1 (ae PJ) av) (ae Pc)) (aa B2 (aa Lf (ae Tc) av) (ae L7))) (aa KJ (aa zT (aa o0 (ae o0) av) (ae o1)) (aa Ec (aa Hl (ae o0) av) (ae Mo)))) (aa HC (aa Kz (aa o0 (aa o0 (ae o1) av) (ae LN)) (aa o0 (aa o0 (ae V2) av) (ae o0))) (aa MQ (aa o0 (aa OZ (ae o0) av) (ae o0)) (aa Eh (aa Ly (ae o0) av) (ae SK))))) (aa DY (aa o0 (aa MF (aa zJ (aa G8 (ae o0) av) (ae LJ)) (aa Ca (aa Li (ae o0) av) (ae Mb))) (aa MN (aa o0 (aa o1 (ae SY) av) (ae Hv)) (aa Cu (aa Hq (ae Tw) av) (ae o0)))) (aa dU (aa o7 (aa D3 (aa Hf (ae PZ) av) (ae o0)) (aa D8 (aa O8 (ae o0) av) (ae Ml))) (aa o0 (aa D4 (aa Lb (ae o1) av) (ae Pk)) (aa o0 (ae o0) (ae PB))))))) (aa DM (aa DR (aa o8 (aa Fv (aa Kv (aa MV (aa KW (ae SQ) av) (ae LF)) (aa B0 (aa O4 (ae o0) av) (ae o0))) (aa o0 (aa o0 (aa El (ae o1) av) (ae Hr)) (aa Cq (aa o0 (ae o1) av) (ae o0)))) (aa GU (aa o0 (aa o1 (aa o1 (ae PU) av) (ae Pe)) (aa Ci (aa o1 (ae Ti) av) (ae Me))) (aa OU (aa zX (aa o0 (ae S4) av) (ae o1)) (aa G0 (aa o0 (ae Tz) av) (ae SJ))))) (aa Cz (aa o7 (aa ME (aa o0 (aa G6 (ae PL) av) (ae o0)) (aa B8 (aa o0 (ae o1) av) (ae Pm))) (aa KP (aa xC (aa Er (ae Qa) av) (ae o0)) (aa o0 (aa Lu (ae V6) av) (ae o1)))) (aa HD (aa ML (aa zP (aa K7 (ae o0) av) (ae LP)) (aa D7 (aa Lo (ae To) av) (ae Mi))) (aa MS (aa BV (aa o1 (ae S8) av) (ae L3)) (aa Ej (ae o1) (ae o0)))))) (aa o2 (aa DU (aa D1 (aa Kw (aa o0 (aa o0 (ae o1) av) (ae LH)) (aa B4 (aa o1 (ae V0) av) (ae o0))) (aa MM (aa xB (aa Eo (ae P7) av) (ae o0)) (aa Cs (aa o0 (ae Tt) av) (ae Pr)))) (aa GW (aa KC (aa zN (aa Hc (ae o0) av) (ae o1)) (aa Cm (aa Lm (ae Tn) av) (ae Mg))) (aa o1 (aa BQ (aa O0 (ae S6) av) (ae LY)) (aa o1 (aa Pa (ae V8) av) (ae SN))))) (aa o7 (aa GR (aa MI (aa BK (aa Ha (ae PQ) av) (ae o0)) (aa Cc (aa O6 (ae Tg) av) (ae o1))) (aa o0 (aa zV (aa o0 (ae o1) av) (ae Ph)) (aa o0 (aa o1 (ae o1) av) (ae Pu)))) (aa MD (aa o0 (aa BN (aa o1 (ae SV) av) (ae LR)) (aa Ea (aa Lq (ae V4) av) (ae Mm))) (aa OW (aa D6 (aa o0 (ae o0) av) (ae L5)) (aa KR (ae LC) (ae o0)))))))) (aa DK (aa DL (aa DQ (aa o7 (aa o1 (aa Ku (aa MU (aa KU (ae o0) av) (ae o1)) (aa BZ (aa o0 (ae Tb) av) (ae L6))) (aa OS (aa zS (aa K9 (ae o0) av) (ae LS)) (aa o1 (aa Lr (ae o0) av) (ae Pq)))) (aa o1 (aa Ky (aa o0 (aa o0 (ae PR) av) (ae o0)) (aa Cg (aa o0 (ae o1) av) (ae Pn))) (aa o0 (aa zW (aa Hk (ae VX) av) (ae o0)) (aa o0 (aa Lx (ae V7) av) (ae o7))))) (aa KI (aa dU (aa o7 (aa xy (aa G5 (ae SR) av) (ae LI)) (aa B7 (aa Lh (ae o0) av) (ae o0))) (aa KO (aa zU (aa Ep (ae P9) av) (ae Hu)) (aa Ct (aa o0 (ae o1) av) (ae o0)))) (aa GZ (aa MK (aa o1 (aa o1 (ae PY) av) (ae Pf)) (aa o0 (aa o1 (ae V3) av) (ae Mh))) (aa OV (aa BU (aa o0 (ae S7) av) (ae o1)) (aa G2 (ae o0) (ae Pz)))))) (aa VW (aa o9 (aa DZ (aa HH (aa MW (aa G3 (ae o0) av) (ae LG)) (aa B3 (aa o0 (ae o0) av) (ae L8))) (aa o0 (aa xA (aa o1 (ae SW) av) (ae Hs)) (aa Cr (aa Hm (ae V5) av) (ae o0)))) (aa GV (aa KA (aa BL (aa K6 (ae PV) av) (ae o0)) (aa Ck (aa O7 (ae Tj) av) (ae o1))) (aa o0 (aa o0 (aa o0 (ae o1) av) (ae Pj)) (aa o0 (aa o0 (ae o1) av) (ae SM))))) (aa dU (aa GQ (aa MG (aa o0 (aa G9 (ae o1) av) (ae LK)) (aa Cb (aa o0 (ae V1) av) (ae o0))) (aa OT (aa o1 (aa Hi (ae o0) av) (ae o0)) (aa Ee (aa o0 (ae o0) av) (ae SI)))) (aa o7 (aa QM (aa BM (aa o0 (ae o0) av) (ae o1)) (aa D9 (aa Lp (ae o1) av) (ae Px))) (aa o1 (aa D5 (aa Lc (ae S9) av) (ae L4)) (aa o7 (ae Pb) (ae PC))))))) (aa DN (aa ql (aa o0 (aa Fw (aa o0 (aa o0 (aa o0 (ae PH) av) (ae o0)) (aa B1 (aa Le (ae o1) av) (ae Pl))) (aa o1 (aa o1 (aa Em (ae P4) av) (ae o0)) (aa o0 (aa Ls (ae Ts) av) (ae o1)))) (aa o0 (aa MJ (aa zM (aa Hb (ae o0) av) (ae LM)) (aa Cj (aa Ll (ae o0) av) (ae Mf))) (aa MP (aa BP (aa o7 (ae S5) av) (ae LX)) (aa Eg (aa o1 (ae TB) av) (ae o0))))) (aa DW (aa GP (aa o0 (aa o1 (aa G7 (ae PN) av) (ae Pd)) (aa B9 (aa o1 (ae Tf) av) (ae Ma))) (aa KQ (aa xD (aa o0 (ae SX) av) (ae o1)) (aa Ed (aa Ho (ae Tv) av) (ae Mr)))) (aa HE (aa dU (aa o0 (aa He (ae o1) av) (ae LQ)) (aa Cp (aa o0 (ae Tp) av) (ae Mj))) (aa MT (aa BW (aa O3 (ae o0) av) (ae o0)) (aa Ek (ae LB) (ae SO)))))) (aa o3 (aa o0 (aa Fx (aa Kx (aa OY (aa KY (ae PK) av) (ae o0)) (aa B5 (aa O5 (ae Td) av) (ae o1))) (aa KL (aa o0 (aa o0 (ae P8) av) (ae LU)) (aa o0 (aa o1 (ae Tu) av) (ae Mp)))) (aa GX (aa KG (aa zO (aa Hd (ae SU) av) (ae LO)) (aa Cn (aa Ln (ae o0) av) (ae o0))) (aa MR (aa BR (aa O1 (ae o0) av) (ae LZ)) (aa Ei (aa Lz (ae TC) av) (ae o0))))) (aa Fu (aa GS (aa o0 (aa zK (aa KZ (ae o0) av) (ae o1)) (aa Cd (aa Lj (ae Th) av) (ae Md))) (aa o1 (aa o0 (aa La (ae S1) av) (ae LV)) (aa o1 (aa O9 (ae Tx) av) (ae Pw)))) (aa o0 (aa OQ (aa zQ (aa Hg (ae P1) av) (ae o0)) (aa Eb (aa o0 (ae Tq) av) (ae Mn))) (aa o0 (aa BX (aa o1 (ae VZ) av) (ae o0)) (aa o0 (ae LD) (ae o1)))))))))
noncomputable def HF(p:Program)(P:Params):Heap:=⟨Array.mk [boot_o_0 P,boot_o_1 P,boot_o_2 P,S0 p P,boot_o_4 P,boot_o_5 P,boot_o_6 P,boot_o_7 P,boot_o_8 P,boot_o_9 P,boot_o_10 P,o0 p P,VW p P,o2 p P,o3 p P,o6 p P,o7 p P,o8 p P,o0 p P,o1 p P,o9 p P,DU p P,o0 p P,Cy p P,KI p P,Cz p P,DW p P,DY p P,dU p P,o7 p P,Fu p P,o0 p P,o1 p P,Fv p P,Fw p P,o0 p P,DZ p P,D1 p P,Fx p P,Fy p P,dU p P,o7 p P,GP p P,o0 p P,GQ p P,GR p P,GS p P,o0 p P,o1 p P,GU p P,o0 p P,HC p P,GV p P,GW p P,GX p P,GY p P,GZ p P,HD p P,HE p P,dU p P,o7 p P,MD p P,o0 p P,o1 p P,Ku p P,Kv p P,o0 p P,HG p P,HH p P,Kw p P,Kx p P,dU p P,o7 p P,ME p P,o0 p P,MF p P,MG p P,MI p P,o0 p P,o1 p P,Ky p P,o0 p P,MJ p P,Kz p P,KA p P,KC p P,KG p P,KH p P,MK p P,ML p P,dU p P,o7 p P,QM p P,o0 p P,OQ p P,OR p P,OS p P,o0 p P,o1 p P,KJ p P,o0 p P,MM p P,KL p P,KN p P,KO p P,KP p P,KQ p P,MN p P,OT p P,o0 p P,o1 p P,MO p P,o0 p P,OU p P,MP p P,MQ p P,o0 p P,o1 p P,MR p P,o0 p P,OV p P,MS p P,MT p P,o0 p P,o1 p P,OW p P,o0 p P,OX p P,MU p P,MV p P,o0 p P,o1 p P,MW p P,o0 p P,OY p P,MX p P,xy p P,o0 p P,o1 p P,zJ p P,o0 p P,BK p P,zK p P,zL p P,o0 p P,o1 p P,zM p P,o0 p P,BL p P,zN p P,zO p P,o0 p P,o1 p P,zP p P,o0 p P,D3 p P,BM p P,BN p P,zQ p P,zR p P,zS p P,o0 p P,o1 p P,zT p P,xA p P,xB p P,o0 p P,o1 p P,zU p P,xC p P,xD p P,o0 p P,o1 p P,zV p P,o0 p P,BO p P,zW p P,zX p P,BP p P,o0 p P,o0 p P,BQ p P,BR p P,BS p P,BU p P,BV p P,BW p P,D4 p P,D5 p P,D6 p P,BX p P,BY p P,BZ p P,B0 p P,B1 p P,B2 p P,B3 p P,B4 p P,B5 p P,B6 p P,B7 p P,B8 p P,B9 p P,Ca p P,Cb p P,Cc p P,Cd p P,Cf p P,Cg p P,Ci p P,Cj p P,o0 p P,Ck p P,Cm p P,Cn p P,Co p P,o0 p P,D7 p P,Cp p P,D8 p P,D9 p P,Ea p P,Eb p P,o0 p P,o1 p P,Cq p P,o0 p P,Ec p P,Cr p P,Cs p P,o0 p P,o1 p P,Ct p P,o0 p P,Ed p P,Cu p P,Ee p P,o0 p P,o1 p P,Ef p P,o0 p P,G0 p P,Eg p P,Eh p P,o0 p P,o1 p P,Ei p P,o0 p P,G2 p P,Ej p P,Ek p P,o0 p P,o7 p P,KR p P,o0 p P,KS p P,KU p P,KW p P,o0 p P,o1 p P,G3 p P,o0 p P,KY p P,G4 p P,G5 p P,G6 p P,G7 p P,G8 p P,G9 p P,Ha p P,KZ p P,K5 p P,o0 p P,o1 p P,Hb p P,o0 p P,K6 p P,Hc p P,Hd p P,o0 p P,o1 p P,K7 p P,He p P,Hf p P,o0 p P,o1 p P,Hg p P,o0 p P,K9 p P,El p P,Em p P,o0 p P,o1 p P,Eo p P,o0 p P,Hh p P,Ep p P,Er p P,o0 p P,o1 p P,Hi p P,o0 p P,La p P,Hj p P,Hk p P,o0 p P,o7 p P,OZ p P,o0 p P,O0 p P,O1 p P,O2 p P,o0 p P,o1 p P,O3 p P,Lb p P,Lc p P,o0 p P,o1 p P,Ld p P,o0 p P,O4 p P,Le p P,Lf p P,o0 p P,o1 p P,O5 p P,Lg p P,Lh p P,o0 p P,o1 p P,Li p P,o0 p P,O6 p P,Lj p P,Lk p P,o0 p P,o1 p P,Ll p P,o0 p P,O7 p P,Lm p P,Ln p P,o0 p P,o1 p P,Lo p P,o0 p P,O8 p P,Lp p P,Lq p P,o0 p P,o1 p P,Lr p P,o0 p P,Ls p P,Hl p P,Hm p P,o0 p P,o1 p P,Hn p P,o0 p P,Lu p P,Ho p P,Hq p P,o0 p P,o1 p P,O9 p P,Lw p P,Lx p P,o0 p P,o1 p P,Ly p P,o0 p P,Pa p P,Lz p P,LA p P,o0 p P,o1 p P,LB p P,o0 p P,Pb p P,LC p P,LD p P,o0 p P,o1 p P,LF p P,o0 p P,Pc p P,LG p P,LH p P,o0 p P,o1 p P,LI p P,o0 p P,Pd p P,LJ p P,LK p P,o0 p P,o1 p P,LL p P,o0 p P,Pe p P,LM p P,LN p P,o0 p P,o1 p P,LO p P,o0 p P,Pf p P,LP p P,LQ p P,o0 p P,o1 p P,LR p P,o0 p P,Pg p P,LS p P,Hr p P,o0 p P,o1 p P,Hs p P,o0 p P,LU p P,Ht p P,Hu p P,o0 p P,o1 p P,Hv p P,o0 p P,Ph p P,LV p P,LW p P,o0 p P,o1 p P,LX p P,o0 p P,Pj p P,LY p P,LZ p P,o0 p P,o1 p P,L3 p P,o0 p P,Pk p P,L4 p P,L5 p P,o0 p P,o1 p P,L6 p P,o0 p P,Pl p P,L7 p P,L8 p P,o0 p P,o1 p P,L9 p P,o0 p P,Pm p P,Ma p P,Mb p P,o0 p P,o1 p P,Md p P,o0 p P,Pn p P,Me p P,Mf p P,o0 p P,o1 p P,Mg p P,o0 p P,Po p P,Mh p P,Mi p P,Mj p P,Ml p P,Px p P,Mm p P,Mn p P,Pp p P,Pq p P,o0 p P,o1 p P,Mo p P,o0 p P,Pr p P,Mp p P,Mq p P,o0 p P,o1 p P,Mr p P,o0 p P,SI p P,Pu p P,Pw p P,Py p P,o7 p P,SJ p P,o0 p P,SK p P,SM p P,SN p P,o0 p P,o1 p P,Pz p P,o0 p P,SO p P,PB p P,PC p P,o0 p P,o1 p P,PD p P,o0 p P,SQ p P,PH p P,PJ p P,o0 p P,o1 p P,PK p P,o0 p P,SR p P,PL p P,PN p P,o0 p P,o1 p P,PQ p P,o0 p P,SS p P,PR p P,PU p P,o0 p P,o1 p P,PV p P,o0 p P,SU p P,PX p P,PY p P,o0 p P,o1 p P,PZ p P,o0 p P,SV p P,P1 p P,P2 p P,o0 p P,o1 p P,P4 p P,o0 p P,SW p P,P7 p P,P8 p P,o0 p P,P9 p P,Qa p P,SX p P,SY p P,o0 p P,o1 p P,S1 p P,o0 p P,VX p P,S4 p P,S5 p P,o0 p P,o1 p P,S6 p P,o0 p P,VY p P,S7 p P,S8 p P,o0 p P,o1 p P,S9 p P,o0 p P,VZ p P,Ta p P,Tb p P,o0 p P,o1 p P,Tc p P,o0 p P,V0 p P,Td p P,Te p P,o0 p P,o1 p P,Tf p P,o0 p P,V1 p P,Tg p P,Th p P,o0 p P,o1 p P,Ti p P,o0 p P,V2 p P,Tj p P,Tn p P,o0 p P,o1 p P,V3 p P,To p P,Tp p P,o0 p P,o1 p P,V4 p P,Tq p P,Tr p P,o0 p P,o1 p P,Ts p P,o0 p P,V5 p P,Tt p P,Tu p P,o0 p P,o1 p P,V6 p P,Tv p P,Tw p P,o0 p P,o1 p P,Tx p P,o0 p P,V7 p P,Tz p P,TB p P,o0 p P,o1 p P,V8 p P,TC p P,TH p P],{}⟩
noncomputable def K(P:Params):PySem.W.Frag:=(nat_lit 2,boot_o_2 P)::(nat_lit 3,S0 pw P)::(nat_lit 15,o6 pw P)::(nat_lit 22,o0 pw P)::(nat_lit 23,Cy pw P)::(nat_lit 24,KI pw P)::(nat_lit 25,Cz pw P)::(nat_lit 28,dU pw P)::(nat_lit 35,o0 pw P)::(nat_lit 36,DZ pw P)::(nat_lit 37,D1 pw P)::(nat_lit 40,dU pw P)::(nat_lit 47,o0 pw P)::(nat_lit 49,GU pw P)::(nat_lit 50,o0 pw P)::(nat_lit 52,GV pw P)::(nat_lit 53,GW pw P)::(nat_lit 54,GX pw P)::(nat_lit 55,GY pw P)::(nat_lit 56,GZ pw P)::(nat_lit 59,dU pw P)::(nat_lit 66,o0 pw P)::(nat_lit 67,HG pw P)::(nat_lit 68,HH pw P)::(nat_lit 71,dU pw P)::(nat_lit 78,o0 pw P)::(nat_lit 80,Ky pw P)::(nat_lit 81,o0 pw P)::(nat_lit 83,Kz pw P)::(nat_lit 84,KA pw P)::(nat_lit 85,KC pw P)::(nat_lit 86,KG pw P)::(nat_lit 87,KH pw P)::(nat_lit 90,dU pw P)::(nat_lit 97,o0 pw P)::(nat_lit 99,KJ pw P)::(nat_lit 100,o0 pw P)::(nat_lit 102,KL pw P)::(nat_lit 103,KN pw P)::(nat_lit 104,KO pw P)::(nat_lit 105,KP pw P)::(nat_lit 106,KQ pw P)::(nat_lit 109,o0 pw P)::(nat_lit 111,MO pw P)::(nat_lit 112,o0 pw P)::(nat_lit 114,MP pw P)::(nat_lit 115,MQ pw P)::(nat_lit 116,o0 pw P)::(nat_lit 118,MR pw P)::(nat_lit 119,o0 pw P)::(nat_lit 121,MS pw P)::(nat_lit 122,MT pw P)::(nat_lit 123,o0 pw P)::(nat_lit 125,OW pw P)::(nat_lit 126,o0 pw P)::(nat_lit 128,MU pw P)::(nat_lit 129,MV pw P)::(nat_lit 130,o0 pw P)::(nat_lit 132,MW pw P)::(nat_lit 133,o0 pw P)::(nat_lit 135,MX pw P)::(nat_lit 136,xy pw P)::(nat_lit 137,o0 pw P)::(nat_lit 139,zJ pw P)::(nat_lit 140,o0 pw P)::(nat_lit 142,zK pw P)::(nat_lit 143,zL pw P)::(nat_lit 144,o0 pw P)::(nat_lit 146,zM pw P)::(nat_lit 147,o0 pw P)::(nat_lit 149,zN pw P)::(nat_lit 150,zO pw P)::(nat_lit 151,o0 pw P)::(nat_lit 153,zP pw P)::(nat_lit 154,o0 pw P)::(nat_lit 156,BM pw P)::(nat_lit 157,BN pw P)::(nat_lit 158,zQ pw P)::(nat_lit 159,zR pw P)::(nat_lit 160,zS pw P)::(nat_lit 161,o0 pw P)::(nat_lit 164,xA pw P)::(nat_lit 165,xB pw P)::(nat_lit 166,o0 pw P)::(nat_lit 169,xC pw P)::(nat_lit 170,xD pw P)::(nat_lit 171,o0 pw P)::(nat_lit 173,zV pw P)::(nat_lit 174,o0 pw P)::(nat_lit 176,zW pw P)::(nat_lit 177,zX pw P)::(nat_lit 178,BP pw P)::(nat_lit 179,o0 pw P)::(nat_lit 180,o0 pw P)::(nat_lit 181,BQ pw P)::(nat_lit 182,BR pw P)::(nat_lit 183,BS pw P)::(nat_lit 184,BU pw P)::(nat_lit 185,BV pw P)::(nat_lit 186,BW pw P)::(nat_lit 187,D4 pw P)::(nat_lit 188,D5 pw P)::(nat_lit 189,D6 pw P)::(nat_lit 190,BX pw P)::(nat_lit 191,BY pw P)::(nat_lit 192,BZ pw P)::(nat_lit 193,B0 pw P)::(nat_lit 194,B1 pw P)::(nat_lit 195,B2 pw P)::(nat_lit 196,B3 pw P)::(nat_lit 197,B4 pw P)::(nat_lit 198,B5 pw P)::(nat_lit 199,B6 pw P)::(nat_lit 200,B7 pw P)::(nat_lit 201,B8 pw P)::(nat_lit 202,B9 pw P)::(nat_lit 203,Ca pw P)::(nat_lit 204,Cb pw P)::(nat_lit 205,Cc pw P)::(nat_lit 206,Cd pw P)::(nat_lit 207,Cf pw P)::(nat_lit 208,Cg pw P)::(nat_lit 209,Ci pw P)::(nat_lit 210,Cj pw P)::(nat_lit 211,o0 pw P)::(nat_lit 212,Ck pw P)::(nat_lit 213,Cm pw P)::(nat_lit 214,Cn pw P)::(nat_lit 215,Co pw P)::(nat_lit 216,o0 pw P)::(nat_lit 218,Cp pw P)::(nat_lit 219,D8 pw P)::(nat_lit 220,D9 pw P)::(nat_lit 221,Ea pw P)::(nat_lit 222,Eb pw P)::(nat_lit 223,o0 pw P)::(nat_lit 225,Cq pw P)::(nat_lit 226,o0 pw P)::(nat_lit 228,Cr pw P)::(nat_lit 229,Cs pw P)::(nat_lit 230,o0 pw P)::(nat_lit 232,Ct pw P)::(nat_lit 233,o0 pw P)::(nat_lit 235,Cu pw P)::(nat_lit 236,Ee pw P)::(nat_lit 237,o0 pw P)::(nat_lit 239,Ef pw P)::(nat_lit 240,o0 pw P)::(nat_lit 242,Eg pw P)::(nat_lit 243,Eh pw P)::(nat_lit 244,o0 pw P)::(nat_lit 246,Ei pw P)::(nat_lit 247,o0 pw P)::(nat_lit 249,Ej pw P)::(nat_lit 250,Ek pw P)::(nat_lit 258,o0 pw P)::(nat_lit 260,G3 pw P)::(nat_lit 261,o0 pw P)::(nat_lit 263,G4 pw P)::(nat_lit 264,G5 pw P)::(nat_lit 265,G6 pw P)::(nat_lit 266,G7 pw P)::(nat_lit 267,G8 pw P)::(nat_lit 268,G9 pw P)::(nat_lit 269,Ha pw P)::(nat_lit 272,o0 pw P)::(nat_lit 274,Hb pw P)::(nat_lit 275,o0 pw P)::(nat_lit 277,Hc pw P)::(nat_lit 278,Hd pw P)::(nat_lit 279,o0 pw P)::(nat_lit 282,He pw P)::(nat_lit 283,Hf pw P)::(nat_lit 284,o0 pw P)::(nat_lit 286,Hg pw P)::(nat_lit 287,o0 pw P)::(nat_lit 289,El pw P)::(nat_lit 290,Em pw P)::(nat_lit 291,o0 pw P)::(nat_lit 293,Eo pw P)::(nat_lit 294,o0 pw P)::(nat_lit 296,Ep pw P)::(nat_lit 297,Er pw P)::(nat_lit 298,o0 pw P)::(nat_lit 300,Hi pw P)::(nat_lit 301,o0 pw P)::(nat_lit 303,Hj pw P)::(nat_lit 304,Hk pw P)::(nat_lit 312,o0 pw P)::(nat_lit 315,Lb pw P)::(nat_lit 316,Lc pw P)::(nat_lit 317,o0 pw P)::(nat_lit 319,Ld pw P)::(nat_lit 320,o0 pw P)::(nat_lit 322,Le pw P)::(nat_lit 323,Lf pw P)::(nat_lit 324,o0 pw P)::(nat_lit 327,Lg pw P)::(nat_lit 328,Lh pw P)::(nat_lit 329,o0 pw P)::(nat_lit 331,Li pw P)::(nat_lit 332,o0 pw P)::(nat_lit 334,Lj pw P)::(nat_lit 335,Lk pw P)::(nat_lit 336,o0 pw P)::(nat_lit 338,Ll pw P)::(nat_lit 339,o0 pw P)::(nat_lit 341,Lm pw P)::(nat_lit 342,Ln pw P)::(nat_lit 343,o0 pw P)::(nat_lit 345,Lo pw P)::(nat_lit 346,o0 pw P)::(nat_lit 348,Lp pw P)::(nat_lit 349,Lq pw P)::(nat_lit 350,o0 pw P)::(nat_lit 352,Lr pw P)::(nat_lit 353,o0 pw P)::(nat_lit 355,Hl pw P)::(nat_lit 356,Hm pw P)::(nat_lit 357,o0 pw P)::(nat_lit 359,Hn pw P)::(nat_lit 360,o0 pw P)::(nat_lit 362,Ho pw P)::(nat_lit 363,Hq pw P)::(nat_lit 364,o0 pw P)::(nat_lit 367,Lw pw P)::(nat_lit 368,Lx pw P)::(nat_lit 369,o0 pw P)::(nat_lit 371,Ly pw P)::(nat_lit 372,o0 pw P)::(nat_lit 374,Lz pw P)::(nat_lit 375,LA pw P)::(nat_lit 376,o0 pw P)::(nat_lit 378,LB pw P)::(nat_lit 379,o0 pw P)::(nat_lit 381,LC pw P)::(nat_lit 382,LD pw P)::(nat_lit 383,o0 pw P)::(nat_lit 385,LF pw P)::(nat_lit 386,o0 pw P)::(nat_lit 388,LG pw P)::(nat_lit 389,LH pw P)::(nat_lit 390,o0 pw P)::(nat_lit 392,LI pw P)::(nat_lit 393,o0 pw P)::(nat_lit 395,LJ pw P)::(nat_lit 396,LK pw P)::(nat_lit 397,o0 pw P)::(nat_lit 399,LL pw P)::(nat_lit 400,o0 pw P)::(nat_lit 402,LM pw P)::(nat_lit 403,LN pw P)::(nat_lit 404,o0 pw P)::(nat_lit 406,LO pw P)::(nat_lit 407,o0 pw P)::(nat_lit 409,LP pw P)::(nat_lit 410,LQ pw P)::(nat_lit 411,o0 pw P)::(nat_lit 413,LR pw P)::(nat_lit 414,o0 pw P)::(nat_lit 416,LS pw P)::(nat_lit 417,Hr pw P)::(nat_lit 418,o0 pw P)::(nat_lit 420,Hs pw P)::(nat_lit 421,o0 pw P)::(nat_lit 423,Ht pw P)::(nat_lit 424,Hu pw P)::(nat_lit 425,o0 pw P)::(nat_lit 427,Hv pw P)::(nat_lit 428,o0 pw P)::(nat_lit 430,LV pw P)::(nat_lit 431,LW pw P)::(nat_lit 432,o0 pw P)::(nat_lit 434,LX pw P)::(nat_lit 435,o0 pw P)::(nat_lit 437,LY pw P)::(nat_lit 438,LZ pw P)::(nat_lit 439,o0 pw P)::(nat_lit 441,L3 pw P)::(nat_lit 442,o0 pw P)::(nat_lit 444,L4 pw P)::(nat_lit 445,L5 pw P)::(nat_lit 446,o0 pw P)::(nat_lit 448,L6 pw P)::(nat_lit 449,o0 pw P)::(nat_lit 451,L7 pw P)::(nat_lit 452,L8 pw P)::(nat_lit 453,o0 pw P)::(nat_lit 455,L9 pw P)::(nat_lit 456,o0 pw P)::(nat_lit 458,Ma pw P)::(nat_lit 459,Mb pw P)::(nat_lit 460,o0 pw P)::(nat_lit 462,Md pw P)::(nat_lit 463,o0 pw P)::(nat_lit 465,Me pw P)::(nat_lit 466,Mf pw P)::(nat_lit 467,o0 pw P)::(nat_lit 469,Mg pw P)::(nat_lit 470,o0 pw P)::(nat_lit 472,Mh pw P)::(nat_lit 473,Mi pw P)::(nat_lit 474,Mj pw P)::(nat_lit 475,Ml pw P)::(nat_lit 476,Px pw P)::(nat_lit 477,Mm pw P)::(nat_lit 478,Mn pw P)::(nat_lit 481,o0 pw P)::(nat_lit 483,Mo pw P)::(nat_lit 484,o0 pw P)::(nat_lit 486,Mp pw P)::(nat_lit 487,Mq pw P)::(nat_lit 488,o0 pw P)::(nat_lit 490,Mr pw P)::(nat_lit 491,o0 pw P)::(nat_lit 493,Pu pw P)::(nat_lit 494,Pw pw P)::(nat_lit 495,Py pw P)::(nat_lit 502,o0 pw P)::(nat_lit 504,Pz pw P)::(nat_lit 505,o0 pw P)::(nat_lit 507,PB pw P)::(nat_lit 508,PC pw P)::(nat_lit 509,o0 pw P)::(nat_lit 511,PD pw P)::(nat_lit 512,o0 pw P)::(nat_lit 514,PH pw P)::(nat_lit 515,PJ pw P)::(nat_lit 516,o0 pw P)::(nat_lit 518,PK pw P)::(nat_lit 519,o0 pw P)::(nat_lit 521,PL pw P)::(nat_lit 522,PN pw P)::(nat_lit 523,o0 pw P)::(nat_lit 525,PQ pw P)::(nat_lit 526,o0 pw P)::(nat_lit 528,PR pw P)::(nat_lit 529,PU pw P)::(nat_lit 530,o0 pw P)::(nat_lit 532,PV pw P)::(nat_lit 533,o0 pw P)::(nat_lit 535,PX pw P)::(nat_lit 536,PY pw P)::(nat_lit 537,o0 pw P)::(nat_lit 539,PZ pw P)::(nat_lit 540,o0 pw P)::(nat_lit 542,P1 pw P)::(nat_lit 543,P2 pw P)::(nat_lit 544,o0 pw P)::(nat_lit 546,P4 pw P)::(nat_lit 547,o0 pw P)::(nat_lit 549,P7 pw P)::(nat_lit 550,P8 pw P)::(nat_lit 551,o0 pw P)::(nat_lit 552,P9 pw P)::(nat_lit 553,Qa pw P)::(nat_lit 556,o0 pw P)::(nat_lit 558,S1 pw P)::(nat_lit 559,o0 pw P)::(nat_lit 561,S4 pw P)::(nat_lit 562,S5 pw P)::(nat_lit 563,o0 pw P)::(nat_lit 565,S6 pw P)::(nat_lit 566,o0 pw P)::(nat_lit 568,S7 pw P)::(nat_lit 569,S8 pw P)::(nat_lit 570,o0 pw P)::(nat_lit 572,S9 pw P)::(nat_lit 573,o0 pw P)::(nat_lit 575,Ta pw P)::(nat_lit 576,Tb pw P)::(nat_lit 577,o0 pw P)::(nat_lit 579,Tc pw P)::(nat_lit 580,o0 pw P)::(nat_lit 582,Td pw P)::(nat_lit 583,Te pw P)::(nat_lit 584,o0 pw P)::(nat_lit 586,Tf pw P)::(nat_lit 587,o0 pw P)::(nat_lit 589,Tg pw P)::(nat_lit 590,Th pw P)::(nat_lit 591,o0 pw P)::(nat_lit 593,Ti pw P)::(nat_lit 594,o0 pw P)::(nat_lit 596,Tj pw P)::(nat_lit 597,Tn pw P)::(nat_lit 598,o0 pw P)::(nat_lit 601,To pw P)::(nat_lit 602,Tp pw P)::(nat_lit 603,o0 pw P)::(nat_lit 606,Tq pw P)::(nat_lit 607,Tr pw P)::(nat_lit 608,o0 pw P)::(nat_lit 610,Ts pw P)::(nat_lit 611,o0 pw P)::(nat_lit 613,Tt pw P)::(nat_lit 614,Tu pw P)::(nat_lit 615,o0 pw P)::(nat_lit 618,Tv pw P)::(nat_lit 619,Tw pw P)::(nat_lit 620,o0 pw P)::(nat_lit 622,Tx pw P)::(nat_lit 623,o0 pw P)::(nat_lit 625,Tz pw P)::(nat_lit 626,TB pw P)::(nat_lit 627,o0 pw P)::(nat_lit 630,TC pw P)::(nat_lit 631,TH pw P)::[]
abbrev QN:List Addr:=[2,3,15,22,23,24,25,28,35,36,37,40,47,49,50,52,53,54,55,56,59,66,67,68,71,78,80,81,83,84,85,86,87,90,97,99,100,102,103,104,105,106,109,111,112,114,115,116,118,119,121,122,123,125,126,128,129,130,132,133,135,136,137,139,140,142,143,144,146,147,149,150,151,153,154,156,157,158,159,160,161,164,165,166,169,170,171,173,174,176,177,178,179,180,181,182,183,184,185,186,187,188,189,190,191,192,193,194,195,196,197,198,199,200,201,202,203,204,205,206,207,208,209,210,211,212,213,214,215,216,218,219,220,221,222,223,225,226,228,229,230,232,233,235,236,237,239,240,242,243,244,246,247,249,250,258,260,261,263,264,265,266,267,268,269,272,274,275,277,278,279,282,283,284,286,287,289,290,291,293,294,296,297,298,300,301,303,304,312,315,316,317,319,320,322,323,324,327,328,329,331,332,334,335,336,338,339,341,342,343,345,346,348,349,350,352,353,355,356,357,359,360,362,363,364,367,368,369,371,372,374,375,376,378,379,381,382,383,385,386,388,389,390,392,393,395,396,397,399,400,402,403,404,406,407,409,410,411,413,414,416,417,418,420,421,423,424,425,427,428,430,431,432,434,435,437,438,439,441,442,444,445,446,448,449,451,452,453,455,456,458,459,460,462,463,465,466,467,469,470,472,473,474,475,476,477,478,481,483,484,486,487,488,490,491,493,494,495,502,504,505,507,508,509,511,512,514,515,516,518,519,521,522,523,525,526,528,529,530,532,533,535,536,537,539,540,542,543,544,546,547,549,550,551,552,553,556,558,559,561,562,563,565,566,568,569,570,572,573,575,576,577,579,580,582,583,584,586,587,589,590,591,593,594,596,597,598,601,602,603,606,607,608,610,611,613,614,615,618,619,620,622,623,625,626,627,630,631]
theorem sO:∀P,QN=(K P).map (·.1):=λ_=>by kernel_rfl
abbrev hK:Hook:=kHook K QN sO
theorem aaJ(w:World):(λos=>topGo treeTable pw w 11 (some (.ref 6)) 12 ⟨boot_heap w.params,Array.mk [],boot_drawn,boot_toks,os⟩ (topStub pw))=λos=>some (SH (H0 pw w.params) 187 os,(⟨denote treeTable (bt pw),bt pw,⟨0,0,0,0⟩,BF⟩:Thread)):=by
 walk_at "qk"
theorem TJ(w:World):(λos=>segRun treeTable pw w 11 (some (.ref 6)) 1 1 (SH (H0 pw w.params) 187 os) (blockOf (behindTheImports pw) (jz pw) (bt pw) ⟨0,0,0,0⟩ BF))=λos=>some (.next,(ST (T0 pw w.params) 15 187 os).abs,bt pw,⟨0,0,0,0⟩):=by
 walk_at "qk"
theorem aaK(w:World):(λos=>segRunT treeTable pw w 11 (some (.ref 6)) 1 196 (ST (T0 pw w.params) 15 187 os) (piecesOf (bT pw 0 2) (jz pw) (bt pw) ⟨0,0,0,0⟩ BF))=λos=>some (.next,ST (T1 pw w.params) 28 207 os,bt pw,⟨2,0,3,8⟩):=by
 walk_at "qk"
theorem aaL(w:World):(λos=>segRunT treeTable pw w 11 (some (.ref 6)) 1 214 (ST (T1 pw w.params) 28 207 os) (piecesOf (bT pw 2 1) (jz pw) (bt pw) ⟨2,0,3,8⟩ BF))=λos=>some (.next,ST (T2 pw w.params) 40 223 os,bt pw,⟨4,0,5,8⟩):=by
 walk_at "qk"
theorem aaM(w:World):(λos=>segRunT treeTable pw w 11 (some (.ref 6)) 1 248 (ST (T2 pw w.params) 40 223 os) (piecesOf (bT pw 3 1) (jz pw) (bt pw) ⟨4,0,5,8⟩ BF))=λos=>some (.next,ST (T3 pw w.params) 59 250 os,bt pw,⟨6,0,10,20⟩):=by
 walk_at "qk"
theorem aaN(w:World):(λos=>segRunT treeTable pw w 11 (some (.ref 6)) 1 214 (ST (T3 pw w.params) 59 250 os) (piecesOf (bT pw 4 1) (jz pw) (bt pw) ⟨6,0,10,20⟩ BF))=λos=>some (.next,ST (T4 pw w.params) 71 266 os,bt pw,⟨11,0,12,8⟩):=by
 walk_at "qk"
theorem aaO(w:World):(λos=>segRunT treeTable pw w 11 (some (.ref 6)) 1 250 (ST (T4 pw w.params) 71 266 os) (piecesOf (bT pw 5 1) (jz pw) (bt pw) ⟨11,0,12,8⟩ BF))=λos=>some (.next,ST (T5 pw w.params) 90 295 os,bt pw,⟨13,0,18,24⟩):=by
 walk_at "qk"
theorem aaP(w:World):(λos=>segRunT treeTable pw w 11 (some (.ref 6)) 1 397 (ST (T5 pw w.params) 90 295 os) (piecesOf (bT pw 6 8) (jz pw) (bt pw) ⟨13,0,18,24⟩ BF))=λos=>some (.next,ST (T6 pw w.params) 137 362 os,bt pw,⟨40,0,40,4⟩):=by
 walk_at "qk"
theorem aaQ(w:World):(λos=>segRunT treeTable pw w 11 (some (.ref 6)) 1 257 (ST (T6 pw w.params) 137 362 os) (piecesOf (bT pw 14 13) (jz pw) (bt pw) ⟨40,0,40,4⟩ BF))=λos=>some (.next,ST (T7 pw w.params) 178 435 os,bt pw,⟨79,0,79,8⟩):=by
 walk_at "qk"
theorem aaR(w:World):(λos=>segRunT treeTable pw w 11 (some (.ref 6)) 1 404 (ST (T7 pw w.params) 178 435 os) (piecesOf (bT pw 27 1) (jz pw) (bt pw) ⟨79,0,79,8⟩ BF))=λos=>some (.next,ST (T8 pw w.params) 222 498 os,bt pw,⟨80,0,80,6⟩):=by
 refine byRow2 "special-get-raises" (P:=λw=>(λos=>segRunT treeTable pw w 11 (some (.ref 6)) 1 404 (ST (T7 pw w.params) 178 435 os) (piecesOf (bT pw 27 1) (jz pw) (bt pw) ⟨79,0,79,8⟩ BF))=λos=>some (.next,ST (T8 pw w.params) 222 498 os,bt pw,⟨80,0,80,6⟩)) (λw=>?_) (λw=>?_) w<;>(show _=_;walk_at "qk")
theorem aaS(w:World):(λos=>segRunT treeTable pw w 11 (some (.ref 6)) 1 305 (ST (T8 pw w.params) 222 498 os) (piecesOf (bT pw 28 7) (jz pw) (bt pw) ⟨80,0,80,6⟩ BF))=λos=>some (.next,ST (T9 pw w.params) 251 571 os,bt pw,⟨111,0,111,11⟩):=by
 refine byRow2 "special-get-raises" (P:=λw=>(λos=>segRunT treeTable pw w 11 (some (.ref 6)) 1 305 (ST (T8 pw w.params) 222 498 os) (piecesOf (bT pw 28 7) (jz pw) (bt pw) ⟨80,0,80,6⟩ BF))=λos=>some (.next,ST (T9 pw w.params) 251 571 os,bt pw,⟨111,0,111,11⟩)) (λw=>?_) (λw=>?_) w<;>(show _=_;walk_at "qk")
theorem Wt(w:World):(λos=>segRunT treeTable pw w 11 (some (.ref 6)) 1 394 (ST (T9 pw w.params) 251 571 os) (piecesOf (bT pw 35 8) (jz pw) (bt pw) ⟨111,0,111,11⟩ BF))=λos=>some (.next,ST (T10 pw w.params) 305 649 os,bt pw,⟨137,0,137,8⟩):=by
 walk_at "qk"
theorem Wu(w:World):(λos=>segRunT treeTable pw w 11 (some (.ref 6)) 1 19 (ST (T10 pw w.params) 305 649 os) (piecesOf (bT pw 43 2) (jz pw) (bt pw) ⟨137,0,137,8⟩ BF))=λos=>some (.next,ST (T11 pw w.params) 305 653 os,bt pw,⟨139,0,139,8⟩):=by
 walk_at "qk"
theorem Wv(w:World):(λos=>segRunT treeTable pw w 11 (some (.ref 6)) 1 975 (ST (T11 pw w.params) 305 653 os) (piecesOf (bT pw 45 1) (jz pw) (bt pw) ⟨139,0,139,8⟩ BF))=λos=>some (.next,ST (T12 pw w.params) 481 888 os,bt pw,⟨140,0,312,19⟩):=by
 walk_at "qk"
theorem Ww(w:World):(λos=>segRunT treeTable pw w 11 (some (.ref 6)) 1 82 (ST (T12 pw w.params) 481 888 os) (piecesOf (bT pw 46 4) (jz pw) (bt pw) ⟨140,0,312,19⟩ BF))=λos=>some (.next,ST (T13 pw w.params) 495 911 os,bt pw,⟨326,0,326,8⟩):=by
 walk_at "qk"
theorem Wx(w:World):(λos=>segRunT treeTable pw w 11 (some (.ref 6)) 1 444 (ST (T13 pw w.params) 495 911 os) (piecesOf (bT pw 50 1) (jz pw) (bt pw) ⟨326,0,326,8⟩ BF))=λos=>some (.next,ST (T14 pw w.params) 556 990 os,bt pw,⟨327,0,357,19⟩):=by
 walk_at "qk"
theorem Wy(w:World):(λos=>segRunT treeTable pw w 11 (some (.ref 6)) 1 379 (ST (T14 pw w.params) 556 990 os) (piecesOf (bT pw 51 14) (jz pw) (bt pw) ⟨327,0,357,19⟩ BF))=λos=>some (.next,ST (T15 pw w.params) 632 1098 os,bt pw,⟨442,0,456,137⟩):=by
 walk_at "qk"
theorem aaT(w:World):(λos=>topRun treeTable pw w 11 (some (.ref 6)) 2 (ST (T15 pw w.params) 632 1098 os).abs ⟨doneF .next,bt pw,⟨442,0,456,137⟩,BF⟩)=λos=>some (SH (HF pw w.params) 1098 os):=by
 walk_at "qk"
theorem Wz:behindTheImports pw=bT pw 0 2++(bT pw 2 1++(bT pw 3 1++(bT pw 4 1++(bT pw 5 1++(bT pw 6 8++(bT pw 14 13++(bT pw 27 1++(bT pw 28 7++(bT pw 35 8++(bT pw 43 2++(bT pw 45 1++(bT pw 46 4++(bT pw 50 1++(bT pw 51 14++([]))))))))))))))):=by
 kernel_rfl
theorem aaU(w:World)(os:OsState):topRun treeTable pw w 11 (some (.ref 6)) (12 + (1 + (196 + (214 + (248 + (214 + (250 + (397 + (257 + (404 + (305 + (394 + (19 + (975 + (82 + (444 + (379 + 2))))))))))))))))) ⟨boot_heap w.params,Array.mk [],boot_drawn,boot_toks,os⟩ (topStub pw)=some (SH (HF pw w.params) 1098 os):=by
 have k:topRun treeTable pw w 11 (some (.ref 6)) (196 + (214 + (248 + (214 + (250 + (397 + (257 + (404 + (305 + (394 + (19 + (975 + (82 + (444 + (379 + 2))))))))))))))) (ST (T0 pw w.params) 15 187 os).abs (restOf (bT pw 0 2++(bT pw 2 1++(bT pw 3 1++(bT pw 4 1++(bT pw 5 1++(bT pw 6 8++(bT pw 14 13++(bT pw 27 1++(bT pw 28 7++(bT pw 35 8++(bT pw 43 2++(bT pw 45 1++(bT pw 46 4++(bT pw 50 1++(bT pw 51 14++([])))))))))))))))) (jz pw) (bt pw) ⟨0,0,0,0⟩ BF)=some (SH (HF pw w.params) 1098 os):=piece_app (segRun_of (congrFun (aaK w) os)) (piece_app (segRun_of (congrFun (aaL w) os)) (piece_app (segRun_of (congrFun (aaM w) os)) (piece_app (segRun_of (congrFun (aaN w) os)) (piece_app (segRun_of (congrFun (aaO w) os)) (piece_app (segRun_of (congrFun (aaP w) os)) (piece_app (segRun_of (congrFun (aaQ w) os)) (piece_app (segRun_of (congrFun (aaR w) os)) (piece_app (segRun_of (congrFun (aaS w) os)) (piece_app (segRun_of (congrFun (Wt w) os)) (piece_app (segRun_of (congrFun (Wu w) os)) (piece_app (segRun_of (congrFun (Wv w) os)) (piece_app (segRun_of (congrFun (Ww w) os)) (piece_app (segRun_of (congrFun (Wx w) os)) (piece_app (segRun_of (congrFun (Wy w) os)) (congrFun (aaT w) os)))))))))))))))
 rw[← Wz]at k
 exact go_top (congrFun (aaJ w) os) (piece_block (congrFun (TJ w) os) k)
theorem l0(w:World):(λos=>staticsOk (importedModules pw.main.body) (boot_heap w.params) (HF pw w.params)&&namesBound pw (HF pw w.params)&&gensDone (SH (HF pw w.params) 1098 os)&&laidKept (boot_heap w.params) (HF pw w.params))=λ_=>true:=by
 walk_at "qk"
theorem l1(w:World):(λos=>PyProof.Rows.seen ((PyProof.Rows.recsOf (cb pw)).map (·.name)) (PyProof.Rows.ownsOf (cb pw)) [] {(SH (HF pw w.params) 1098 os)with gens:=#[]})=λ_=>PyProof.Rows.expectedOf (cb pw):=by
 walk_at "qk"
theorem l2(w:World):(λos=>(SH (HF pw w.params) 1098 os).heap.bltView)=λ_=>bltViewBooted:=by
 walk_at "qk"
theorem l3(w:World):(λos=>(SH (HF pw w.params) 1098 os).heap.keysOk (looseW (cb pw) ["ALWAYS","LEFT"]) ((PyProof.Rows.recsOf (cb pw)).map (·.name)) ((PyProof.Rows.litsOf (cb pw)).map (·.1)) ((PyProof.Rows.clssOf (cb pw) (looseW (cb pw) ["ALWAYS","LEFT"])).map (·.name))&&(SH (HF pw w.params) 1098 os).heap.accountedOkI (importedModules pw.main.body)&&(SH (HF pw w.params) 1098 os).heap.isNs mainGlobals&&(SH (HF pw w.params) 1098 os).heap.isNs builtinsNs&&PyProof.Rows.tablesOk (cb pw) (SH (HF pw w.params) 1098 os).heap&&(λs=>xlAt (cb pw) [] s&&recOk (RowW.records (OpenRow.toRowW PySem.Challenge.rw_stackwarden_k30_doors_of_books.row)) s) (SH (HF pw w.params) 1098 os)&&(if true then(SH (HF pw w.params) 1098 os).gens.size == 0 else !leftWithCleanup (SH (HF pw w.params) 1098 os).gens))=λ_=>true:=by
 walk_at "qk"
theorem l4(w:World):(λos=>PyProof.Rows.tabsOk (cb pw) (SH (HF pw w.params) 1098 os))=λ_=>true:=by
 walk_at "qk"
theorem l5(w:World):(λos=>pinSeenD (cb pw) (PyProof.Rows.drecsOf (cb pw)) (SH (HF pw w.params) 1098 os))=λ_=>pinGoodD (PyProof.Rows.drecsOf (cb pw)):=by
 walk_at "qk"
theorem l6(w:World):(λos=>PyProof.Rows.plainSeenE (cb pw) (looseW (cb pw) ["ALWAYS","LEFT"]) (SH (HF pw w.params) 1098 os))=λ_=>PyProof.Rows.plainGoodE (cb pw) (looseW (cb pw) ["ALWAYS","LEFT"]):=by
 walk_at "qk"
theorem l7(w:World):(λos=>PyProof.Rows.plainSeenD (cb pw) ["ALWAYS","LEFT"] (SH (HF pw w.params) 1098 os))=λ_=>PyProof.Rows.plainGoodD (cb pw) ["ALWAYS","LEFT"]:=by
 walk_at "qk"
theorem l8(w:World):(λos=>wideSeen (cb pw) (SH (HF pw w.params) 1098 os))=λ_=>wideGood (cb pw):=by
 walk_at "qk"
theorem l9(w:World):(λos=>clsSeenW (cb pw) ["ALWAYS","LEFT"] (SH (HF pw w.params) 1098 os))=λ_=>clsGoodW (cb pw) ["ALWAYS","LEFT"]:=by
 walk_at "qk"
theorem lY(w:World):(λos=>hK.obs (SH (HF pw w.params) 1098 os))=λ_=>hK.val w:=by
 show(λos=>QN.map (SH (HF pw w.params) 1098 os).heap.get?)=λ_=>(K w.params).map λp=>some p.2
 unfold K
 walk_at "qk"
theorem hl:LeftO pw (cb pw) ["ALWAYS","LEFT"] (λs=>xlAt (cb pw) [] s&&recOk (RowW.records (OpenRow.toRowW PySem.Challenge.rw_stackwarden_k30_doors_of_books.row)) s) hK.obs hK.val 9652:=by
 refine LeftO.of_pieces (m₀:=11) (ann:=(some (.ref 6))) (M:=(12 + (1 + (196 + (214 + (248 + (214 + (250 + (397 + (257 + (404 + (305 + (394 + (19 + (975 + (82 + (444 + (379 + 2)))))))))))))))))) (boot_open (by kernel_rfl) (by decide) (λs=>by kernel_rfl)) (λw=>?_) aaU (by decide) (λw=>?_)
 ·walk_at "qk"
 ·funext os
  exact looks_pair (congrFun (l0 w) os) (looks_pair (looks_pair (congrFun (l1 w) os) (looks_pair (congrFun (l2 w) os) (looks_pair (congrFun (l3 w) os) (looks_pair (congrFun (l4 w) os) (looks_pair (congrFun (l5 w) os) (looks_pair (congrFun (l6 w) os) (looks_pair (congrFun (l7 w) os) (looks_pair (congrFun (l8 w) os) (congrFun (l9 w) os))))))))) (congrFun (lY w) os))
end MH
end
open PySem PySem.W PyProof.Rows
local macro_rules | `(tactic| walk_at "dk") => `(tactic| (refine' ⟨_, _, ?w, L2.CV ?x ?y ?z⟩; (case w => k_is); (case x => k_is); (case y => k_is); (case z => k_is)))
local macro_rules | `(tactic| walk_at "mk") => `(tactic| (refine' ⟨⟨_, L2.CV ?x ?y ?z⟩, ?w⟩; (case x => k_is); (case y => k_is); (case z => k_is); (case w => k_is)))
set_option maxRecDepth 100000 in
set_option maxHeartbeats 0 in
theorem PySem.Challenge.cw_stackwarden_k30_doors_of_books_holds : PySem.Challenge.rw_stackwarden_k30_doors_of_books.Holds := by
  w_on; o_law
  refine PySem.W.holds_open (q := (MH.cb PySem.Challenge.pw_stackwarden_k30_doors_of_books)) (loose := ["ALWAYS", "LEFT"]) (Xt := (fun s => xlAt (MH.cb PySem.Challenge.pw_stackwarden_k30_doors_of_books) [] s && recOk (RowW.records (OpenRow.toRowW PySem.Challenge.rw_stackwarden_k30_doors_of_books.row)) s)) (XP := XL (MH.cb PySem.Challenge.pw_stackwarden_k30_doors_of_books) []) (Yf := Hook.obs (kHook MH.K MH.QN MH.sO)) (Ya := Hook.val (kHook MH.K MH.QN MH.sO)) (YP := Hook.says (kHook MH.K MH.QN MH.sO)) (N := 9652) MH.hl (Hook.of (kHook MH.K MH.QN MH.sO)) (Hook.keeps (kHook MH.K MH.QN MH.sO)) (fun s e => xl_of s (Bool.and_eq_true_iff.mp e).1) XL.keeps (by rfl) (by rfl) (by rfl) (fun s e => recFacts_of (Bool.and_eq_true_iff.mp e).2) (by rfl) (by first | assumption | decide +kernel) (by decide +kernel) ⟨rfl, rfl, rfl, rfl, rfl, by decide +kernel⟩ ?hw ?hc
  case hw => w_witness2
  k_fill
  refine Mine.walk (l := PySem.Challenge.rw_stackwarden_k30_doors_of_books) rfl rfl (fun w h Y => PySem.W.kIn_of Y) ?F
  case F =>
    intro w mg fa h KX G hmg
    refine' Mine.all_mk KX G hmg ?wz ?wA ?wB ?wC ?wD ?wF ?wG ?i7 ?mW ?iw ?iy ?eH ?wH ?wI ?wJ ?wK ?wL ?wM ?wN ?i8 ?i9 ?fc ?ja ?jb ?ko ?jc ?fe ?fP ?cQ ?iz ?iA ?iB ?fQ ?fR ?jd ?je ?fh ?dH ?eI ?fS ?p6 ?p7 ?p8 ?p9 ?qa ?qb ?qc ?fT ?fU ?dI ?fV ?fW ?iD ?fX ?dJ ?eJ ?cE ?fi ?fj ?fk ?eK ?eL ?fY ?fZ ?dM ?cR ?dq ?eM ?d0 ?d1 ?d2 ?d3 ?l4 ?l5 ?l6 ?d7 ?l8 ?l9 ?Y5 ?Y6 ?Y7 ?Y8 ?Y9 ?Za ?Zb ?Zc ?Zd ?Ze ?Zf ?Zg ?Zh ?Zi ?Zj ?Zk ?Zl ?Zm ?Zn ?Zo ?Zp ?Zq ?Zr ?Zs ?Zt ?Zu ?Zv ?Zw ?Zx ?Zy ?Zz ?ZA ?ZC ?ZD ?ZE ?ZF ?ZG ?ZH ?ZI ?ZJ ?ZK ?ZL ?lT ?qW ?fK ?fL ?jw ?lU ?qX ?lV ?qY ?bR ?fz ?bS ?Bq ?ic ?ie ?ig ?ij ?ik ?ip ?Kh ?Ki ?Kj ?Kk ?Kl ?jv ?kq ?kr ?ku ?ky ?kz ?kB ?kC ?kD ?kF ?kG ?kH ?mX ?mY ?mZ ?m4 ?m5 ?m6 ?m7 ?m9 ?nc ?ng ?nh ?nj ?nk ?nq ?nv ?ny ?nz ?nA ?nC ?nE ?nF ?nG ?nI ?nJ ?nK ?nM ?nO ?nP ?nQ ?nR ?nS ?qf ?qg ?qQ ?jy ?wg ?sE ?sF ?eF ?cS ?fJ ?dz ?eG ?Bp ?Bs ?bP ?bI ?cO ?v8 ?Bd ?cU ?gA ?Bm
    (case wz => k_is)
    (case wA => k_is)
    (case wB => k_is)
    (case wC => k_is)
    (case wD => k_is)
    (case wF => k_is)
    (case wG => k_is)
    (case i7 => k_is)
    (case mW => k_is)
    (case iw => k_is)
    (case iy => k_is)
    (case eH => k_is)
    (case wH => k_is)
    (case wI => k_is)
    (case wJ => k_is)
    (case wK => k_is)
    (case wL => k_is)
    (case wM => k_is)
    (case wN => k_is)
    (case i8 => k_is)
    (case i9 => k_is)
    (case fc => k_is)
    (case ja => k_is)
    (case jb => k_is)
    (case ko => k_is)
    (case jc => k_is)
    (case fe => k_is)
    (case fP => k_is)
    (case cQ => k_is)
    (case iz => k_is)
    (case iA => k_is)
    (case iB => k_is)
    (case fQ => k_is)
    (case fR => k_is)
    (case jd => k_is)
    (case je => k_is)
    (case fh => k_is)
    (case dH => k_is)
    (case eI => k_is)
    (case fS => k_is)
    (case p6 => k_is)
    (case p7 => k_is)
    (case p8 => k_is)
    (case p9 => k_is)
    (case qa => k_is)
    (case qb => k_is)
    (case qc => k_is)
    (case fT => k_is)
    (case fU => k_is)
    (case dI => k_is)
    (case fV => k_is)
    (case fW => k_is)
    (case iD => k_is)
    (case fX => k_is)
    (case dJ => k_is)
    (case eJ => k_is)
    (case cE => k_is)
    (case fi => k_is)
    (case fj => k_is)
    (case fk => k_is)
    (case eK => k_is)
    (case eL => k_is)
    (case fY => k_is)
    (case fZ => k_is)
    (case dM => k_is)
    (case cR => k_is)
    (case dq => k_is)
    (case eM => k_is)
    (case d0 => walk_at "dk")
    (case d1 => walk_at "dk")
    (case d2 => walk_at "dk")
    (case d3 => walk_at "dk")
    (case l4 => walk_at "mk")
    (case l5 => walk_at "mk")
    (case l6 => walk_at "mk")
    (case d7 => walk_at "dk")
    (case l8 => walk_at "mk")
    (case l9 => walk_at "mk")
    (case Y5 => walk_at "mk")
    (case Y6 => walk_at "dk")
    (case Y7 => walk_at "dk")
    (case Y8 => walk_at "mk")
    (case Y9 => walk_at "mk")
    (case Za => walk_at "mk")
    (case Zb => walk_at "mk")
    (case Zc => walk_at "mk")
    (case Zd => walk_at "dk")
    (case Ze => walk_at "dk")
    (case Zf => walk_at "dk")
    (case Zg => walk_at "dk")
    (case Zh => walk_at "dk")
    (case Zi => walk_at "dk")
    (case Zj => walk_at "dk")
    (case Zk => walk_at "dk")
    (case Zl => walk_at "dk")
    (case Zm => walk_at "mk")
    (case Zn => walk_at "mk")
    (case Zo => walk_at "mk")
    (case Zp => walk_at "dk")
    (case Zq => walk_at "dk")
    (case Zr => walk_at "dk")
    (case Zs => walk_at "dk")
    (case Zt => walk_at "mk")
    (case Zu => walk_at "dk")
    (case Zv => walk_at "mk")
    (case Zw => walk_at "mk")
    (case Zx => walk_at "mk")
    (case Zy => walk_at "mk")
    (case Zz => walk_at "dk")
    (case ZA => walk_at "dk")
    (case ZC => walk_at "dk")
    (case ZD => walk_at "mk")
    (case ZE => walk_at "dk")
    (case ZF => walk_at "dk")
    (case ZG => walk_at "dk")
    (case ZH => walk_at "dk")
    (case ZI => k_is)
    (case ZJ => k_is)
    (case ZK => k_is)
    (case ZL => k_is)
    (case lT => k_is)
    (case qW => kts_isx)
    (case fK => k_is)
    (case fL => k_exc)
    (case jw => kts_isx)
    (case lU => k_is)
    (case qX => kts_isx)
    (case lV => k_is)
    (case qY => kts_isx)
    (case bR => k_is)
    (case fz => k_exc)
    (case bS => kts_isx)
    (case Bq => k_is)
    (case ic => k_is)
    (case ie => k_is)
    (case ig => k_is)
    (case ij => k_is)
    (case ik => k_is)
    (case ip => k_is)
    (case Kh => kit_is)
    (case Ki => kit_is)
    (case Kj => kit_is)
    (case Kk => kit_is)
    (case Kl => kit_is)
    (case jv => k_is)
    (case kq => first | rfl | decide | k_is)
    (case kr => k_is)
    (case ku => k_is)
    (case ky => k_is)
    (case kz => k_is)
    (case kB => k_is)
    (case kC => k_is)
    (case kD => k_is)
    (case kF => k_is)
    (case kG => k_is)
    (case kH => k_is)
    (case mX => k_is)
    (case mY => k_is)
    (case mZ => k_is)
    (case m4 => k_is)
    (case m5 => k_is)
    (case m6 => k_is)
    (case m7 => k_is)
    (case m9 => k_is)
    (case nc => k_is)
    (case ng => k_is)
    (case nh => k_is)
    (case nj => k_is)
    (case nk => k_is)
    (case nq => k_is)
    (case nv => k_is)
    (case ny => k_is)
    (case nz => k_is)
    (case nA => k_is)
    (case nC => k_is)
    (case nE => k_is)
    (case nF => k_is)
    (case nG => k_is)
    (case nI => k_is)
    (case nJ => k_is)
    (case nK => k_is)
    (case nM => k_is)
    (case nO => k_is)
    (case nP => k_is)
    (case nQ => k_is)
    (case nR => k_is)
    (case nS => k_is)
    (case qf => k_is)
    (case qg => k_is)
    (case qQ => k_is)
    (case jy => k_is)
    (case wg => k_is)
    (case sE => first | rfl | decide | k_is)
    (case sF => k_is)
    (case eF => k_is)
    (case cS => k_is)
    (case fJ => k_is)
    (case dz => k_is)
    (case eG => k_is)
    (case Bp => k_is)
    (case Bs => k_is)
    (case bP => k_is)
    (case bI => k_is)
    (case cO => k_is)
    (case v8 => k_is)
    (case Bd => k_is)
    (case cU => k_is)
    (case gA => k_is)
    (case Bm => k_is)
#print axioms PySem.Challenge.cw_stackwarden_k30_doors_of_books_holds
