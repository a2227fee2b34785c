import PyProof.Rows.All
import Wide.All
import OpenK.AllK
import Wide.FinOn
import Lean
import PyProof.EqAt
import PyProof.EqKinds
import PyProof.TupleCall
import PyProof.ZipIter
import KE.KTryDeep
import KE.KIsAll
import KE.KIntText
import PyProof.ExcArgsOwn
import PySem.Challenge.RW_stackwarden_k51_straight_rows
def aaa:=@PySem.Heap.get?_push_of_some
def aab:=@List.getElem?_append_left
def aac:=@List.length_map
def aad:=@Or.inl
def aae:=@PySem.wpAny_bind
def aaf:=@List.mem_of_getElem?
def aag:=@Nat.le_refl
def aah:=@PySem.Heap.lt_size
def aai:=@Bool.false_ne_true
def aaj:=@List.getElem?_append_right
def aak:=@if_neg
def aal:=@Nat.lt_of_lt_of_le
def aam:=@Nat.ne_of_lt
def aan:=@if_pos
def aao:=@List.getElem?_set_self
def aap:=@List.mem_cons
def aaq:=@List.getElem?_map
def aar:=@PySem.wpAny_pure
def aas:=@PySem.Heap.get?_push_size
def aat:=@List.getElem?_set_ne
def aau:=@Nat.le_trans
def aav:=@PySem.W.mg_none_of
def aaw:=@decide_eq_false
def aax:=@Option.some.inj
def aaz:=@List.length_set
def aaA:=@PySem.wpAny_loadPart_at
def aaB:=@List.replicate_succ
def aaC:=@List.length_append
def aaD:=@decide_eq_true
def aaE:=@List.mem_append
def aaF:=@List.mem_append_right
def aaG:=@List.length_take
def aaH:=@of_decide_eq_true
def aaI:=@PySem.PassesOwn.never
def aaJ:=@PySem.wpAny_mono
def aaK:=@PyProof.Rows.callWith_type1
def aaL:=@List.size_toArray
def aaM:=@List.append_nil
def aaN:=@List.mem_cons_self
def aaO:=@Int.emod_lt_of_pos
def aaP:=@Int.toNat_natCast
def aaQ:=@List.flatten_cons
def aaS:=@List.mem_singleton
def aaT:=@Nat.lt_of_le_of_lt
def aaU:=@List.mem_or_eq_of_mem_set
def aaV:=@Int.emod_nonneg
def aaW:=@List.length_drop
def aaX:=@Nat.zero_le
def aaY:=@PySem.W.mg_of
def aaZ:=@Nat.ne_of_gt
def aa0:=@Nat.sub_self
def aa1:=@Nat.lt_irrefl
def aa2:=@Bool.and_eq_true
def aa3:=@Nat.succ_ne_zero
def aa4:=@List.mem_cons_of_mem
def aa5:=@PySem.W.kia_one
def aa6:=@List.map_append
def aa7:=@List.map_cons
def aa8:=@List.length_eq_zero_iff
def aa9:=@List.getElem?_drop
def aba:=@PySem.wpAny_passesOwn
def abb:=@PySem.wpAny_truthy_bool
def abc:=@PySem.call_meets
def abd:=@PySem.mem_of_lookup
def abe:=@PyProof.Rows.slot_tuple_getitem
def abf:=@Nat.lt_add_of_pos_right
def abg:=@List.getElem?_cons_succ
def abh:=@PySem.wpAny_execs_nil
def abi:=@PySem.wpAny_Call_Name_kw
def abj:=@True.intro
def abk:=@PySem.F.slot_int_rmul
def abl:=@congrArg
def abm:=@PySem.F.slot_str_split
def abn:=@List.flatten_singleton
def abo:=@PySem.wpAny_newObj_type
def abp:=@List.append_assoc
def abq:=@PySem.Heap.size_push
def abr:=@PySem.W.looks_findIn
def abt:=@Nat.succ.inj
def abu:=@List.length_cons
def abv:=@PySem.F.excAttr_ValueError
def abw:=@List.mem_flatten
def abx:=@PySem.wpAny_holding
def aby:=@Or.inr
def abz:=@Nat.add_lt_add_left
def abA:=@List.flatten_append
def abB:=@PySem.wpAny_binaryOp_repeat_ref
def abC:=@Nat.le_of_lt
def abD:=@List.getElem?_take_of_lt
def abE:=@PySem.F.args_str_split_2
def abF:=@PySem.F.slot_list_append
def abG:=@PySem.F.type_list_append
def abH:=@PySem.typeIs_int
def abI:=@PySem.F.entry_str_split
def abJ:=@PySem.F.plainAttrs_list
def abK:=@PySem.wpAny_pyIter_list
def abL:=@PyProof.Rows.subscriptTail_builtinR
def abM:=@PySem.Heap.get?_update_other
def abN:=@List.set_eq_take_append_cons_drop
def abO:=@PySem.wpAny_standAt
def abP:=@Bool.not_eq_true
def abQ:=@List.getElem_mem
def abR:=@Nat.le_add_right
def abS:=@PySem.Heap.get?_update_self
def abT:=@List.length_replicate
def abU:=@List.take_append_drop
def abV:=@List.mem_append_left
def abW:=@PySem.typeIs_str
def abX:=@PySem.codeAny_call_builtin
def abY:=@PySem.wpAny_ite_false
def abZ:=@List.mem_of_mem_drop
def ab0:=@List.forall_mem_cons
def ab1:=@PySem.wpAny_isSubtype_exc
def ab2:=@ne_true_of_eq_false
def ab3:=@Ne.symm
def ab4:=@List.mem_filterMap
def ab5:=@PySem.W.callWith_K
def ab6:=@PySem.Heap.get?_some_iff
def ab7:=@decide_eq_true_iff
def ab8:=@PySem.Calls.Name_function_global
def ab9:=@Int.fdiv_eq_ediv_of_nonneg
def aca:=@Array.getElem?_eq_some_iff
def acb:=@Bool.eq_false_iff
def acd:=@PySem.F.args_int_rmul_2
def ace:=@List.take_add_one
def acf:=@List.getElem?_set
def acg:=@List.ext_getElem?
def ach:=@PySem.wpAny_execs_cons
def aci:=@PySem.codeAny_mono
def acj:=@PySem.F.args_tuple_add_2
def ack:=@List.lookup_cons
def acm:=@List.all_eq_true
def acn:=@PySem.wpAny_comprehension_free
def aco:=@PySem.wpAny_pyIter_zip
def acp:=@PySem.F.slot_tuple_mul
def acq:=@PySem.F.slot_int_index
def acr:=@PySem.F.entry_int_rmul
def acs:=@decide_eq_decide
def acu:=@List.mem_map
def acv:=@List.eq_of_mem_replicate
def acw:=@PySem.F.entry_tuple_add
def acx:=@PyProof.Rows.intBits_le
def acy:=@Bool.eq_iff_iff
def acz:=@PySem.F.fills_int_mul
def acA:=@PySem.W.cellsFrom_some
def acB:=@PySem.F.slot_tuple_add
def acE:=@Nat.le_succ
def acG:=@List.mem_range
def acH:=@PySem.F.slot_dict_get
def acJ:=@List.lookup_cons_self
def acK:=@PySem.wpAny_call
def acL:=@PySem.strKind_is
def acM:=@beq_iff_eq
def acN:=@List.all_cons
def acO:=@List.Mem.head
def acP:=@List.Mem.tail
def acQ:=@beq_eq_false_iff_ne
def acS:=@List.map_nil
def acV:=@Nat.le_of_eq
def acX:=@Nat.eq_zero_or_pos
def acY:=@Nat.succ_pos
def ac0:=@Int.one_mul
abbrev aC:=PySem.W.Frag
theorem Mt:0<=PySem.sizeLine:=by decide
theorem xJ:1<=PySem.sizeLine:=by decide
theorem zo:2<=PySem.sizeLine:=by decide
theorem Rj:3<=PySem.sizeLine:=by decide
theorem jr{α:Type}{a b:α}(h:a∈[b]):a=b:=aaS.mp h
theorem bX{α:Type}{l:List α}{i:Nat}{a:α}(h:l[i]?=some a):∃h:i < l.length,l[i]=a:=List.getElem?_eq_some_iff.mp h
theorem cW{α:Type}{l:List α}{i:Nat}(h:i < l.length):l[i]?=some l[i]:=List.getElem?_eq_getElem h
namespace SD
open PySem PySem.W PyProof.Rows
set_option maxRecDepth 100000 in
set_option maxHeartbeats 0 in
theorem RA:PySem.Challenge.rw_stackwarden_k51_straight_rows.row.partSaid=true:=by
 kernel_rfl
set_option maxRecDepth 100000 in
set_option maxHeartbeats 0 in
theorem RB:PySem.Challenge.rw_stackwarden_k51_straight_rows.wellSaid=true:=by
 unfold OpenLaw.wellSaid
 repeat' (with_reducible refine look_both ?_ ?_)
 unfold OpenRow.wellSaid
 repeat' (with_reducible refine look_both ?_ ?_)
 exact RA
 all_goals kernel_rfl
end SD
set_option Elab.async false
set_option compiler.extract_closed false
set_option linter.all false
set_option maxRecDepth 100000
namespace L2
open PySem PySem.Spec PyProof.Rows
abbrev Key:=Sum Int Str
def uA:Key->Value->Bool
 | .inl k,v=>Value.isInt k v
 | .inr x,v=>Value.isStrOf x v
def Vk(w:World):Key->Int
 | .inl k=>hashInt k
 | .inr x=>hashStr w x
theorem cA:∀{k:Key} {v:Value},uA k v=true->(∃i t,k=Sum.inl i/\v=Value.int i t)∨(∃x t,k=Sum.inr x/\v=Value.str x t)
 | .inl i,v,h=>by
  obtain⟨t,e⟩:=Value.isInt_shape (k:=i) (v:=v) h;exact .inl ⟨i,t,rfl,e⟩
 | .inr x,v,h=>by
  obtain⟨t,e⟩:=Value.isStrOf_shape (x:=x) (v:=v) h;exact .inr ⟨x,t,rfl,e⟩
theorem Cp(i:Int)(t:Tok):uA (.inl i) (.int i t)=true:=by simp[uA,Value.isInt]
theorem Cq(x:Str)(t:Tok):uA (.inr x) (.str x t)=true:=by simp[uA,Value.isStrOf]
theorem NT(a b:Int):decide ((Sum.inl a:Key)=Sum.inl b)=(a == b):=by
 by_cases e:a=b
 ·subst e;simp
 ·have h:¬ (Sum.inl a:Key)=Sum.inl b:=λq=>e (Sum.inl.inj q)
  rw[aaw h];exact(acQ.mpr e).symm
theorem NU(a b:Str):decide ((Sum.inr a:Key)=Sum.inr b)=decide (a=b):=by
 by_cases e:a=b
 ·subst e;simp
 ·have h:¬ (Sum.inr a:Key)=Sum.inr b:=λq=>e (Sum.inr.inj q)
  rw[aaw h,aaw e]
theorem NV(a:Int)(b:Str):decide ((Sum.inl a:Key)=Sum.inr b)=false:=aaw (λq=>nomatch q)
theorem NW(a:Str)(b:Int):decide ((Sum.inr a:Key)=Sum.inl b)=false:=aaw (λq=>nomatch q)
def eN(prog:Program)(w:World):PySem.KeyKind prog w Key where
 is:=uA
 hash:=Vk w
 inj:=λv a b ha hb=>by
  rcases cA ha with⟨i,t,rfl,rfl⟩ | ⟨x,t,rfl,rfl⟩
  ·rcases cA hb with⟨j,u,rfl,e⟩ | ⟨y,u,rfl,e⟩
   ·injection e with e1 _;rw[e1]
   ·exact nomatch e
  ·rcases cA hb with⟨j,u,rfl,e⟩ | ⟨y,u,rfl,e⟩
   ·exact nomatch e
   ·injection e with e1 _;rw[e1]
 byValue:=λk v h=>by
  rcases cA h with⟨i,t,rfl,rfl⟩ | ⟨x,t,rfl,rfl⟩<;>rfl
 pyHash:=λhv h=>by
  rcases cA hv with⟨i,t,rfl,rfl⟩ | ⟨x,t,rfl,rfl⟩
  ·exact wpAny_pyHash_int h
  ·exact wpAny_pyHash_str h
 eqBool:=λhu hv h=>by
  rcases cA hu with⟨i,t,rfl,rfl⟩ | ⟨x,t,rfl,rfl⟩
  ·rcases cA hv with⟨j,u,rfl,rfl⟩ | ⟨y,u,rfl,rfl⟩
   ·rw[NT]at h;exact wpAny_eqBool_int h
   ·rw[NV]at h;exact SeqAt.EqAt.int_str i t y u _ _ _ _ h
  ·rcases cA hv with⟨j,u,rfl,rfl⟩ | ⟨y,u,rfl,rfl⟩
   ·rw[NW]at h;exact SeqAt.EqAt.str_int x t j u _ _ _ _ h
   ·rw[NU]at h;exact wpAny_eqBool_str h
 «strs»:=λk x t v h=>by
  rcases cA h with⟨i,u,rfl,e⟩ | ⟨y,u,rfl,e⟩
  ·exact nomatch e
  ·injection e with e1 _
   subst e1;cases v<;>rfl
theorem xK(prog:Program)(w:World)(i:Int)(t:Tok):(eN prog w).is (.inl i) (.int i t)=true:=Cp i t
theorem xM(prog:Program)(w:World)(x:Str)(t:Tok):(eN prog w).is (.inr x) (.str x t)=true:=Cq x t
inductive V where
 | non | bl (b:Bool) | int (i:Int) | str (x:Str) | byt (b:Array UInt8) | flt (b:UInt64) | ref (a:Addr) | ty (n:String)
 deriving DecidableEq
def RelV:V->Value->Prop
 | .non,u=>u=Value.none
 | .bl b,u=>u=Value.bool b
 | .int i,u=>∃t,u=Value.int i t
 | .str x,u=>∃t,u=Value.str x t
 | .byt b,u=>∃t,u=Value.bytes b t
 | .flt b,u=>∃t,u=Value.float b t
 | .ref a,u=>u=Value.ref a
 | .ty n,u=>u=Value.type n
abbrev Vals:List V->List Value->Prop:=Paired RelV
theorem Vals.length{xs:List V}{us:List Value}(r:Vals xs us):xs.length=us.length:=Paired.length r
theorem Vals.get:∀{xs:List V} {us:List Value} {i:Nat} {x:V},Vals xs us->xs[i]?=some x->∃u,us[i]?=some u/\RelV x u
 | _,_,_,_,.nil,e=>by simp at e
 | _,_,0,_,.cons r _,e=>by simp at e;subst e;exact⟨_,rfl,r⟩
 | _,_,i + 1,x,.cons _ t,e=>by
  obtain⟨u,h1,h2⟩:=Vals.get (i:=i) (x:=x) t (by simpa using e);exact⟨u,by simpa using h1,h2⟩
theorem Vals.set{x:V}{u:Value}(r:RelV x u):∀{xs:List V} {us:List Value} (i:Nat),Vals xs us->Vals (xs.set i x) (us.set i u)
 | _,_,_,.nil=>.nil
 | _,_,0,.cons _ t=>.cons r t
 | _,_,i + 1,.cons q t=>.cons q (Vals.set r i t)
theorem Vals.append:∀{xs ys:List V} {us ws:List Value},Vals xs us->Vals ys ws->Vals (xs++ys) (us++ws)
 | _,_,_,_,.nil,s=>s
 | _,_,_,_,.cons r t,s=>.cons r (Vals.append t s)
theorem Vals.take:∀{xs:List V} {us:List Value} (n:Nat),Vals xs us->Vals (xs.take n) (us.take n)
 | _,_,0,_=>.nil
 | _,_,_ + 1,.nil=>.nil
 | _,_,n + 1,.cons r t=>.cons r (Vals.take n t)
theorem Vals.drop:∀{xs:List V} {us:List Value} (n:Nat),Vals xs us->Vals (xs.drop n) (us.drop n)
 | _,_,0,r=>r
 | _,_,_ + 1,.nil=>.nil
 | _,_,n + 1,.cons _ t=>Vals.drop n t
def qC:Option V->Option Value->Prop
 | some v,some u=>RelV v u
 | none,none=>True
 | _,_=>False
def KV{κ:Type}:List (κ×V)->List (κ×Value)->Prop:=Paired λ(p:κ×V) (q:κ×Value)=>p.1=q.1/\RelV p.2 q.2
def kV:Key->V
 | .inl i=>.int i
 | .inr x=>.str x
inductive HO where
 | lst (xs:List V)
 | tup (xs:List V)
 | dK (kvs:List (Key×V)) | dT (kvs:List (List Key×V))
 | set (S:Int->Bool) (n:Nat)
 | ins (C dx:Addr) (fs:List (Str×V))
 | own (x:Addr)
 | xd (fs:List (Str×V))
 | met (f x:Addr)
 | rng (lo hi:Int)
 | mL (o:Obj) (u:HO)
 | tbl (ps:Array Value)
 | ext (φ:Heap->Prop)
abbrev Hp:=Addr->Option HO
def upd(H:Hp)(a:Addr)(o:HO):Hp:=λb=>if b=a then some o else H b
theorem uS{H:Hp}{a:Addr}{o:HO}:upd H a o a=some o:=by unfold upd;rw[if_pos rfl]
theorem uN{H:Hp}{a b:Addr}{o:HO}(h:b≠a):upd H a o b=H b:=by unfold upd;rw[if_neg h]
theorem Ja{H:Hp}{a:Addr}{o u:HO}:upd (upd H a o) a u=upd H a u:=by
 funext b;unfold upd;split<;>rfl
theorem rC{H:Hp}{a b:Addr}{o u:HO}(h:H a=some o)(h':H b=some u)(d:o≠u):a≠b:=by
 intro e;subst e;rw[h]at h';exact d (aax h')
theorem nN{H:Hp}{a b:Addr}{o:HO}(h:H a=some o)(h':H b=none):a≠b:=by
 intro e;subst e;rw[h]at h';cases h'
section
variable (P:Program) (w:World)
def dU(H:Hp)(h:Heap)(a:Addr):HO->Prop
 | .lst xs=>xs.length<=sizeLine/\∃(its:List Value) (n:Nat),Vals xs its/\h.get? a=some {cls:=.type "list",data:=.seq its.toArray n}
 | .tup xs=>xs.length<=sizeLine/\∃its:List Value,Vals xs its/\IsTup h a its.toArray
 | .dK kvs=>kvs.length<=sizeLine/\(a == sysModules)=false/\∃vs,KV kvs vs/\h.DictOf (eN P w) a vs
 | .dT kvs=>kvs.length<=sizeLine/\(a == sysModules)=false/\∃xs:List (List Key×Addr×Value),
   Paired (λ(p:List Key×V) (q:List Key×Addr×Value)=>p.1=q.1/\H q.2.1=some (.tup (p.1.map kV))/\RelV p.2 q.2.2) kvs xs /\
   ∃o es ep,h.get? a=some o/\o.ExactDict/\o.data=.dict es ep/\es.toList=xs.map (entryOfKey (tupleKind (eN P w)))/\(xs.map (·.1)).Nodup
 | .set S n=>h.SetOf (intKind P w) a S n
 | .ins C dx fs=>H dx=some (.own a)/\fs.length<=1000/\dx≠a/\h.get? a=some (PySem.W.instObj C dx) /\
   ∃mA,h.Ns1 dx mA/\(∀f,qC (fs.lookup f) (mA f))/\PySem.Within mA (fs.map (·.1))
 | .own _=>∃o,h.get? a=some o
 | .xd fs=>∃mA,h.Ns1 a mA/\∀f,qC (fs.lookup f) (mA f)
 | .rng lo hi=>∃t u v,h.get? a=some {cls:=.type "range",data:=.fields #[.int lo t,.int hi u,.int 1 v]}
 | .mL o u=>h.get? a=some o/\dU H h a u
 | .tbl ps=>h.get? a=some {cls:=.none,data:=.fields ps}
 | .met f x=>h.get? a=some (PySem.W.methodObj (.ref f) (.ref x))
 | .ext φ=>φ h/\(∃o,h.get? a=some o)/\∀h1 h2:Heap,φ h1->(∀o,h1.get? a=some o->h2.get? a=some o)->φ h2
def nJ(H:Hp)(h:Heap):Prop:=∀a o,H a=some o->dU P w H h a o
end
section
variable {P:Program} {w:World} {H H':Hp} {h h':Heap} {a:Addr} {o:HO}
theorem dU.lt(x:dU P w H h a o):a < h.objs.size:=by
 cases o with
 | lst xs=>obtain⟨_,_,_,_,e⟩:=x;exact aah e
 | tup xs=>obtain⟨_,_,_,p⟩:=x;exact p.lt
 | dK kvs=>obtain⟨_,_,_,_,o,_,_,e,_⟩:=x;exact aah e
 | dT kvs=>obtain⟨_,_,_,_,o,_,_,e,_⟩:=x;exact aah e
 | set S n=>obtain⟨o,_,_,_,e,_⟩:=x;exact aah e
 | ins C dx fs=>obtain⟨_,_,_,e,_⟩:=x;exact aah e
 | own y=>obtain⟨_,e⟩:=x;exact aah e
 | xd fs=>obtain⟨_,⟨_,_,_,e,_⟩,_⟩:=x;exact aah e
 | rng lo hi=>obtain⟨_,_,_,e⟩:=x;exact aah e
 | mL ob u=>obtain⟨e,_⟩:=x;exact aah e
 | tbl ps=>exact aah (show h.get? a=some _ from x)
 | met f y=>exact aah (show h.get? a=some _ from x)
 | ext φ=>obtain⟨_,⟨_,e⟩,_⟩:=x;exact aah e
theorem Paired.RC{α β:Type}{F G:α->β->Prop}:∀{l₁:List α} {l₂:List β},Paired F l₁ l₂->(∀a b,F a b->G a b)->Paired G l₁ l₂
 | _,_,.nil,_=>.nil
 | _,_,.cons r t,f=>.cons (f _ _ r) (Paired.RC t f)
theorem dU.tQ(x:dU P w H h a o)(k:∀b u,(b=a∨H b=some (.own a))->h.get? b=some u->h'.get? b=some u)
  (ho:∀b,H b=some (.own a)->H' b=some (.own a)) (ht:∀b xs,H b=some (.tup xs)->H' b=some (.tup xs)):dU P w H' h' a o:=by
 induction o with
 | lst xs=>obtain⟨z,its,n,r,e⟩:=x;exact⟨z,its,n,r,k _ _ (.inl rfl) e⟩
 | tup xs=>obtain⟨z,its,r,ob,e,c⟩:=x;exact⟨z,its,r,ob,k _ _ (.inl rfl) e,c⟩
 | dK kvs=>obtain⟨z,y,vs,r,ob,es,ep,e,c⟩:=x;exact⟨z,y,vs,r,ob,es,ep,k _ _ (.inl rfl) e,c⟩
 | dT kvs =>
  obtain⟨z,y,xs,r,ob,es,ep,e,c⟩:=x;exact⟨z,y,xs,Paired.RC r λp q z=>⟨z.1,ht _ _ z.2.1,z.2.2⟩,ob,es,ep,k _ _ (.inl rfl) e,c⟩
 | set S n=>obtain⟨ob,es,ep,t,e,c⟩:=x;exact⟨ob,es,ep,t,k _ _ (.inl rfl) e,c⟩
 | ins C dx fs =>
  obtain⟨d,z,ne,e,mA,⟨od,es,ep,e2,c⟩,r⟩:=x;exact⟨ho _ d,z,ne,k _ _ (.inl rfl) e,mA,⟨od,es,ep,k _ _ (.inr d) e2,c⟩,r⟩
 | own y=>obtain⟨ob,e⟩:=x;exact⟨ob,k _ _ (.inl rfl) e⟩
 | xd fs=>obtain⟨mA,⟨od,es,ep,e,c⟩,r⟩:=x;exact⟨mA,⟨od,es,ep,k _ _ (.inl rfl) e,c⟩,r⟩
 | rng lo hi=>obtain⟨t,u,v,e⟩:=x;exact⟨t,u,v,k _ _ (.inl rfl) e⟩
 | mL ob u ih=>obtain⟨e,q⟩:=x;exact⟨k _ _ (.inl rfl) e,ih q⟩
 | tbl ps =>
  have e:h.get? a=some {cls:=.none,data:=.fields ps}:=x;show h'.get? a=some {cls:=.none,data:=.fields ps};exact k a _ (.inl rfl) e
 | met f y =>
  have e:h.get? a=some (PySem.W.methodObj (.ref f) (.ref y)):=x;show h'.get? a=some (PySem.W.methodObj (.ref f) (.ref y));exact k a _ (.inl rfl) e
 | ext φ=>obtain⟨p,⟨o,e⟩,st⟩:=x;exact⟨st _ _ p λo q=>k _ _ (.inl rfl) q,⟨o,k _ _ (.inl rfl) e⟩,st⟩
theorem nJ.lt(x:nJ P w H h)(e:H a=some o):a < h.objs.size:=(x a o e).lt
theorem nJ.fresh(x:nJ P w H h)(e:h.objs.size<=a):H a=none:=by
 cases q:H a with
 | none=>rfl
 | some u=>exact absurd (aal (x.lt q) e) (aa1 _)
theorem nJ.kept(x:nJ P w H h)(k:∀b u,h.get? b=some u->h'.get? b=some u):nJ P w H h':=λa o e =>
 (x a o e).tQ (λb u _ q=>k b u q) (λ_ q=>q) λ_ _ q=>q
theorem nJ.laid(x:nJ P w H h)(k:∀b u,h.get? b=some u->h'.get? b=some u)(hp:h.objs.size<=a)(new:dU P w (upd H a o) h' a o):nJ P w (upd H a o) h':=λb u e=>by
 have hn:=x.fresh hp;by_cases hb:b=a
 ·subst hb;rw[uS]at e;cases e;exact new
 ·rw[uN hb]at e;exact(x b u e).tQ (λc v _ q=>k c v q) (λc q=>by rw[uN (nN q hn)];exact q) λc xs q=>by rw[uN (nN q hn)];exact q
end
def Rd(H:Hp)(a:Addr)(u:HO):Prop:=H a=some u∨∃o,H a=some (.mL o u)
theorem Rd.ok{P:Program}{w:World}{H:Hp}{h:Heap}{a:Addr}{u:HO}(r:Rd H a u)(x:nJ P w H h):dU P w H h a u:=by
 rcases r with r | ⟨o,r⟩
 ·exact x a u r
 ·obtain⟨_,q⟩:=x a _ r;exact q
def UM:Option HO->Prop
 | some (.lst _)=>True
 | some (.dK _)=>True
 | some (.dT _)=>True
 | some (.set _ _)=>True
 | some (.ins _ _ _)=>True
 | some (.ext _)=>True
 | _=>False
section
variable {P:Program} {w:World} {H:Hp} {h h':Heap} {x e:Addr} {o':HO}
theorem nJ.write(ok:nJ P w H h)(mu:UM (H x))(he:e=x∨H e=some (.own x))(k:∀b u,b≠e->h.get? b=some u->h'.get? b=some u)(heo:∃u,h'.get? e=some u)
  (new:dU P w (upd H x o') h' x o'):nJ P w (upd H x o') h':=λb u q=>by
 have nown:∀c y,H c=some (.own y)->c≠x:=λc y r z=>by subst z;rw[r]at mu;exact mu
 have ntup:∀c xs,H c=some (.tup xs)->c≠x:=λc xs r z=>by subst z;rw[r]at mu;exact mu
 by_cases hb:b=x
 ·subst hb;rw[uS]at q;cases q;exact new
 ·rw[uN hb]at q;by_cases hbe:b=e
  ·have q':H b=some (.own x):=by
    rcases he with z | z
    ·exact absurd (hbe.trans z) hb
    ·rw[hbe];exact z
   rw[q]at q';cases q';obtain⟨v,hv⟩:=heo;exact⟨v,by rw[hbe];exact hv⟩
  ·refine(ok b u q).tQ (λc v hc r=>k c v ?_ r) (λc r=>by rw[uN (nown c b r)];exact r) λc xs r=>by rw[uN (ntup c xs r)];exact r
   rcases hc with rfl | hc
   ·exact hbe
   ·rintro rfl;rcases he with z | z
    ·exact nown c b hc z
    ·rw[hc]at z;cases z;exact hb rfl
end
structure Un(fs ex:List Addr)(H H':Hp)(h h':Heap):Prop where
 keep:∀b o,h.get? b=some o->H b=none->b∉fs->b∉ex->h'.get? b=some o
 slot:∀b o,h.get? b=some o->H b=none->b∈fs->b∉ex->∃sl,h'.get? b=some {o with slots:=sl}
 free:∀b o,h.get? b=some o->H b=none->b∉ex->H' b=none
 there:∀b o,h.get? b=some o->b∉ex->∃o',h'.get? b=some o'
 tups:∀b xs,H b=some (.tup xs)->H' b=some (.tup xs)
 eM:∀b o u,H b=some (.mL o u)->H' b=some (.mL o u)
 tbls:∀b ps,H b=some (.tbl ps)->∃more,H' b=some (.tbl (ps++more))
section
variable {fs fs' ex ex':List Addr} {H H1 H2:Hp} {h h1 h2 h':Heap} {a x e:Addr} {o:HO}
theorem Un.any(u:Un fs ex H H1 h h1){b:Addr}{ob:Obj}(q:h.get? b=some ob)(n:H b=none)(hx:b∉ex):∃sl,h1.get? b=some {ob with slots:=sl}:=by
 by_cases hb:b∈fs
 ·exact u.slot b ob q n hb hx
 ·exact⟨ob.slots,u.keep b ob q n hb hx⟩
theorem Un.kept(k:∀b u,h.get? b=some u->h'.get? b=some u):Un fs ex H H h h' :=
 ⟨λb ob q _ _ _=>k b ob q,λb ob q _ _ _=>⟨ob.slots,k b ob q⟩,λ_ _ _ n _=>n,λb ob q _=>⟨ob,k b ob q⟩,λ_ _ q=>q,λ_ _ _ q=>q,λ_ ps q=>⟨#[],by rw[q];simp⟩⟩
theorem Un.refl:Un fs ex H H h h:=Un.kept λ_ _ q=>q
theorem Un.laid(k:∀b u,h.get? b=some u->h'.get? b=some u)(hp:h.objs.size<=a)(hn:H a=none):Un fs ex H (upd H a o) h h' where
 keep:=λb u q _ _ _=>k b u q
 slot:=λb u q _ _ _=>⟨u.slots,k b u q⟩
 free:=λb u q n _=>by rw[uN (aam (aal (aah q) hp))];exact n
 there:=λb u q _=>⟨u,k b u q⟩
 tups:=λb xs q=>by rw[uN (nN q hn)];exact q
 eM:=λb u xs q=>by rw[uN (nN q hn)];exact q
 tbls:=λb ps q=>⟨#[],by rw[uN (nN q hn),q];simp⟩
theorem Un.write(mu:UM (H x))(he:e=x∨H e=some (.own x))(k:∀b u,b≠e->h.get? b=some u->h'.get? b=some u)(heo:∃u,h'.get? e=some u):Un fs ex H (upd H x o) h h':=by
 have hx:∀b,H b=none->b≠x:=λb n z=>by subst z;rw[n]at mu;exact mu
 have hb:∀b,H b=none->b≠e:=λb n z=>by
  subst z;rcases he with r | r
  ·exact hx b n r
  ·rw[n]at r;cases r
 have hm:∀b u,H b=some u->¬ UM (some u)->b≠x:=λb u q nm z=>by subst z;rw[q]at mu;exact nm mu
 refine⟨λb u q n _ _=>k b u (hb b n) q,λb u q n _ _=>⟨u.slots,k b u (hb b n) q⟩,λb u q n _=>by rw[uN (hx b n)];exact n,λb u q _=>?_,
  λb xs q=>by rw[uN (hm b _ q λz=>z)];exact q,λb u xs q=>by rw[uN (hm b _ q λz=>z)];exact q,λb ps q=>⟨#[],by rw[uN (hm b _ q λz=>z),q];simp⟩⟩
 by_cases hbe:b=e
 ·subst hbe;exact heo
 ·exact⟨u,k b u hbe q⟩
end
def UN(h:Heap)(H:Hp):List Addr:=(List.range h.objs.size).filter λa=>(H a).isSome
def vC(h:Heap)(H:Hp):Heap:=PySem.W.hideAll h (UN h H)
theorem Cr(h:Heap)(H:Hp):(vC h H).objs.size=h.objs.size:=PySem.W.hideAll_size _ _
theorem Ee{h:Heap}{H:Hp}{b:Addr}{o:Obj}(e:h.get? b=some o)(n:H b=none):(vC h H).get? b=some o :=
 PySem.W.hideAll_get _ e λhm=>by
  have q:(H b).isSome=true:=(List.mem_filter.mp hm).2;rw[n]at q;simp at q
theorem Jb{h:Heap}{H:Hp}{b:Addr}{o:Obj}(e:(vC h H).get? b=some o):h.get? b=some o/\H b=none:=by
 have e':h.get? b=some o:=PySem.W.of_hideAll (UN h H) e;refine⟨e',?_⟩
 cases q:H b with
 | none=>rfl
 | some x =>
  have hm:b∈UN h H:=List.mem_filter.mpr ⟨List.mem_range.mpr (Heap.lt_size e'),by simp[q]⟩;have z:(vC h H).get? b=none:=PySem.W.hideAll_none (UN h H) hm;rw[z]at e;cases e
def Jc(g h:Heap)(L:Addr):List (Addr×Obj):=(List.range h.objs.size).filterMap λa=>if a=L∨(g.get? a).isSome=true then none else(h.get? a).map λo=>(a,o)
def rest(g h:Heap)(L d:Addr):List (Addr×Obj):=(Jc g h L).filter λp=>decide (p.1≠d)
structure Mod(K:aC)(mg:Str->Option Value)(base:Heap):Prop where
 kin:K.In base
 glob:base.Ns mainGlobals mg
 blt:∃mb,base.Ns builtinsNs mb/\∀x:Str,x≠"__name__"->mb x=bootBuiltins x
 nolimit:base.NoLimit
structure Cx where
 prog:Program
 w:World
 K:aC
 mg:Str->Option Value
 base:Heap
 A:Around
 N:List Str
 s₀:Shared
 H₀:Hp
 env:Env
 outer:List Env
 stack:List Env
 ex:List Addr
 fn:Str->Bool
 calm:Bool
 pn:List (Addr×Obj)
 xe:Value->Shared->Prop
def p9(l:List Env):List Addr:=l.filterMap (·.frame)
abbrev Cx.fs(X:Cx):List Addr:=p9 X.outer
def UO(sc:Scope)(x:Str):Prop:=sc.names.lookup x=some .local∨sc.names.lookup x=some .cell∨sc.names.lookup x=some .free
def Loc(sc:Scope)(x:Str):Prop:=sc.names.lookup x=some .local∨sc.names.lookup x=some .cell
def Look(env:Env)(h:Heap)(m:Str->Option Value)(x:Str)(u:Value):Prop :=
 (env.kindOf x=some .local/\m x=some u)∨((env.kindOf x=some .cell∨env.kindOf x=some .free)/\∃c,env.cells.lookup x=some c/\h.IsCell c (some u))
structure Cx.Ok(X:Cx):Prop where
 mod:Mod X.K X.mg X.base
 kind:X.env.scope.kind=.function
 glob:X.env.globals=mainGlobals
 blt:X.env.builtins=builtinsNs
 above:X.s₀.heap.objs.size<=X.env.locals
 inj:∀x y c,X.env.cells.lookup x=some c->X.env.cells.lookup y=some c->x=y
 has:∀x,(X.env.kindOf x=some .cell∨X.env.kindOf x=some .free)->∃c,X.env.cells.lookup x=some c
 cab:∀x c,X.fn x=true->X.env.cells.lookup x=some c->X.s₀.heap.objs.size<=c
 hd:X.calm=true->X.A.handled=none
 frames:X.A.frames=some X.stack
 stk:X.stack=X.outer∨(X.stack=X.env::X.outer/\X.env.frame=some X.env.locals)
 exf:∀b∈X.ex,b≠X.env.locals/\∀x c,X.env.cells.lookup x=some c->c≠b
 bs:∀b o,X.base.get? b=some o->X.s₀.heap.get? b=some o/\X.H₀ b=none
 bsz:X.base.objs.size<=X.s₀.heap.objs.size
 noex:∀b o,X.base.get? b=some o->b∉X.ex
 exfs:∀b∈X.ex,b∉X.fs
 oZ:X.s₀.heap.FunFrames X.base X.outer
 frf:∀b∈X.fs,X.H₀ b=none
structure Inv(X:Cx)(pins:List (Addr×Obj))(σ:List (Option V))(H:Hp)(s:Shared):Prop where
 ok:X.Ok
 os:s.os=X.s₀.os
 bare:AllBare s.gens
 base:Un X.fs X.ex X.H₀ H X.s₀.heap s.heap
 loc:∃m,s.heap.Ns X.env.locals m/\∀(i:Nat) (x:Str) (v:V),X.N[i]?=some x->σ[i]?=some (some v)->UO X.env.scope x->∃u,RelV v u/\Look X.env s.heap m x u
 cell:∀x c,X.env.cells.lookup x=some c->∃v,s.heap.IsCell c v
 free:H X.env.locals=none
 freeC:∀x c,X.env.cells.lookup x=some c->H c=none
 pin:∀p∈X.pn++pins,s.heap.get? p.1=some p.2/\H p.1=none/\p.1≠X.env.locals/\p.1∉X.fs/\∀v,p.2.data≠.cell v
 hok:nJ X.prog X.w H s.heap
 len:σ.length=X.N.length
section
variable {X:Cx} {pins:List (Addr×Obj)} {σ:List (Option V)} {H H':Hp} {s:Shared} {h':Heap}
theorem Cx.Ok.Vl(ok:X.Ok){b:Addr}{o:Obj}(e:X.base.get? b=some o):b∉X.fs:=λhb=>by
 have:=(ok.oZ.mem hb).1;rw[e]at this;cases this
theorem Inv.bs(I:Inv X pins σ H s):∀b o,X.base.get? b=some o->s.heap.get? b=some o/\H b=none:=λb o e =>
 ⟨I.base.keep b o (I.ok.bs b o e).1 (I.ok.bs b o e).2 (I.ok.Vl e) (I.ok.noex b o e),I.base.free b o (I.ok.bs b o e).1 (I.ok.bs b o e).2 (I.ok.noex b o e)⟩
theorem Inv.bk(I:Inv X pins σ H s):∀b o,X.base.get? b=some o->s.heap.get? b=some o:=λb o e=>(I.bs b o e).1
theorem Inv.mod(I:Inv X pins σ H s):Mod X.K X.mg X.base:=I.ok.mod
theorem Inv.nK(I:Inv X pins σ H s):X.K.In s.heap:=I.ok.mod.kin.keeps I.bk
theorem Inv.lt(I:Inv X pins σ H s):X.env.locals < s.heap.objs.size:=let ⟨_,hn,_⟩:=I.loc;hn.lt
theorem Inv.sz(I:Inv X pins σ H s):X.s₀.heap.objs.size<=s.heap.objs.size:=aau I.ok.above (abC I.lt)
theorem Inv.Vm(I:Inv X pins σ H s){a:Addr}(h:s.heap.objs.size<=a):a∉X.fs:=λhb=>by
 obtain⟨_,o,ho,_⟩:=I.ok.oZ.mem hb;exact absurd (aal (aah ho) (aau I.sz h)) (aa1 _)
theorem Inv.Jd(I:Inv X pins σ H s):∀x c,X.env.cells.lookup x=some c->c≠X.env.locals:=λx c e z=>by
 obtain⟨v,o,ho,hd⟩:=I.cell x c e;obtain⟨m,⟨o',es,ep,ho',hd',_⟩,_⟩:=I.loc;rw[z,ho']at ho;cases ho;rw[hd']at hd;cases hd
theorem Inv.oZ(I:Inv X pins σ H s):s.heap.FunFrames X.base X.outer:=by
 have all:∀(l:List Env),(∀b∈p9 l,b∈X.fs)->X.s₀.heap.FunFrames X.base l->s.heap.FunFrames X.base l:=by
  intro l
  induction l with
  | nil=>intro _ _;trivial
  | cons env r ih =>
   intro hs hl;obtain⟨hk,⟨L,o,hf,hn,ho,hd⟩,hr⟩:=hl;have hL:L∈X.fs:=hs L (by unfold p9;rw[List.filterMap_cons,hf];exact List.mem_cons_self);obtain⟨sl,e⟩:=I.base.slot L o ho (I.ok.frf L hL) hL λz=>I.ok.exfs L z hL
   exact⟨hk,⟨L,_,hf,hn,e,hd⟩,ih (λb hb=>hs b (by unfold p9;rw[List.filterMap_cons,hf];exact List.mem_cons_of_mem _ hb)) hr⟩
 exact all X.outer (λ_ hb=>hb) I.ok.oZ
theorem Inv.stack(I:Inv X pins σ H s):s.heap.FunFrames X.base X.stack:=by
 rcases I.ok.stk with e | ⟨e,hf⟩
 ·rw[e];exact I.oZ
 ·rw[e];obtain⟨m,hn,_⟩:=I.loc;refine .cons (by rw[I.ok.kind];decide) hf hn ?_ I.oZ;exact Heap.get?_none_of_le (aau I.ok.bsz I.ok.above)
theorem Inv.zr(I:Inv X pins σ H s):∀b∈p9 X.stack,b∈X.env.locals::X.fs:=λb hb=>by
 rcases I.ok.stk with e | ⟨e,hf⟩
 ·rw[e]at hb;exact aa4 _ hb
 ·rw[e]at hb;unfold p9 at hb;rw[List.filterMap_cons,hf]at hb;exact hb
theorem Inv.qZ(I:Inv X pins σ H s):∀b∈p9 X.stack,H b=none:=λb hb=>by
 rcases aap.mp (I.zr b hb)with e | hb
 ·rw[e];exact I.free
 ·obtain⟨_,o,ho,_⟩:=I.ok.oZ.mem hb;exact I.base.free b o ho (I.ok.frf b hb) λz=>I.ok.exfs b z hb
theorem Inv.step{g':Array GenState}{t':Nat}{d':Drawn}{ch:List Addr}(I:Inv X pins σ H s)
  (hch:∀b∈ch,(b∈X.ex∨X.s₀.heap.objs.size<=b)/\b≠X.env.locals/\(∀x c,X.env.cells.lookup x=some c->c≠b)/\∀p∈X.pn++pins,p.1≠b)
  (keep:∀b o,b≠X.env.locals->b∉X.fs->b∉ch->s.heap.get? b=some o->H b=none->h'.get? b=some o)
  (slot:∀b o,b≠X.env.locals->b∈X.fs->b∉ch->s.heap.get? b=some o->H b=none->∃sl,h'.get? b=some {o with slots:=sl}) (free:∀b o,b∉ch->s.heap.get? b=some o->H b=none->H' b=none)
  (there:∀b o,b∉ch->s.heap.get? b=some o->∃o',h'.get? b=some o')
  (tups:∀b xs,H b=some (.tup xs)->H' b=some (.tup xs)) (eM:∀b o u,H b=some (.mL o u)->H' b=some (.mL o u)) (tbls:∀b ps,H b=some (.tbl ps)->∃more,H' b=some (.tbl (ps++more)))
  (ns:∀m,s.heap.Ns X.env.locals m->h'.Ns X.env.locals m) (hok:nJ X.prog X.w H' h') (hg:AllBare g') :
  Inv X pins σ H' {s with heap:=h',gens:=g',drawn:=d',toks:=t'}:=by
 have neL:∀b o,X.s₀.heap.get? b=some o->b≠X.env.locals:=λb o e=>aam (aal (aah e) I.ok.above)
 have neC:∀b o,X.s₀.heap.get? b=some o->b∉X.ex->b∉ch:=λb o e hx hb=>by
  rcases (hch b hb).1 with z | z
  ·exact hx z
  ·exact absurd (aal (aah e) z) (aa1 _)
 have cellK:∀x c,X.env.cells.lookup x=some c->∀v,s.heap.IsCell c v->h'.IsCell c v:=λx c e v ⟨o,ho,hd⟩=>by
  have nch:c∉ch:=λz=>(hch c z).2.2.1 x c e rfl
  by_cases hc:c∈X.fs
  ·obtain⟨sl,q⟩:=slot c o (I.Jd x c e) hc nch ho (I.freeC x c e);exact⟨_,q,hd⟩
  ·exact⟨o,keep c o (I.Jd x c e) hc nch ho (I.freeC x c e),hd⟩
 refine⟨I.ok,I.os,hg,⟨λb o e n hb hx=>?_,λb o e n hb hx=>?_,λb o e n hx=>?_,λb o e hx=>?_,λb xs e=>tups b xs (I.base.tups b xs e),λb o xs e=>eM b o xs (I.base.eM b o xs e),λb ps e=>?_⟩,?_,λx c e=>?_,?_,λx c e=>?_,λp hp=>?_,hok,I.len⟩
 ·exact keep b o (neL b o e) hb (neC b o e hx) (I.base.keep b o e n hb hx) (I.base.free b o e n hx)
 ·obtain⟨sl,e1⟩:=I.base.slot b o e n hb hx;obtain⟨sl',e2⟩:=slot b _ (neL b o e) hb (neC b o e hx) e1 (I.base.free b o e n hx);exact⟨sl',e2⟩
 ·obtain⟨o',e1⟩:=I.base.there b o e hx;exact free b o' (neC b o e hx) e1 (I.base.free b o e n hx)
 ·obtain⟨o',e1⟩:=I.base.there b o e hx;exact there b o' (neC b o e hx) e1
 ·obtain⟨m1,e1⟩:=I.base.tbls b ps e;obtain⟨m2,e2⟩:=tbls b _ e1;exact⟨m1++m2,by rw[e2,Array.append_assoc]⟩
 ·obtain⟨m,hn,hl⟩:=I.loc;refine⟨m,ns m hn,λi x v e1 e2 e3=>?_⟩;obtain⟨u,r,l⟩:=hl i x v e1 e2 e3;refine⟨u,r,?_⟩;rcases l with l | ⟨k,c,e,z⟩
  ·exact .inl l
  ·exact .inr ⟨k,c,e,cellK x c e _ z⟩
 ·obtain⟨v,z⟩:=I.cell x c e;exact⟨v,cellK x c e v z⟩
 ·obtain⟨m,⟨o,_,_,ho,_⟩,_⟩:=I.loc;exact free _ o (λz=>(hch _ z).2.1 rfl) ho I.free
 ·obtain⟨v,o,ho,hd⟩:=I.cell x c e;exact free c o (λz=>(hch c z).2.2.1 x c e rfl) ho (I.freeC x c e)
 ·obtain⟨e,n,ne,nf,d⟩:=I.pin p hp;have nch:p.1∉ch:=λz=>(hch p.1 z).2.2.2 p hp rfl
  exact⟨keep p.1 p.2 ne nf nch e n,free p.1 p.2 nch e n,ne,nf,d⟩
theorem Inv.un{t':Nat}(I:Inv X pins σ H s)(u:Un X.fs [] H H' s.heap h')(hok:nJ X.prog X.w H' h'):Inv X pins σ H' {s with heap:=h',toks:=t'}:=by
 obtain⟨m,⟨o,es,ep,ho,r⟩,_⟩:=id I.loc;obtain⟨sl,hL⟩:=u.any ho I.free (by simp)
 exact I.step (g':=s.gens) (d':=s.drawn) (ch:=[]) (λ_ z=>nomatch z) (λb o _ hb _ e n=>u.keep b o e n hb (by simp)) (λb o _ hb _ e n=>u.slot b o e n hb (by simp)) (λb o _ e n=>u.free b o e n (by simp)) (λb o _ e=>u.there b o e (by simp)) u.tups u.eM u.tbls (λm' hm=>by
  obtain⟨o',es',ep',ho',r'⟩:=hm;rw[ho]at ho';cases ho';exact⟨_,es',ep',hL,r'⟩) hok I.bare
theorem Inv.call{g':Array GenState}{t':Nat}{d':Drawn}{ch:List Addr}(I:Inv X pins σ H s)(u:Un (p9 X.stack) ch H H' s.heap h')(hok:nJ X.prog X.w H' h')(hg:AllBare g')
  (hch:∀b∈ch,(b∈X.ex∨X.s₀.heap.objs.size<=b)/\b≠X.env.locals/\(∀x c,X.env.cells.lookup x=some c->c≠b)/\∀p∈X.pn++pins,p.1≠b) :
  Inv X pins σ H' {s with heap:=h',gens:=g',drawn:=d',toks:=t'}:=by
 obtain⟨m,⟨o,es,ep,ho,r⟩,_⟩:=id I.loc;obtain⟨sl,hL⟩:=u.any ho I.free λz=>(hch _ z).2.1 rfl
 exact I.step (ch:=ch) hch (λb o hL hb hc e n=>u.keep b o e n (λz=>(aap.mp (I.zr b z)).elim hL hb) hc) (λb o _ _ hc e n=>u.any e n hc) (λb o hc e n=>u.free b o e n hc) (λb o hc e=>u.there b o e hc) u.tups u.eM u.tbls (λm' hm=>by
  obtain⟨o',es',ep',ho',r'⟩:=hm;rw[ho]at ho';cases ho';exact⟨_,es',ep',hL,r'⟩) hok hg
theorem Inv.turned{t':Nat}{it:Addr}(I:Inv X pins σ H s)(k:∀b o,b≠it->s.heap.get? b=some o->h'.get? b=some o)(hn:H it=none)(hL:it≠X.env.locals)
  (h1:it∈X.ex∨X.s₀.heap.objs.size<=it) (h2:∀x c,X.env.cells.lookup x=some c->c≠it) (h3:∀p∈X.pn++pins,p.1≠it):Inv X pins σ H {s with heap:=h',toks:=t'}:=by
 have nit:∀b u,H b=some u->b≠it:=λb u e z=>by rw[z,hn]at e;cases e
 refine I.step (g':=s.gens) (d':=s.drawn) (ch:=[it]) (λb hb=>?_) (λb o _ _ hc e _=>k b o (λz=>hc (by simp[z])) e) (λb o _ _ hc e _=>⟨o.slots,k b o (λz=>hc (by simp[z])) e⟩) (λ_ _ _ _ n=>n)
  (λb o hc e=>⟨o,k b o (λz=>hc (by simp[z])) e⟩) (λ_ _ e=>e) (λ_ _ _ e=>e) (λb ps e=>⟨#[],by rw[e];simp⟩) (λm hm=>?_) (λb u e=>?_) I.bare
 ·have e:b=it:=by simpa using hb
  subst e;exact⟨h1,hL,h2,h3⟩
 ·obtain⟨o,es,ep,ho,r⟩:=hm;exact⟨o,es,ep,k _ o (ab3 hL) ho,r⟩
 ·refine(I.hok b u e).tQ (λc v hc q=>k c v ?_ q) (λ_ q=>q) λ_ _ q=>q
  rcases hc with z | z
  ·rw[z];exact nit b u e
  ·exact nit c _ z
theorem Inv.tok(I:Inv X pins σ H s)(t:Nat):Inv X pins σ H {s with toks:=t}:=I.un (h':=s.heap) (t':=t) Un.refl I.hok
theorem Inv.kept{t':Nat}(I:Inv X pins σ H s)(k:∀b u,s.heap.get? b=some u->h'.get? b=some u):Inv X pins σ H {s with heap:=h',toks:=t'}:=I.un (Un.kept k) (I.hok.kept k)
theorem Inv.laid{a:Addr}{o:HO}{t':Nat}(I:Inv X pins σ H s)(k:∀b u,s.heap.get? b=some u->h'.get? b=some u)(hp:s.heap.objs.size<=a)(new:dU X.prog X.w (upd H a o) h' a o):
  Inv X pins σ (upd H a o) {s with heap:=h',toks:=t'}:=I.un (Un.laid k hp (I.hok.fresh hp)) (I.hok.laid k hp new)
theorem Inv.write{x e:Addr}{o:HO}{t':Nat}(I:Inv X pins σ H s)(mu:UM (H x))(he:e=x∨H e=some (.own x))(k:∀b u,b≠e->s.heap.get? b=some u->h'.get? b=some u)(heo:∃u,h'.get? e=some u)
  (new:dU X.prog X.w (upd H x o) h' x o):Inv X pins σ (upd H x o) {s with heap:=h',toks:=t'}:=I.un (Un.write mu he k heo) (I.hok.write mu he k heo new)
theorem Inv.weak{σ':List (Option V)}(I:Inv X pins σ H s)(hl:σ'.length=σ.length)(w:∀(i:Nat) v,σ'[i]?=some (some v)->σ[i]?=some (some v)):Inv X pins σ' H s :=
 ⟨I.ok,I.os,I.bare,I.base,let ⟨m,hn,hl'⟩:=I.loc;⟨m,hn,λi x v e1 e2 e3=>hl' i x v e1 (w i v e2) e3⟩,I.cell,I.free,I.freeC,I.pin,I.hok,hl.trans I.len⟩
theorem Inv.Bb{pins':List (Addr×Obj)}(I:Inv X pins σ H s)(h:∀p∈pins',s.heap.get? p.1=some p.2/\H p.1=none/\p.1≠X.env.locals/\p.1∉X.fs/\∀v,p.2.data≠.cell v):Inv X pins' σ H s :=
 ⟨I.ok,I.os,I.bare,I.base,I.loc,I.cell,I.free,I.freeC,λp hp=>(aaE.mp hp).elim (λz=>I.pin p (abV _ z)) (h p),I.hok,I.len⟩
theorem rD{N:List Str}(hN:N.Nodup){i j:Nat}{x:Str}(a:N[i]?=some x)(b:N[j]?=some x):i=j:=by
 obtain⟨h1,e1⟩:=bX a;obtain⟨h2,e2⟩:=bX b;exact(List.getElem_inj hN).mp (e1.trans e2.symm)
theorem pd{M:Model}{A:Around}{E:Value->Shared->Prop}{i:Nat}{x:Str}{v:V}{u:Value}{Q:Unit->Shared->Prop}(I:Inv X pins σ H s)(hN:X.N.Nodup)(hi:X.N[i]?=some x)(hx:Loc X.env.scope x)(r:RelV v u)
  (h:∀s',Inv X pins (σ.set i (some v)) H s'->(∃a,Heap.SameBut a s.heap s'.heap/\(a=X.env.locals∨X.env.cells.lookup x=some a))->Q () s') (hf:X.fn x=true∨X.env.scope.names.lookup x=some .local:=by first | exact .inl rfl | exact .inr rfl | assumption):wpAny M A (storeName X.env x u) Q E s:=by
 obtain⟨m,hn,hl⟩:=id I.loc;have hcls:(X.env.scope.kind == .class||(X.env.scope.kind == .module&&X.env.locals != X.env.globals))=false:=by rw[I.ok.kind];rfl
 have hiσ:i < σ.length:=by rw[I.len];exact(bX hi).1
 have Jd:=I.Jd
 have tracked:∀{a:Addr} {h':Heap},(∃o,s.heap.get? a=some o/\H a=none)->Heap.SameBut a s.heap h'->nJ X.prog X.w H h':=λ{a h'} ha hs b ob e=>by
  obtain⟨_,_,hfree⟩:=ha;refine(I.hok b ob e).tQ (λc w' hc q=>(hs.2 c ?_).trans q) (λ_ q=>q) λ_ _ q=>q
  rintro rfl;rcases hc with rfl | hc
  ·rw[hfree]at e;cases e
  ·rw[hfree]at hc;cases hc
 rcases hx with hk | hk
 ·refine wpAny_storeName_local hk hn (λh' hn' hs=>?_) hcls;obtain⟨oL,_,_,hoL,_⟩:=id hn;refine h _ ⟨I.ok,I.os,I.bare,⟨λb o e n hb hx=>?_,λb o e n hb hx=>?_,I.base.free,λb o e hx=>?_,I.base.tups,I.base.eM,I.base.tbls⟩,⟨_,hn',λj y v' e1 e2 e3=>?_⟩,λy c e=>?_,I.free,I.freeC,λp hp=>?_,tracked ⟨oL,hoL,I.free⟩ hs,by simpa using I.len⟩ ⟨_,hs,.inl rfl⟩
  ·exact(hs.2 b (aam (aal (aah e) I.ok.above))).trans (I.base.keep b o e n hb hx)
  ·obtain⟨sl,e1⟩:=I.base.slot b o e n hb hx;exact⟨sl,(hs.2 b (aam (aal (aah e) I.ok.above))).trans e1⟩
  ·obtain⟨o',e1⟩:=I.base.there b o e hx;exact⟨o',(hs.2 b (aam (aal (aah e) I.ok.above))).trans e1⟩
  ·by_cases hj:j=i
   ·subst hj;rw[hi]at e1;cases e1;rw[List.getElem?_set_self hiσ]at e2;cases e2;exact⟨u,r,.inl ⟨hk,by simp⟩⟩
   ·rw[aat (ab3 hj)]at e2;obtain⟨u',r',q⟩:=hl j y v' e1 e2 e3;refine⟨u',r',?_⟩;rcases q with⟨k,e⟩ | ⟨k,c,e,z⟩
    ·refine .inl ⟨k,?_⟩;have:y≠x:=λe=>hj (rD hN e1 (e ▸ hi))
     simp[this,e]
    ·exact .inr ⟨k,c,e,z.sameBut hs (Jd y c e)⟩
  ·obtain⟨w',z⟩:=I.cell y c e;exact⟨w',z.sameBut hs (Jd y c e)⟩
  ·obtain⟨e,n,ne,nf,d⟩:=I.pin p hp;exact⟨(hs.2 p.1 ne).trans e,n,ne,nf,d⟩
 ·have hfn:X.fn x=true:=by
   rcases hf with z | z
   ·exact z
   ·rw[z]at hk;cases hk
  obtain⟨c,hc⟩:=I.ok.has x (.inl hk);obtain⟨w',z⟩:=I.cell x c hc;refine wpAny_storeName_cell I.ok.kind hk hc z (λh' hc' hs=>?_);obtain⟨oc,hoc,hocd⟩:=id z;refine h {s with heap:=h'} ⟨I.ok,I.os,I.bare,⟨λb o e n hb hx=>?_,λb o e n hb hx=>?_,I.base.free,λb o e hx=>?_,I.base.tups,I.base.eM,I.base.tbls⟩,⟨m,hn.sameBut hs (Ne.symm (Jd x c hc)),λj y v' e1 e2 e3=>?_⟩,λy c' e=>?_,I.free,I.freeC,λp hp=>?_,tracked ⟨oc,hoc,I.freeC x c hc⟩ hs,by simpa using I.len⟩ ⟨c,hs,.inr hc⟩
  ·exact(hs.2 b (aam (aal (aah e) (I.ok.cab x c hfn hc)))).trans (I.base.keep b o e n hb hx)
  ·obtain⟨sl,e1⟩:=I.base.slot b o e n hb hx;exact⟨sl,(hs.2 b (aam (aal (aah e) (I.ok.cab x c hfn hc)))).trans e1⟩
  ·obtain⟨o',e1⟩:=I.base.there b o e hx;exact⟨o',(hs.2 b (aam (aal (aah e) (I.ok.cab x c hfn hc)))).trans e1⟩
  ·by_cases hj:j=i
   ·subst hj;rw[hi]at e1;cases e1;rw[aao hiσ]at e2;cases e2;exact⟨u,r,.inr ⟨.inl hk,c,hc,hc'⟩⟩
   ·rw[aat (ab3 hj)]at e2;obtain⟨u',r',q⟩:=hl j y v' e1 e2 e3;refine⟨u',r',?_⟩;rcases q with q | ⟨k,c',e,z'⟩
    ·exact .inl q
    ·refine .inr ⟨k,c',e,z'.sameBut hs ?_⟩;rintro rfl;exact hj (rD hN e1 (I.ok.inj _ _ _ e hc ▸ hi))
  ·by_cases hcc:c'=c
   ·subst hcc;exact⟨_,hc'⟩
   ·obtain⟨w2,z2⟩:=I.cell y c' e;exact⟨w2,z2.sameBut hs hcc⟩
  ·obtain⟨e,n,ne,nf,d⟩:=I.pin p hp;refine⟨(hs.2 p.1 ?_).trans e,n,ne,nf,d⟩;intro q;rw[q,hoc]at e;have q':oc=p.2:=aax e;exact d w' (by rw[← q'];exact hocd)
theorem rE{M:Model}{A:Around}{E:Value->Shared->Prop}{i:Nat}{x:Str}{v:V}{u:Value}{Q:Unit->Shared->Prop}(I:Inv X pins σ H s)(hN:X.N.Nodup)(hi:X.N[i]?=some x)(hx:Loc X.env.scope x)(r:RelV v u)
  (h:∀s',Inv X pins (σ.set i (some v)) H s'->Q () s') (hf:X.fn x=true∨X.env.scope.names.lookup x=some .local:=by first | exact .inl rfl | exact .inr rfl | assumption):wpAny M A (storeName X.env x u) Q E s :=
 pd I hN hi hx r (λs' I' _=>h s' I') hf
theorem Inv.Mu{s':Shared}{ch:List Addr}(I:Inv X pins σ H s)(ho:s'.os=s.os)(u:Un (p9 X.stack) ch H H' s.heap s'.heap)(hok:nJ X.prog X.w H' s'.heap)(hg:AllBare s'.gens)
  (hch:∀b∈ch,(b∈X.ex∨X.s₀.heap.objs.size<=b)/\b≠X.env.locals/\(∀x c,X.env.cells.lookup x=some c->c≠b)/\∀p∈X.pn++pins,p.1≠b):Inv X pins σ H' s':=by
 obtain⟨h',g',d',t',o'⟩:=s';have e:o'=s.os:=ho;subst e;exact I.call (g':=g') (t':=t') (d':=d') u hok hg hch
end
abbrev XK:=Value->Option Addr->Hp->Prop
abbrev St:=List (Option V)
abbrev VK:=V->Hp->Prop
abbrev TE:=St->Hp->VK->Prop
abbrev TT:=St->Hp->(Bool->Hp->Prop)->Prop
abbrev TA:=St->Hp->(List V->Hp->Prop)->Prop
structure Ends where
 nx:St->Hp->Prop
 rt:VK
 bk:St->Hp->Prop:=λ_ _=>False
 ct:St->Hp->Prop:=λ_ _=>False
abbrev TS:=Ends->St->Hp->Prop
def EP(X:Cx)(pins:List (Addr×Obj))(σ:St)(Q:VK)(u:Value)(s':Shared):Prop:=∃v H',Inv X pins σ H' s'/\RelV v u/\Q v H'
def TP(X:Cx)(pins:List (Addr×Obj))(σ:St)(Q:Bool->Hp->Prop)(b:Bool)(s':Shared):Prop:=∃H',Inv X pins σ H' s'/\Q b H'
def AP(X:Cx)(pins:List (Addr×Obj))(σ:St)(Q:List V->Hp->Prop)(us:List Value)(s':Shared):Prop:=∃vs H',Inv X pins σ H' s'/\Vals vs us/\Q vs H'
def SP(X:Cx)(pins:List (Addr×Obj))(D:Ends)(f:Flow)(s':Shared):Prop :=
 match f with
 | .next=>∃σ' H',Inv X pins σ' H' s'/\D.nx σ' H'
 | .brk=>∃σ' H',Inv X pins σ' H' s'/\D.bk σ' H'
 | .cont=>∃σ' H',Inv X pins σ' H' s'/\D.ct σ' H'
 | .ret u=>∃v σ' H',Inv X pins σ' H' s'/\RelV v u/\D.rt v H'
def PE(X:Cx)(e:Expr)(t:TE):Prop :=
 ∀(pins:List (Addr×Obj)) (s:Shared) (σ:St) (H:Hp) (Q:VK),Inv X pins σ H s->t σ H Q->wpAny (model X.prog X.w) X.A (eval e X.env) (EP X pins σ Q) X.xe s
def PT(X:Cx)(e:Expr)(t:TT):Prop :=
 ∀(pins:List (Addr×Obj)) (s:Shared) (σ:St) (H:Hp) (Q:Bool->Hp->Prop),Inv X pins σ H s->t σ H Q->wpAny (model X.prog X.w) X.A (isTrue e X.env (eval e X.env)) (TP X pins σ Q) X.xe s
def PW(X:Cx)(e:Expr)(t:TT):Prop :=
 ∀(whole:Sem Value) (pins:List (Addr×Obj)) (s:Shared) (σ:St) (H:Hp) (Q:Bool->Hp->Prop),Inv X pins σ H s->t σ H Q->wpAny (model X.prog X.w) X.A (isTrue e X.env whole) (TP X pins σ Q) X.xe s
theorem PW.pt{X:Cx}{e:Expr}{t:TT}(h:PW X e t):PT X e t:=h _
def PA(X:Cx)(es:List Expr)(t:TA):Prop :=
 ∀(pos:Pos) (pins:List (Addr×Obj)) (s:Shared) (σ:St) (H:Hp) (Q:List V->Hp->Prop),Inv X pins σ H s->t σ H Q->wpAny (model X.prog X.w) X.A (spliced (backTo pos (starEach es X.env))) (AP X pins σ Q) X.xe s
def PS(X:Cx)(st:Stmt)(t:TS):Prop :=
 ∀(pins:List (Addr×Obj)) (s:Shared) (σ:St) (H:Hp) (D:Ends),Inv X pins σ H s->t D σ H->wpAny (model X.prog X.w) X.A (exec st X.env) (SP X pins D) X.xe s
def qD(X:Cx)(st:List Stmt)(t:TS):Prop :=
 ∀(pins:List (Addr×Obj)) (s:Shared) (σ:St) (H:Hp) (D:Ends),Inv X pins σ H s->t D σ H->wpAny (model X.prog X.w) X.A (execs st X.env) (SP X pins D) X.xe s
theorem cU{α:Type}{t:Sem α}{Q Q':α->Shared->Prop}{M:Model}{A:Around}{E:Value->Shared->Prop}{s:Shared}(h:wpAny M A t Q E s)(hQ:∀a s,Q a s->Q' a s):wpAny M A t Q' E s:=aaJ h hQ λ_ _ x=>x
section
variable {X:Cx}
inductive RD(i:Nat)(σ:St)(H:Hp)(Q:VK):Prop where
 | mk (v:V) (h:σ[i]?=some (some v)) (q:Q v H):RD i σ H Q
def NX(i:Nat):TE:=λσ H Q=>RD i σ H Q
def tC(v:V):TE:=λ_ H Q=>Q v H
theorem Ef{i:Nat}{x:Str}{pos:Pos}(hN:X.N[i]?=some x)(hv:UO X.env.scope x)(hd:(x == ("__debug__" : Str))=false:=by decide)(hcd:(x == ("__classdict__" : Str))=false:=by decide):PE X (.Name x pos) (NX i):=by
 intro pins s σ H Q I h;obtain⟨v,e,h⟩:=h;obtain⟨m,hn,hl⟩:=I.loc;obtain⟨u,r,l⟩:=hl i x v hN e hv;have fin:EP X pins σ Q u s:=⟨v,H,I,r,h⟩;rcases l with⟨hk,hm⟩ | ⟨hk,c,hc,hcell⟩
 ·exact wpAny_Name (wpAny_loadName_local I.ok.kind hk hn hm fin) hd
 ·rcases hk with hk | hk
  ·exact wpAny_Name (wpAny_loadName_cell I.ok.kind hk hc hcell fin) hd
  ·exact wpAny_Name (wpAny_loadName_free I.ok.kind hk hc hcell fin hcd) hd
theorem pI{i j pos}:PE X (.Constant (.int i) j pos) (tC (.int i)):=λ_ _ _ H _ I h=>wpAny_Constant_int ⟨.int i,H,I.tok _,⟨_,rfl⟩,h⟩
theorem xN{b j pos}:PE X (.Constant (.bool b) j pos) (tC (.bl b)):=λ_ _ _ H _ I h=>Constant_bool ⟨.bl b,H,I,rfl,h⟩
theorem kq{j pos}:PE X (.Constant .none j pos) (tC .non):=λ_ _ _ H _ I h=>Constant_none ⟨.non,H,I,rfl,h⟩
theorem ba{x j pos}:PE X (.Constant (.str x) j pos) (tC (.str x)):=λ_ _ _ H _ I h=>Calls.Constant_str ⟨.str x,H,I.tok _,⟨_,rfl⟩,h⟩
def Gl(X:Cx)(x:Str):Prop:=X.env.kindOf x=some .globalImplicit
theorem nM{E:Value->Shared->Prop}{pins:List (Addr×Obj)}{s:Shared}{σ:St}{H:Hp}{x:Str}{u:Value}{pos:Pos}{Q:Value->Shared->Prop}(I:Inv X pins σ H s)(hg:Gl X x)(hm:X.mg x=some u)(h:Q u s)
  (hd:(x == ("__debug__" : Str))=false:=by decide):wpAny (model X.prog X.w) X.A (eval (.Name x pos) X.env) Q E s :=
 ab8 I.ok.kind hg (Calls.loadGlobal_global (by rw[I.ok.glob];exact I.mod.glob.keeps I.bk) hm h) hd
theorem ju{E:Value->Shared->Prop}{pins:List (Addr×Obj)}{s:Shared}{σ:St}{H:Hp}{x:Str}{u:Value}{pos:Pos}{Q:Value->Shared->Prop}(I:Inv X pins σ H s)(hg:Gl X x)(hm:X.mg x=none)(hv:bootBuiltins x=some u)(h:Q u s)
  (hn:x≠"__name__":=by decide) (hd:(x == ("__debug__" : Str))=false:=by decide):wpAny (model X.prog X.w) X.A (eval (.Name x pos) X.env) Q E s:=by
 obtain⟨mb,h1,h2⟩:=I.mod.blt;exact ab8 I.ok.kind hg (Calls.loadGlobal_builtin (by rw[I.ok.glob];exact I.mod.glob.keeps I.bk) hm (by rw[I.ok.blt];exact h1.keeps I.bk) ((h2 x hn).trans hv) h) hd
theorem ik{x:Str}{v:V}{u:Value}{pos:Pos}(hg:Gl X x)(hm:X.mg x=some u)(r:RelV v u)(hd:(x == ("__debug__" : Str))=false:=by decide):PE X (.Name x pos) (tC v) :=
 λ_ _ _ H _ I h=>nM I hg hm ⟨v,H,I,r,h⟩ hd
theorem Bd{x:Str}{v:V}{u:Value}{pos:Pos}(hg:Gl X x)(hm:X.mg x=none)(hv:bootBuiltins x=some u)(r:RelV v u)(hn:x≠"__name__":=by decide)(hd:(x == ("__debug__" : Str))=false:=by decide):PE X (.Name x pos) (tC v) :=
 λ_ _ _ H _ I h=>ju I hg hm hv ⟨v,H,I,r,h⟩ hn hd
variable {a b:Expr} {ta tb:TE} {pos:Pos}
def PC(X:Cx)(op:CmpOp)(a b:Expr)(t:TE):Prop :=
 ∀(pins:List (Addr×Obj)) (s:Shared) (σ:St) (H:Hp) (Q:VK),Inv X pins σ H s->t σ H Q ->
  wpAny (model X.prog X.w) X.A (eval a X.env) (λv s₁=>wpAny (model X.prog X.w) X.A (eval b X.env) (λu s₂=>wpAny (model X.prog X.w) X.A (compareOp op v u) (EP X pins σ Q) X.xe s₂) X.xe s₁) X.xe s
theorem Eg(b:Expr){op:CmpOp}(h:op≠.In)(h2:op≠.NotIn):behindInMarks op b=false:=by
 have e1:(op == CmpOp.In)=false:=by cases op<;>first | rfl | exact absurd rfl h
 have e2:(op == CmpOp.NotIn)=false:=by cases op<;>first | rfl | exact absurd rfl h2
 cases b<;>simp[behindInMarks,e1,e2]
inductive UP(x:V)(H:Hp)(Q:Bool->Hp->Prop):Prop where
 | mk (c:Bool) (e:x=.bl c) (q:Q c H):UP x H Q
def tB(t:TE):TT:=λσ H Q=>t σ H λx H1=>UP x H1 Q
theorem NY{op:CmpOp}{t:TE}(h:PC X op a b t)(h1:behindInMarks op b=false:=by first | exact Eg _ (by decide) (by decide) | rfl):PT X (.Compare a [op] [b] pos) (tB t):=by
 intro pins s σ H Q I hw;refine wpAny_isTrue_Compare1 (cU (h pins s σ H _ I hw) λv s1 h1=>cU h1 λu s2 h2=>cU h2 λc s3 ⟨x,H1,I1,r1,q1⟩=>?_) h1;obtain⟨d,rfl,q⟩:=q1;cases r1;exact abb ⟨H1,I1,q⟩
theorem Eh{e:Expr}{t:TE}(h:PE X e t)(he:∀whole,isTrue e X.env whole=(do let v ← whole;standAt e.pos;holding [v] (truthy v)):=by intro _;rfl):PT X e (tB t):=by
 intro pins s σ H Q I hw;refine isTrue_plain (cU (h pins s σ H _ I hw) λv s1 ⟨x,H1,I1,r1,q1⟩=>?_) (he _);obtain⟨d,rfl,q⟩:=q1;cases r1;exact abb ⟨H1,I1,q⟩
variable {tA tB':TT} {rest:List Expr}
def RE(t u:TT):TT:=λσ H Q=>t σ H λc H1=>if c=true then u σ H1 Q else Q false H1
def XS(t u:TT):TT:=λσ H Q=>t σ H λc H1=>if c=true then Q true H1 else u σ H1 Q
def Vn(t:TT):TT:=λσ H Q=>t σ H λc H1=>Q (!c) H1
theorem pw_and1(ha:PT X a tA):PW X (.BoolOp .And [a] pos) tA:=by
 intro wh pins s σ H Q I h;refine isTrue_and (cU (ha pins s σ H Q I h) λc s1 e=>?_)
 cases c with
 | true=>exact isTrue_and_nil e
 | false=>exact e
theorem pw_or1(ha:PT X a tA):PW X (.BoolOp .Or [a] pos) tA:=by
 intro wh pins s σ H Q I h;refine isTrue_or (cU (ha pins s σ H Q I h) λc s1 e=>?_)
 cases c with
 | false=>exact isTrue_or_nil e
 | true=>exact e
theorem pw_and(ha:PT X a tA)(hb:PW X (.BoolOp .And (b::rest) pos) tB'):PW X (.BoolOp .And (a::b::rest) pos) (RE tA tB'):=by
 intro wh pins s σ H Q I h;refine isTrue_and (cU (ha pins s σ H _ I h) λc s1 ⟨H1,I1,q1⟩=>?_)
 cases c with
 | true=>exact hb wh pins s1 σ H1 Q I1 q1
 | false=>exact⟨H1,I1,q1⟩
theorem pw_or(ha:PT X a tA)(hb:PW X (.BoolOp .Or (b::rest) pos) tB'):PW X (.BoolOp .Or (a::b::rest) pos) (XS tA tB'):=by
 intro wh pins s σ H Q I h;refine isTrue_or (cU (ha pins s σ H _ I h) λc s1 ⟨H1,I1,q1⟩=>?_)
 cases c with
 | true=>exact⟨H1,I1,q1⟩
 | false=>exact hb wh pins s1 σ H1 Q I1 q1
theorem Ei(ha:PT X a tA):PT X (.UnaryOp .Not a pos) (Vn tA):=by
 intro pins s σ H Q I h;exact isTrue_not (ha pins s σ H (λc H1=>Q (!c) H1) I h)
def RF(ta tb:TE):TE:=λσ H Q=>ta σ H λx H1=>∃c,x=.bl c/\if c=true then tb σ H1 Q else Q (.bl false) H1
def RG(ta:TE):TE:=λσ H Q=>ta σ H λx H1=>∃c,x=.bl c/\Q (.bl (!c)) H1
theorem Ej{op}{t:TE}(h:PE X a t):PE X (.BoolOp op [a] pos) t:=λpins s σ H Q I hw=>BoolOp_one (h pins s σ H Q I hw)
theorem Ek(ha:PE X a ta)(hb:PE X (.BoolOp .And (b::rest) pos) tb):PE X (.BoolOp .And (a::b::rest) pos) (RF ta tb):=by
 intro pins s σ H Q I h;refine BoolOp_and (cU (ha pins s σ H _ I h) λv s1 ⟨x,H1,I1,r1,q1⟩=>?_);obtain⟨c,rfl,q1⟩:=q1;cases r1;refine abb ?_
 cases c with
 | true=>exact hb pins s1 σ H1 Q I1 q1
 | false=>exact⟨.bl false,H1,I1,rfl,q1⟩
theorem NZ(ha:PE X a ta):PE X (.UnaryOp .Not a pos) (RG ta):=by
 intro pins s σ H Q I h;refine UnaryOp_ (cU (ha pins s σ H _ I h) λv s1 ⟨x,H1,I1,r1,q1⟩=>?_);obtain⟨c,rfl,q1⟩:=q1;cases r1;exact not_of (abb ⟨.bl (!c),H1,I1,rfl,q1⟩)
end
def cG(K:aC)(H:Hp)(a:Addr)(xs:List V):Prop :=
 Rd H a (.lst xs) ∨
  ∃(o:Obj) (its:Array Value) (n:Nat),K.lookup a=some o/\o.cls=.type "list"/\o.dict=none/\o.data=.seq its n/\its.size<=sizeLine/\Vals xs its.toList
def bz(K:aC)(H:Hp)(a:Addr)(xs:List V):Prop :=
 Rd H a (.tup xs) ∨
  ∃(o:Obj) (its:Array Value) (n:Nat),K.lookup a=some o/\o.cls=.type "tuple"/\o.data=.seq its n/\its.size<=sizeLine/\Vals xs its.toList
def Vo:Value->Option V
 | .none=>some .non
 | .bool b=>some (.bl b)
 | .int i _=>some (.int i)
 | .str x _=>some (.str x)
 | .bytes b _=>some (.byt b)
 | .float b _=>some (.flt b)
 | .ref a=>some (.ref a)
 | .type n=>some (.ty n)
 | _=>none
theorem RelV.abs{x:V}{u:Value}(r:RelV x u):Vo u=some x:=by
 cases x with
 | non=>cases r;rfl
 | bl _=>cases r;rfl
 | int _=>obtain⟨t,rfl⟩:=r;rfl
 | str _=>obtain⟨t,rfl⟩:=r;rfl
 | byt _=>obtain⟨t,rfl⟩:=r;rfl
 | flt _=>obtain⟨t,rfl⟩:=r;rfl
 | ref _=>cases r;rfl
 | ty _=>cases r;rfl
theorem RelV.inj{x y:V}{u:Value}(r:RelV x u)(q:RelV y u):x=y:=aax (r.abs.symm.trans q.abs)
theorem Vals.inj:∀{xs ys:List V} {us:List Value},Vals xs us->Vals ys us->xs=ys
 | _,_,_,.nil,.nil=>rfl
 | _,_,_,.cons r t,.cons r' t'=>by rw[r.inj r',Vals.inj t t']
section
variable {X:Cx} {pins:List (Addr×Obj)} {σ:St} {H:Hp} {s:Shared} {a:Addr} {xs ys:List V}
theorem cG.of{K:aC}(h:H a=some (.lst xs)):cG K H a xs:=.inl (.inl h)
theorem bz.of{K:aC}(h:H a=some (.tup xs)):bz K H a xs:=.inl (.inl h)
theorem Inv.list(I:Inv X pins σ H s)(h:cG X.K H a xs):∃its:List Value,Vals xs its/\PlainL s.heap a its.toArray/\xs.length<=sizeLine:=by
 rcases h with h | ⟨o,its,n,hk,hc,hd,hs,hz,r⟩
 ·obtain⟨z,its,n,r,e⟩:=h.ok I.hok;exact⟨its,r,⟨_,n,e,rfl,rfl,rfl⟩,z⟩
 ·refine⟨its.toList,r,⟨o,n,I.nK a o hk,hc,hd,by simpa using hs⟩,?_⟩;have e:=r.length;simp only[Array.length_toList]at e;omega
theorem Inv.tuple(I:Inv X pins σ H s)(h:bz X.K H a xs):∃its:List Value,Vals xs its/\IsTup s.heap a its.toArray/\xs.length<=sizeLine:=by
 rcases h with h | ⟨o,its,n,hk,hc,hs,hz,r⟩
 ·obtain⟨z,its,r,p⟩:=h.ok I.hok;exact⟨its,r,p,z⟩
 ·refine⟨its.toList,r,⟨o,I.nK a o hk,hc,n,by simpa using hs⟩,?_⟩;have e:=r.length;simp only[Array.length_toList]at e;omega
theorem Inv.El(I:Inv X pins σ H s)(h:cG X.K H a xs)(h':cG X.K H a ys):xs=ys:=by
 obtain⟨its,r,⟨o,n,e,_,_,d⟩,_⟩:=I.list h;obtain⟨its',r',⟨o',n',e',_,_,d'⟩,_⟩:=I.list h';rw[e]at e';cases e';rw[d]at d'
 injection d' with d1 _
 have:its=its':=by simpa using congrArg Array.toList d1
 subst this;exact r.inj r'
theorem Inv.Cs(I:Inv X pins σ H s)(h:bz X.K H a xs)(h':bz X.K H a ys):xs=ys:=by
 obtain⟨its,r,⟨o,e,_,n,d⟩,_⟩:=I.tuple h;obtain⟨its',r',⟨o',e',_,n',d'⟩,_⟩:=I.tuple h';rw[e]at e';cases e';rw[d]at d'
 injection d' with d1 _
 have:its=its':=by simpa using congrArg Array.toList d1
 subst this;exact r.inj r'
end
abbrev Cx.mU(X:Cx)(E:Value->Shared->Prop):Cx:={X with xe:=E}
abbrev Cx.UQ(X:Cx):Cx:=X.mU λ_ _=>False
theorem Cx.Ok.mU{X:Cx}(ok:X.Ok)(E:Value->Shared->Prop):(X.mU E).Ok :=
 ⟨ok.mod,ok.kind,ok.glob,ok.blt,ok.above,ok.inj,ok.has,ok.cab,ok.hd,ok.frames,ok.stk,ok.exf,ok.bs,ok.bsz,ok.noex,ok.exfs,ok.oZ,ok.frf⟩
theorem Cx.Ok.jv{X:Cx}{E:Value->Shared->Prop}(ok:(X.mU E).Ok):X.Ok :=
 ⟨ok.mod,ok.kind,ok.glob,ok.blt,ok.above,ok.inj,ok.has,ok.cab,ok.hd,ok.frames,ok.stk,ok.exf,ok.bs,ok.bsz,ok.noex,ok.exfs,ok.oZ,ok.frf⟩
section
variable {X:Cx} {pins:List (Addr×Obj)} {σ:St} {H:Hp} {s:Shared} {E:Value->Shared->Prop}
theorem Inv.mU(I:Inv X pins σ H s)(E:Value->Shared->Prop):Inv (X.mU E) pins σ H s:=⟨I.ok.mU E,I.os,I.bare,I.base,I.loc,I.cell,I.free,I.freeC,I.pin,I.hok,I.len⟩
theorem Inv.jv(I:Inv (X.mU E) pins σ H s):Inv X pins σ H s:=⟨I.ok.jv,I.os,I.bare,I.base,I.loc,I.cell,I.free,I.freeC,I.pin,I.hok,I.len⟩
theorem SP.jv{D:Ends}{f:Flow}{s':Shared}(h:SP (X.mU E) pins D f s'):SP X pins D f s':=by
 cases f with
 | next=>obtain⟨σ',H',I,q⟩:=h;exact⟨σ',H',I.jv,q⟩
 | brk=>obtain⟨σ',H',I,q⟩:=h;exact⟨σ',H',I.jv,q⟩
 | cont=>obtain⟨σ',H',I,q⟩:=h;exact⟨σ',H',I.jv,q⟩
 | ret u=>obtain⟨v,σ',H',I,r,q⟩:=h;exact⟨v,σ',H',I.jv,r,q⟩
theorem qD.UQ{st:List Stmt}{t:TS}(h:qD X.UQ st t):qD X st t:=λpins s σ H D I hw =>
 aaJ (h pins s σ H D (I.mU _) hw) (λ_ _ q=>q.jv) λ_ _ z=>False.elim z
end
section
variable {X:Cx} {st:Stmt} {rest:List Stmt} {t u:TS} {e:Expr} {te:TE} {pos:Pos}
def kr:TS:=λD σ H=>D.nx σ H
def Je(t u:TS):TS:=λD σ H=>t {D with nx:=u D} σ H
theorem aT:qD X [] kr:=λ_ _ σ H _ I h=>abh ⟨σ,H,I,h⟩
theorem qK(h1:PS X st t)(h2:qD X rest u):qD X (st::rest) (Je t u):=by
 intro pins s σ H D I h;refine ach (cU (h1 pins s σ H {D with nx:=u D} I h) λf s1 q=>?_)
 cases f with
 | next =>
  obtain⟨σ',H',I',q⟩:=q;exact h2 pins s1 σ' H' D I' q
 | ret v=>exact q
 | brk=>exact q
 | cont=>exact q
theorem qO(h1:PS X st t):qD X [st] t:=by
 intro pins s σ H D I h;refine ach (cU (h1 pins s σ H D I h) λf s1 q=>?_)
 cases f with
 | next=>exact abh q
 | ret v=>exact q
 | brk=>exact q
 | cont=>exact q
theorem Inv.quiet{pins:List (Addr×Obj)}{σ:St}{H:Hp}{s:Shared}(I:Inv X pins σ H s):interactive X.env=false:=by simp[interactive,I.ok.kind]
def RH(te:TE):TS:=λD σ H=>te σ H λ_ H1=>D.nx σ H1
theorem vD(he:PE X e te)(hs:swapsWith e none pos.line X.env=pure false:=by rfl):PS X (.Expr e pos) (RH te):=by
 intro pins s σ H D I h;exact wpAny_Expr_any (cU (he pins s σ H _ I h) λv s1 ⟨x,H1,I1,r1,q1⟩=>⟨σ,H1,I1,q1⟩) I.quiet hs
def Vp(te:TE):TS:=λD σ H=>te σ H D.rt
theorem aQ(he:PE X e te):PS X (.Return (some e) pos) (Vp te):=by
 intro pins s σ H D I h;exact wpAny_Return_some (cU (he pins s σ H _ I h) λv s1 ⟨x,H1,I1,r1,q1⟩=>⟨x,σ,H1,I1,r1,q1⟩)
def Vq(c:TT)(t u:TS):TS:=λD σ H=>c σ H λb H1=>if b=true then t D σ H1 else u D σ H1
theorem bS{c:Expr}{a b:List Stmt}{tc:TT}(hc:PT X c tc)(ha:qD X a t)(hb:qD X b u):PS X (.If c a b pos) (Vq tc t u):=by
 intro pins s σ H D I h;refine wpAny_If (cU (hc pins s σ H _ I h) λd s1 ⟨H1,I1,q1⟩=>?_)
 cases d with
 | true=>exact ha pins s1 σ H1 D I1 q1
 | false=>exact hb pins s1 σ H1 D I1 q1
def N0:TS:=λ_ _ _=>False
theorem fG:PS X st N0:=λ_ _ _ _ _ _ h=>h.elim
end
abbrev TG:=V->St->Hp->(St->Hp->Prop)->Prop
abbrev Ct:=List V->St->Hp->(St->Hp->Prop)->Prop
def PG(X:Cx)(target:Expr)(t:TG):Prop :=
 ∀(pins:List (Addr×Obj)) (s:Shared) (σ:St) (H:Hp) (v:V) (u:Value) (Q:St->Hp->Prop),Inv X pins σ H s->RelV v u->t v σ H Q ->
  wpAny (model X.prog X.w) X.A (assign target X.env u) (λ_ s'=>∃σ' H',Inv X pins σ' H' s'/\Q σ' H') X.xe s
def RJ(X:Cx)(ts:List Expr)(t:Ct):Prop :=
 ∀(pins:List (Addr×Obj)) (s:Shared) (σ:St) (H:Hp) (vs:List V) (us:List Value) (Q:St->Hp->Prop),Inv X pins σ H s->Vals vs us->t vs σ H Q ->
  wpAny (model X.prog X.w) X.A (assignInOrder ((assignEach ts X.env).map (·.2)) us) (λ_ s'=>∃σ' H',Inv X pins σ' H' s'/\Q σ' H') X.xe s
abbrev N1:=V->V->V->Hp->(Hp->Prop)->Prop
def RK(X:Cx)(t:N1):Prop :=
 ∀(pins:List (Addr×Obj)) (s:Shared) (σ:St) (H:Hp) (o i v:V) (ov iv u:Value) (Q:Hp->Prop),Inv X pins σ H s->RelV o ov->RelV i iv->RelV v u->t o i v H Q ->
  wpAny (model X.prog X.w) X.A (setItem ov iv u) (λ_ s'=>∃H',Inv X pins σ H' s'/\Q H') X.xe s
section
variable {X:Cx} {pos:Pos}
def gH(i:Nat):TG:=λv σ H Q=>Q (σ.set i (some v)) H
theorem cL{i:Nat}{x:Str}(hN:X.N.Nodup)(hi:X.N[i]?=some x)(hx:Loc X.env.scope x)(hf:X.fn x=true∨X.env.scope.names.lookup x=some .local:=by first | exact .inl rfl | exact .inr rfl | assumption):PG X (.Name x pos) (gH i):=by
 intro pins s σ H v u Q I r h;exact wpAny_assign_Name (rE I hN hi hx r (λs' I'=>⟨_,H,I',h⟩) hf)
def N2:Ct:=λvs σ H Q=>vs=[]/\Q σ H
def Em(t:TG)(u:Ct):Ct:=λvs σ H Q=>∃v r,vs=v::r/\t v σ H λσ' H'=>u r σ' H' Q
theorem vE:RJ X [] N2:=by
 intro pins s σ H vs us Q I r h;obtain⟨e,h⟩:=h;subst e;cases r;exact assignInOrder_nil ⟨σ,H,I,h⟩
theorem ky{e:Expr}{es:List Expr}{t:TG}{u:Ct}(h1:PG X e t)(h2:RJ X es u)
  (hs:(assignEach (e::es) X.env).map (·.2)=assign e X.env::(assignEach es X.env).map (·.2):=by rfl):RJ X (e::es) (Em t u):=by
 intro pins s σ H vs us Q I r h;obtain⟨v,vr,e1,h⟩:=h;subst e1
 cases r with
 | cons r rr =>
  rw[hs];refine assignInOrder_cons (cU (h1 pins s σ H _ _ _ I r h) λ_ s1 ⟨σ1,H1,I1,q1⟩=>?_);exact h2 pins s1 σ1 H1 _ _ Q I1 rr q1
def Jf(K:aC)(n:Nat)(t:Ct):TG:=λv σ H Q=>∃a xs,v=.ref a/\bz K H a xs/\xs.length=n/\t xs σ H Q
theorem zt{es:List Expr}{k:Nat}{t:Ct}{n:Nat}(hc:X.calm=true)(h:RJ X es t)
  (hn:(assignEach es X.env).length=n:=by rfl) (hst:(assignEach es X.env).findIdx? (·.1)=none:=by rfl):PG X (.Tuple es k pos) (Jf X.K n t):=by
 intro pins s σ H v u Q I r hw;obtain⟨a,xs,e1,hq,hl,hw⟩:=hw;subst e1;cases r;obtain⟨its,rv,ht,hz⟩:=I.tuple hq;refine assign_Tuple_tuple (I.ok.hd hc) ht (by simp[hn,← hl,rv.length]) hst λh' hx=>?_
 have I1:Inv X pins σ H {s with heap:=h'}:=I.kept (t':=s.toks) λb o e=>hx b o (aam (aah e)) e
 exact h pins _ σ H xs _ Q I1 (by simpa using rv) hw
def RL(to ti:TE)(t:N1):TG:=λv σ H Q=>to σ H λo H1=>ti σ H1 λi H2=>t o i v H2 λH3=>Q σ H3
theorem vF{o i:Expr}{to ti:TE}{t:N1}(ho:PE X o to)(hi:PE X i ti)(hs:RK X t)
  (ha:∀v,assign (.Subscript o i pos) X.env v=(do
   let ov ← holding [v] (eval o X.env)
   let iv ← holding [v,ov] (eval i X.env)
   standAt pos
   holding [v,ov,iv] (setItem ov iv v)
   release [v,ov,iv] []):=by intro _;rfl):PG X (.Subscript o i pos) (RL to ti t):=by
 intro pins s σ H v u Q I r h;rw[ha];refine aae (abx (cU (ho pins s σ H _ I h) λov s1 ⟨x,H1,I1,r1,q1⟩=>?_));refine aae (abx (cU (hi pins s1 σ H1 _ I1 q1) λiv s2 ⟨y,H2,I2,r2,q2⟩=>?_));refine aae (abO (aae (abx (cU (hs pins s2 σ H2 x y v ov iv u _ I2 r1 r2 r q2) λ_ s3 ⟨H3,I3,q3⟩=>?_))));exact wpAny_release ⟨σ,H3,I3,q3⟩
def Jg(te:TE)(g:TG):TS:=λD σ H=>te σ H λx H1=>g x σ H1 D.nx
theorem vG{tg e:Expr}{te:TE}{g:TG}(he:PE X e te)(hg:PG X tg g)(hs:swapsWithSole [tg] e pos.line X.env=pure false:=by rfl)(hw:swappedStores [tg] e X.env=pure none:=by rfl)
  (h1:(assignEach [tg] X.env).map (·.2)=[assign tg X.env]:=by rfl):PS X (.Assign [tg] e pos) (Jg te g):=by
 intro pins s σ H D I h;refine wpAny_Assign_stores (cU (he pins s σ H _ I h) λv s1 ⟨x,H1,I1,r1,q1⟩=>?_) hs hw;rw[h1];exact cU (hg pins s1 σ H1 x v _ I1 r1 q1) λ_ s2 q=>q
theorem bf{i:Nat}{x:Str}{e:Expr}{te:TE}{pos':Pos}(hN:X.N.Nodup)(hi:X.N[i]?=some x)(hx:Loc X.env.scope x)(he:PE X e te)(hs:swapsWith e (some (.Name x pos')) pos.line X.env=pure false:=by rfl)(hf:X.fn x=true∨X.env.scope.names.lookup x=some .local:=by first | exact .inl rfl | exact .inr rfl | assumption):
  PS X (.Assign [.Name x pos'] e pos) (Jg te (gH i)):=by
 intro pins s σ H D I h;refine wpAny_Assign_Name (cU (he pins s σ H _ I h) λv s1 ⟨y,H1,I1,r1,q1⟩=>?_) hs;exact rE I1 hN hi hx r1 (λs2 I2=>⟨_,H1,I2,q1⟩) hf
end
section
variable {X:Cx} {pos:Pos}
def Eo(c:TT)(tb:TS):TS:=λD σ H=>∃W:Nat->St->Hp->Prop,(∃m,W m σ H)/\∀m σ H,W m σ H ->
 c σ H λb H1=>if b=true then ∃N:St->Hp->Prop,(∀σ' H',N σ' H'->∃m',m' < m/\W m' σ' H')/\tb {D with nx:=N,ct:=N,bk:=D.nx} σ H1 else D.nx σ H1
theorem xO{c:Expr}{body:List Stmt}{tc:TT}{tb:TS}(hp:PassesOwn (model X.prog X.w) X.A X.env X.xe)(hc:PT X c tc)(hb:qD X body tb):PS X (.While c body [] pos) (Eo tc tb):=by
 intro pins s σ H D I h;obtain⟨W,⟨m0,w0⟩,turn⟩:=h;refine wpAny_While (codeAny_whileLoop (λn s'=>∃σ' H',Inv X pins σ' H' s'/\W n σ' H') ?_ m0 ⟨σ,H,I,w0⟩);rintro n s1 ⟨σ1,H1,I1,w1⟩;refine aba hp (cU (hc pins s1 σ1 H1 _ I1 (turn n σ1 H1 w1)) λb s2 ⟨H2,I2,q2⟩=>?_)
 cases b with
 | true =>
  obtain⟨N,hN,q2⟩:=q2;rw[aan rfl];refine aba hp (cU (hb pins s2 σ1 H2 _ I2 q2) λf s3 q3=>?_)
  cases f with
  | next =>
   obtain⟨σ3,H3,I3,n3⟩:=q3;obtain⟨m',hm,w3⟩:=hN σ3 H3 n3;exact⟨m',hm,σ3,H3,I3,w3⟩
  | cont =>
   obtain⟨σ3,H3,I3,n3⟩:=q3;obtain⟨m',hm,w3⟩:=hN σ3 H3 n3;exact⟨m',hm,σ3,H3,I3,w3⟩
  | brk=>exact q3
  | ret v=>exact q3
 | false =>
  rw[aak aai];exact abh ⟨σ1,H2,I2,q2⟩
end
structure It where
 go:Nat->Hp->Prop
 yld:Nat->Hp->V->Hp->Prop
 stop:Nat->Hp->Prop
def nO(X:Cx)(pins:List (Addr×Obj))(H:Hp)(b:Addr):Prop :=
 H b=none/\b≠X.env.locals/\b∉X.fs/\(b∈X.ex∨X.s₀.heap.objs.size<=b)/\(∀x c,X.env.cells.lookup x=some c->c≠b)/\∀p∈X.pn++pins,p.1≠b
theorem Inv.Cu{X:Cx}{pins:List (Addr×Obj)}{σ:St}{H H':Hp}{s:Shared}{b:Addr}(I:Inv X pins σ H s)(hb:s.heap.objs.size<=b)(hn:H' b=none):nO X pins H' b:=by
 refine⟨hn,aaZ (aal I.lt hb),I.Vm hb,.inr (aau I.sz hb),λx c e z=>?_,λp hp z=>?_⟩
 ·obtain⟨v,q⟩:=I.cell x c e;exact absurd (aal q.lt (by rw[z];exact hb)) (aa1 _)
 ·exact absurd (aal (aah (I.pin p hp).1) (by rw[z];exact hb)) (aa1 _)
structure Turn(P:Program)(w:World)(K:aC)(tg:Expr)(J:It)(fp:List Addr)(it:Addr)(tn:Nat->Heap->Prop):Prop where
 mem:it∈fp
 obj:∀i h,tn i h->∀b∈fp,∃o,h.get? b=some o/\∀v,o.data≠.cell v
 keep:∀i h h',tn i h->(∀b∈fp,∀o,h.get? b=some o->h'.get? b=some o)->tn i h'
 item:∀(X:Cx),X.prog=P->X.w=w->X.K=K->X.calm=true->∀(i:Nat) (pins:List (Addr×Obj)) (s:Shared) (σ:St) (H:Hp) (E:Value->Shared->Prop),Inv X pins σ H s->(∀b∈fp,nO X pins H b)->tn i s.heap->J.go i H ->
  wpAny (model P w) X.A (pyNext (.ref it)) (λr s1=>∃u,r=some u /\
   wpAny (model P w) X.A (letOwnedTupleGo tg (.ref it) u) (λ_ s2=>∃x H',Inv X pins σ H' s2/\RelV x u/\J.yld i H x H'/\tn (i + 1) s2.heap/\∀b∈fp,H' b=none) E s1) E s
 done:∀(X:Cx),X.prog=P->X.w=w->X.K=K->X.calm=true->∀(i:Nat) (pins:List (Addr×Obj)) (s:Shared) (σ:St) (H:Hp) (E:Value->Shared->Prop),Inv X pins σ H s->(∀b∈fp,nO X pins H b)->tn i s.heap->J.stop i H ->
  wpAny (model P w) X.A (pyNext (.ref it)) (λr s1=>r=none/\Inv X pins σ H s1) E s
 self:∀(A:Around) (i:Nat) (s:Shared) (Q:Value->Shared->Prop) (E:Value->Shared->Prop),tn i s.heap->Q (.ref it) s->wpAny (model P w) A (pyIter (.ref it)) Q E s
abbrev TI:=St->Hp->(It->Hp->Prop)->Prop
def XT(X:Cx)(pins:List (Addr×Obj))(σ:St)(tg:Expr)(R:It->Hp->Prop)(itv:Value)(s2:Shared):Prop :=
 ∃(it:Addr) (fp:List Addr) (tn:Nat->Heap->Prop) (J:It) (H':Hp),itv=.ref it/\Inv X pins σ H' s2/\Turn X.prog X.w X.K tg J fp it tn/\tn 0 s2.heap/\(∀b∈fp,nO X pins H' b)/\R J H'
def PI(X:Cx)(tg iter:Expr)(wi:TI):Prop :=
 ∀(pins:List (Addr×Obj)) (s:Shared) (σ:St) (H:Hp) (R:It->Hp->Prop),Inv X pins σ H s->wi σ H R ->
  wpAny (model X.prog X.w) X.A (eval iter X.env) (λv s1=>wpAny (model X.prog X.w) X.A (pyIter v) (XT X pins σ tg R) X.xe s1) X.xe s
theorem Ep{M:Model}{A:Around}{E:Value->Shared->Prop}{s:Shared}{tg:Expr}{it:Addr}{u:Value}{o:Obj}{n:String}{vs:Array Value}{Q:Unit->Shared->Prop}(ho:s.heap.get? it=some o)(hc:o.cls=.type n)(hd:o.data=.fields vs)
  (hn:["enumerate","zip","dict_itemiterator","dict_reverseitemiterator","odict_iterator","itertools.zip_longest","itertools.pairwise"].contains n=false) (hQ:Q () s):wpAny M A (letOwnedTupleGo tg (.ref it) u) Q E s:=by
 unfold letOwnedTupleGo;cases tg<;>first
  | exact aar hQ
  | (cases u<;>first
    | exact aar hQ
    | (refine aae (wpAny_load ho ?_)
       rw[hc,hd];show wpAny M A (if (["enumerate","zip","dict_itemiterator","dict_reverseitemiterator","odict_iterator","itertools.zip_longest","itertools.pairwise"].contains n&&vs[0]? == some (rawInt _))=true then _ else _) Q E s;rw[aak (by intro h;rw[hn,Bool.false_and]at h;cases h)];exact aar hQ))
def N3(K:aC)(a:Addr):It :=
 ⟨λi H=>∃xs x,cG K H a xs/\xs[i]?=some x,λi H x H'=>H'=H/\∀xs,cG K H a xs->xs[i]?=some x,λi H=>∃xs,cG K H a xs/\xs.length<=i⟩
def Vr(K:aC)(a:Addr):It :=
 ⟨λi H=>∃xs x,bz K H a xs/\xs[i]?=some x,λi H x H'=>H'=H/\∀xs,bz K H a xs->xs[i]?=some x,λi H=>∃xs,bz K H a xs/\xs.length<=i⟩
def Mv(lo:Int)(n:Nat):It:=⟨λi _=>i < n,λi H x H'=>H'=H/\x=.int (lo + i),λi _=>n<=i⟩
theorem uB{P:Program}{w:World}{K:aC}{tg:Expr}(a it:Addr):Turn P w K tg (N3 K a) [it] it (λi h=>h.IsListIter it a i) where
 mem:=by simp
 obj:=λi h st b hb=>by
  have e:b=it:=by simpa using hb
  subst e;obtain⟨o,e,c,d⟩:=st;exact⟨o,e,λv z=>by rw[d]at z;cases z⟩
 keep:=λi h h' st k=>st.at λo e=>k it (by simp) o e
 item:=by
  intro X hP hw hK hc i pins s σ H E I hf st hg;subst hP hw hK;obtain⟨xs,x,hq,hx⟩:=hg;obtain⟨its,rv,p,hz⟩:=I.list hq;obtain⟨u,hu,ru⟩:=rv.get hx;obtain⟨f0,f1,f2,f3,f4,f5⟩:=hf it (by simp);refine wpAny_pyNext_list_item st p.isList (x:=u) (by simpa using hu) λh' st' sb=>?_
  have I1:Inv X pins σ H {s with heap:=h'}:=I.turned (t':=s.toks) (λb o hb e=>(sb.2 b hb).trans e) f0 f1 f3 f4 f5;obtain⟨o,e,c,d⟩:=id st';exact⟨u,rfl,Ep (s:={s with heap:=h'}) e c d (by decide) ⟨x,H,I1,ru,⟨rfl,λys hy=>by rw[I.El hy hq];exact hx⟩,st',λb hb=>(hf b hb).1⟩⟩
 done:=by
  intro X hP hw hK hc i pins s σ H E I hf st hg;subst hP hw hK;obtain⟨xs,hq,hx⟩:=hg;obtain⟨its,rv,p,hz⟩:=I.list hq;obtain⟨f0,f1,f2,f3,f4,f5⟩:=hf it (by simp);have hl:=rv.length;exact wpAny_pyNext_list_end (I.ok.hd hc) st p.isList (by simp;omega) λh' eb=>⟨rfl,I.turned (t':=s.toks) (λb o hb e=>eb b o hb e) f0 f1 f3 f4 f5⟩
 self:=λ_ _ _ _ _ st h=>wpAny_pyIter_listiter st h
theorem zu{P:Program}{w:World}{K:aC}{tg:Expr}(a it:Addr):Turn P w K tg (Vr K a) [it] it (λi h=>h.IsTupleIter it a i) where
 mem:=by simp
 obj:=λi h st b hb=>by
  have e:b=it:=by simpa using hb
  subst e;obtain⟨o,e,c,d⟩:=st;exact⟨o,e,λv z=>by rw[d]at z;cases z⟩
 keep:=λi h h' st k=>st.at λo e=>k it (by simp) o e
 item:=by
  intro X hP hw hK hc i pins s σ H E I hf st hg;subst hP hw hK;obtain⟨xs,x,hq,hx⟩:=hg;obtain⟨its,rv,p,hz⟩:=I.tuple hq;obtain⟨u,hu,ru⟩:=rv.get hx;obtain⟨f0,f1,f2,f3,f4,f5⟩:=hf it (by simp);refine wpAny_pyNext_tuple_item st (show s.heap.IsTuple a its.toArray from p) (x:=u) (by simpa using hu) λh' st' sb=>?_
  have I1:Inv X pins σ H {s with heap:=h'}:=I.turned (t':=s.toks) (λb o hb e=>(sb.2 b hb).trans e) f0 f1 f3 f4 f5;obtain⟨o,e,c,d⟩:=id st';exact⟨u,rfl,Ep (s:={s with heap:=h'}) e c d (by decide) ⟨x,H,I1,ru,⟨rfl,λys hy=>by rw[I.Cs hy hq];exact hx⟩,st',λb hb=>(hf b hb).1⟩⟩
 done:=by
  intro X hP hw hK hc i pins s σ H E I hf st hg;subst hP hw hK;obtain⟨xs,hq,hx⟩:=hg;obtain⟨its,rv,p,hz⟩:=I.tuple hq;obtain⟨f0,f1,f2,f3,f4,f5⟩:=hf it (by simp);have hl:=rv.length;exact wpAny_pyNext_tuple_end (I.ok.hd hc) st (show s.heap.IsTuple a its.toArray from p) (by simp;omega) λh' eb=>⟨rfl,I.turned (t':=s.toks) (λb o hb e=>eb b o hb e) f0 f1 f3 f4 f5⟩
 self:=λ_ _ _ _ _ st h=>wpAny_pyIter_tupleiter st h
theorem zv{P:Program}{w:World}{K:aC}{tg:Expr}(it:Addr)(lo:Int)(n:Nat):Turn P w K tg (Mv lo n) [it] it (λi h=>IsRangeIter h it (lo + (i:Nat) * 1) ((n:Int) - (i:Nat)) 1) where
 mem:=by simp
 obj:=λi h st b hb=>by
  have e:b=it:=by simpa using hb
  subst e
  exact⟨_,st,λv z=>by
   have z':Data.fields _=Data.cell v:=z;cases z'⟩
 keep:=λi h h' st k=>k it (by simp) _ st
 item:=by
  intro X hP hw hK hc i pins s σ H E I hf st hg;subst hP hw hK;obtain⟨f0,f1,f2,f3,f4,f5⟩:=hf it (by simp);have W:=Walks.range (prog:=X.prog) (w:=X.w) (I.ok.hd hc) it lo 1 n;refine W.item i s _ _ hg st λv h' tk hv st' kk=>?_
  obtain⟨t,rfl⟩:=hv;have I1:Inv X pins σ H {s with heap:=h',toks:=tk}:=I.turned (λb o hb e=>kk b o (by simpa using hb) e) f0 f1 f3 f4 f5;refine⟨_,rfl,Ep (s:={s with heap:=h',toks:=tk}) (n:="range_iterator") st' rfl rfl (by decide) ⟨.int (lo + i),H,I1,⟨t,?_⟩,⟨rfl,rfl⟩,st',λb hb=>(hf b hb).1⟩⟩;rw[Int.mul_one]
 done:=by
  intro X hP hw hK hc i pins s σ H E I hf st hg;subst hP hw hK;obtain⟨f0,f1,f2,f3,f4,f5⟩:=hf it (by simp);exact wpAny_pyNext_range_end (I.ok.hd hc) st (by have:n<=i:=hg;omega) λh' eb=>⟨rfl,I.turned (t':=s.toks) (λb o hb e=>eb b o hb e) f0 f1 f3 f4 f5⟩
 self:=λ_ _ _ _ _ st h=>wpAny_pyIter_rangeiter st h
section
variable {X:Cx} {tg:Expr}
def RM(K:aC)(tl:TE):TI:=λσ H R=>tl σ H λx H1=>∃a,x=.ref a/\(∃xs,cG K H1 a xs)/\R (N3 K a) H1
theorem vH{l:Expr}{tl:TE}(hl:PE X l tl):PI X tg l (RM X.K tl):=by
 intro pins s σ H R I h;refine cU (hl pins s σ H _ I h) λv s1 ⟨x,H1,I1,r1,q1⟩=>?_
 obtain⟨a,e,⟨xs,hq⟩,q⟩:=q1;subst e;cases r1;obtain⟨its,rv,p,hz⟩:=I1.list hq;refine wpAny_pyIter_list p.isList ?_;refine⟨s1.heap.objs.size,[s1.heap.objs.size],_,_,H1,rfl,I1.kept (t':=s1.toks) λb o e=>Heap.get?_push_of_some _ e,uB a _,⟨_,Heap.get?_push_size _ rfl,rfl,rfl⟩,λb hb=>?_,q⟩;have e:b=s1.heap.objs.size:=by simpa using hb
 subst e;exact I1.Cu (aag _) (I1.hok.fresh (aag _))
theorem xP{pins:List (Addr×Obj)}{σ:St}{H:Hp}{s:Shared}{R:It->Hp->Prop}{E:Value->Shared->Prop}{lo hi:Int}{t u v:Tok}{tk:Nat}(I:Inv X pins σ H s)(h1:-(2 ^ 62)<=lo)(h2:lo < 2 ^ 62)(h3:-(2 ^ 62)<=hi)(h4:hi < 2 ^ 62)
  (q:R (Mv lo (hi - lo).toNat) H):wpAny (model X.prog X.w) X.A (pyIter (.ref s.heap.objs.size)) (XT X pins σ tg R) E {s with heap:=s.heap.push {cls:=.type "range",data:=.fields #[.int lo t,.int hi u,.int 1 v]},toks:=tk}:=by
 refine wpAny_pyIter_range (IsRange.new ..) (small_one h1 h2 h3 h4) ?_;have I1:Inv X pins σ H {s with heap:=s.heap.push {cls:=.type "range",data:=.fields #[.int lo t,.int hi u,.int 1 v]},toks:=tk}:=I.kept λb o e=>aaa _ e
 refine⟨(s.heap.push {cls:=.type "range",data:=.fields #[.int lo t,.int hi u,.int 1 v]}).objs.size,[(s.heap.push {cls:=.type "range",data:=.fields #[.int lo t,.int hi u,.int 1 v]}).objs.size],_,_,H,rfl,
  I1.kept (t':=tk) λb o e=>aaa _ e,zv _ lo (hi - lo).toNat,?_,λb hb=>?_,q⟩
 ·have e1:lo + ((0:Nat):Int) * 1=lo:=by simp
  have e2:(((hi - lo).toNat:Nat):Int) - ((0:Nat):Int)=Builtin.Range.rangeSize lo hi 1:=by rw[rangeSize_one];split<;>omega
  show IsRangeIter _ _ (lo + ((0:Nat):Int) * 1) ((((hi - lo).toNat:Nat):Int) - ((0:Nat):Int)) 1;rw[e1,e2];exact aas _ rfl
 ·have e:b=(s.heap.push {cls:=.type "range",data:=.fields #[.int lo t,.int hi u,.int 1 v]}).objs.size:=by simpa using hb
  subst e;exact I1.Cu (aag _) (I1.hok.fresh (aag _))
def RN(ta:TA):TI:=λσ H R=>ta σ H λvs H1=>∃j:Int,vs=[.int j]/\-(2 ^ 62)<=j/\j < 2 ^ 62/\R (Mv 0 j.toNat) H1
def RO(ta:TA):TI:=λσ H R=>ta σ H λvs H1=>∃i j:Int,vs=[.int i,.int j]/\(-(2 ^ 62)<=i/\i < 2 ^ 62/\-(2 ^ 62)<=j/\j < 2 ^ 62)/\R (Mv i (j - i).toNat) H1
theorem uC{a:Expr}{ta:TA}{p pos:Pos}(hg:Gl X "range")(hm:X.mg "range"=none)(ha:PA X [a] ta)(hs:starEach [a] X.env=[(false,eval a X.env)]:=by rfl):PI X tg (.Call (.Name "range" p) [a] [] pos) (RN ta):=by
 intro pins s σ H R I h;refine Call_ (ju I hg hm boot_range (aaK (cU (ha pos pins s σ H _ I h) λus s1 ⟨vs,H1,I1,r1,q1⟩=>?_) hs rfl));obtain⟨j,e,q1,q2,q⟩:=q1;subst e
 cases r1 with
 | cons r rr =>
  cases rr;obtain⟨t,rfl⟩:=r;exact call_range_1 (xP I1 (by omega) (by omega) q1 q2 (by simpa using q))
theorem Cv{a b:Expr}{ta:TA}{p pos:Pos}(hg:Gl X "range")(hm:X.mg "range"=none)(ha:PA X [a,b] ta)(hs:starEach [a,b] X.env=[(false,eval a X.env),(false,eval b X.env)]:=by rfl)(zp:starEach [b] X.env=[(false,eval b X.env)]:=by rfl):
  PI X tg (.Call (.Name "range" p) [a,b] [] pos) (RO ta):=by
 intro pins s σ H R I h;refine Call_ (ju I hg hm boot_range (aaK (cU (ha pos pins s σ H _ I h) λus s1 ⟨vs,H1,I1,r1,q1⟩=>?_) (by rw[hs,zp]) (by rw[zp];rfl)));obtain⟨i,j,e,⟨q1,q2,q3,q4⟩,q⟩:=q1;subst e
 cases r1 with
 | cons r rr =>
  cases rr with
  | cons r' rr =>
   cases rr;obtain⟨t,rfl⟩:=r;obtain⟨t',rfl⟩:=r';exact call_range_2 (xP I1 q1 q2 q3 q4 q)
def Vs(wi:TI)(g:TG)(tb:TS):TS:=λD σ H=>wi σ H λJ H1=>∃W:Nat->Nat->St->Hp->Prop,(∃m,W 0 m σ H1)/\∀i m σ H,W i m σ H ->
 (J.stop i H/\D.nx σ H)∨(J.go i H/\∃N:St->Hp->Prop,(∀σ' H',N σ' H'->∃m',m' < m/\W (i + 1) m' σ' H')/\∀x H',J.yld i H x H'->g x σ H' λσ2 H2=>tb {D with nx:=N,ct:=N,bk:=D.nx} σ2 H2)
def rG(fp:List Addr)(h:Heap):List (Addr×Obj):=fp.filterMap λb=>(h.get? b).map λo=>(b,o)
theorem jw{fp:List Addr}{h:Heap}{b:Addr}{o:Obj}(hb:b∈fp)(e:h.get? b=some o):(b,o)∈rG fp h:=ab4.mpr ⟨b,hb,by rw[e];rfl⟩
theorem Cw{fp:List Addr}{h:Heap}{p:Addr×Obj}(hp:p∈rG fp h):p.1∈fp/\h.get? p.1=some p.2:=by
 obtain⟨b,hb,e⟩:=ab4.mp hp
 cases q:h.get? b with
 | none=>rw[q]at e;cases e
 | some o =>
  rw[q]at e;have e':(b,o)=p:=aax e;subst e';exact⟨hb,q⟩
theorem Inv.pinned{pins:List (Addr×Obj)}{σ:St}{H:Hp}{s:Shared}{fp:List Addr}(I:Inv X pins σ H s)(hf:∀b∈fp,nO X pins H b)(ho:∀b∈fp,∃o,s.heap.get? b=some o/\∀v,o.data≠.cell v):Inv X (pins++rG fp s.heap) σ H s :=
 I.Bb λp hp=>(aaE.mp hp).elim (λz=>I.pin p (aaF _ z)) λz=>by
  obtain⟨hb,e⟩:=Cw z;obtain⟨f0,f1,f2,_⟩:=hf p.1 hb;obtain⟨o,e',d⟩:=ho p.1 hb;rw[e]at e';cases e';exact⟨e,f0,f1,f2,d⟩
theorem Inv.nQ{pins pl:List (Addr×Obj)}{σ:St}{H:Hp}{s:Shared}(I:Inv X (pins++pl) σ H s):Inv X pins σ H s:=I.Bb λp hp=>I.pin p (aaF _ (abV _ hp))
theorem rH{iter:Expr}{body:List Stmt}{wi:TI}{g:TG}{tb:TS}{pos:Pos}(hp:PassesOwn (model X.prog X.w) X.A X.env X.xe)(hc:X.calm=true)(hi:PI X tg iter wi)(hg:PG X tg g)(hb:qD X body tb)
  (hs:∀x,foldedSetIterable iter X.env x=pure x:=by intro _;rfl):PS X (.For tg iter body [] pos) (Vs wi g tb):=by
 intro pins s σ H D I h;refine wpAny_For (cU (hi pins s σ H _ I h) λv s1 h1=>cU h1 λitv s2 h2=>?_) hs;obtain⟨it,fp,tn,J,H2,e,I2,T,bJ,f2,W,⟨m0,w0⟩,turn⟩:=h2;subst e;have stat:∀{H':Hp},(∀b∈fp,H' b=none)->∀b∈fp,nO X pins H' b:=λhn b hb=>⟨hn b hb,(f2 b hb).2⟩
 refine codeAny_forLoop_any (λn s'=>∃i σ' H',Inv X pins σ' H' s'/\tn i s'.heap/\(∀b∈fp,H' b=none)/\W i n σ' H') ?_ m0 ⟨0,σ,H2,I2,bJ,λb hb=>(f2 b hb).1,w0⟩;rintro n s3 ⟨i,σ3,H3,I3,kc,XU,w3⟩;rcases turn i n σ3 H3 w3 with⟨stop,qn⟩ | ⟨go,N,hN,step⟩
 ·refine aba hp (cU (T.done X rfl rfl rfl hc i pins s3 σ3 H3 X.xe I3 (stat XU) kc stop) λr s4 ⟨hr,I4⟩=>?_);subst hr;exact abh ⟨σ3,H3,I4,qn⟩
 ·refine aba hp (cU (T.item X rfl rfl rfl hc i pins s3 σ3 H3 X.xe I3 (stat XU) kc go) λr s4 ⟨u,hr,h4⟩=>?_);subst hr;refine aba hp (cU h4 λ_ s5 ⟨x,H5,I5,r5,y5,zw,UR⟩=>?_);have I5':=I5.pinned (stat UR) (T.obj _ _ zw);refine aba hp (cU (hg _ s5 σ3 H5 x u _ I5' r5 (step x H5 y5)) λ_ s6 ⟨σ6,H6,I6,q6⟩=>?_);refine aba hp (cU (hb _ s6 σ6 H6 _ I6 q6) λf s7 q7=>?_)
  have again:∀{σ7:St} {H7:Hp},Inv X (pins++rG fp s5.heap) σ7 H7 s7->N σ7 H7->∃m,m < n/\∃i σ' H',Inv X pins σ' H' s7/\tn i s7.heap/\(∀b∈fp,H' b=none)/\W i m σ' H':=λ{σ7 H7} I7 n7=>by
   obtain⟨m',hm,w7⟩:=hN σ7 H7 n7;refine⟨m',hm,i + 1,σ7,H7,I7.nQ,T.keep _ _ _ zw λb hb o e=>(I7.pin (b,o) (aaF _ (aaF _ (jw hb e)))).1,λb hb=>?_,w7⟩;obtain⟨o,e,d⟩:=T.obj _ _ zw b hb;exact(I7.pin (b,o) (aaF _ (aaF _ (jw hb e)))).2.1
  cases f with
  | next=>obtain⟨σ7,H7,I7,n7⟩:=q7;exact again I7 n7
  | cont=>obtain⟨σ7,H7,I7,n7⟩:=q7;exact again I7 n7
  | brk=>obtain⟨σ7,H7,I7,q7⟩:=q7;exact⟨σ7,H7,I7.nQ,q7⟩
  | ret v=>obtain⟨x7,σ7,H7,I7,r7,q7⟩:=q7;exact⟨x7,σ7,H7,I7.nQ,r7,q7⟩
end
theorem rJ{K:aC}{a:Addr}{xs:List V}{g:TG}{tb:TS}{D:Ends}{σ:St}{H:Hp}(Pv:Nat->St->Hp->Prop)(h0:Pv 0 σ H)(hl:∀i σ H,i<=xs.length->Pv i σ H->cG K H a xs)
  (hs:∀i x σ H,xs[i]?=some x->Pv i σ H->g x σ H λσ2 H2=>tb {D with nx:=Pv (i + 1),ct:=Pv (i + 1),bk:=D.nx} σ2 H2) (hd:∀σ H,Pv xs.length σ H->D.nx σ H) :
  ∃W:Nat->Nat->St->Hp->Prop,(∃m,W 0 m σ H)/\∀i m σ H,W i m σ H ->
   ((N3 K a).stop i H/\D.nx σ H)∨((N3 K a).go i H/\∃N:St->Hp->Prop,(∀σ' H',N σ' H'->∃m',m' < m/\W (i + 1) m' σ' H')/\∀x H',(N3 K a).yld i H x H'->g x σ H' λσ2 H2=>tb {D with nx:=N,ct:=N,bk:=D.nx} σ2 H2):=by
 refine⟨λi m σ H=>m=xs.length - i/\i<=xs.length/\Pv i σ H,⟨xs.length,by simp,Nat.zero_le _,h0⟩,?_⟩;rintro i m σ H ⟨rfl,hi,p⟩;have q:=hl i σ H hi p;by_cases hlt:i < xs.length
 ·refine .inr ⟨⟨xs,xs[i],q,by simp[hlt]⟩,Pv (i + 1),λσ' H' p'=>⟨xs.length - (i + 1),by omega,rfl,hlt,p'⟩,λx H' y=>?_⟩;obtain⟨e,y⟩:=y;subst e;exact hs i x σ _ (y xs q) p
 ·have e:i=xs.length:=by omega
  subst e;exact .inl ⟨⟨xs,q,aag _⟩,hd σ H p⟩
theorem Cy{lo:Int}{n:Nat}{g:TG}{tb:TS}{D:Ends}{σ:St}{H:Hp}(Pv:Nat->St->Hp->Prop)(h0:Pv 0 σ H)
  (hs:∀i σ H,i < n->Pv i σ H->g (.int (lo + i)) σ H λσ2 H2=>tb {D with nx:=Pv (i + 1),ct:=Pv (i + 1),bk:=D.nx} σ2 H2) (hd:∀σ H,Pv n σ H->D.nx σ H) :
  ∃W:Nat->Nat->St->Hp->Prop,(∃m,W 0 m σ H)/\∀i m σ H,W i m σ H ->
   ((Mv lo n).stop i H/\D.nx σ H)∨((Mv lo n).go i H/\∃N:St->Hp->Prop,(∀σ' H',N σ' H'->∃m',m' < m/\W (i + 1) m' σ' H')/\∀x H',(Mv lo n).yld i H x H'->g x σ H' λσ2 H2=>tb {D with nx:=N,ct:=N,bk:=D.nx} σ2 H2):=by
 refine⟨λi m σ H=>m=n - i/\i<=n/\Pv i σ H,⟨n,by simp,Nat.zero_le _,h0⟩,?_⟩;rintro i m σ H ⟨rfl,hi,p⟩;by_cases hlt:i < n
 ·refine .inr ⟨hlt,Pv (i + 1),λσ' H' p'=>⟨n - (i + 1),by omega,rfl,hlt,p'⟩,λx H' y=>?_⟩;obtain⟨e,y⟩:=y;subst e y;exact hs i σ _ hlt p
 ·have e:i=n:=by omega
  subst e;exact .inl ⟨aag _,hd σ H p⟩
theorem Er{c:TT}{tb:TS}{D:Ends}{σ:St}{H:Hp}(Pv:St->Hp->Prop)(μ:St->Hp->Nat)(h0:Pv σ H)
  (hs:∀σ H,Pv σ H->c σ H λb H1=>if b=true then tb {D with nx:=λσ' H'=>Pv σ' H'/\μ σ' H' < μ σ H,ct:=λσ' H'=>Pv σ' H'/\μ σ' H' < μ σ H,bk:=D.nx} σ H1 else D.nx σ H1)
  (mono:∀σ H Q Q',(∀b H1,Q b H1->Q' b H1)->c σ H Q->c σ H Q'):Eo c tb D σ H:=by
 refine⟨λm σ H=>m=μ σ H/\Pv σ H,⟨_,rfl,h0⟩,?_⟩;rintro m σ H ⟨rfl,p⟩;refine mono σ H _ _ (λb H1 q=>?_) (hs σ H p)
 cases b with
 | true=>exact⟨_,λσ' H' ⟨p',l⟩=>⟨_,l,rfl,p'⟩,q⟩
 | false=>exact q
abbrev R2:=V->V->Hp->VK->Prop
def i7(X:Cx)(f:Value->Value->Sem Value)(r:R2):Prop :=
 ∀(pins:List (Addr×Obj)) (s:Shared) (σ:St) (H:Hp) (x y:V) (v u:Value) (Q:VK),Inv X pins σ H s->RelV x v->RelV y u->r x y H Q ->
  wpAny (model X.prog X.w) X.A (f v u) (EP X pins σ Q) X.xe s
def Vt(X:Cx)(f:Value->Sem Value)(r:V->Hp->VK->Prop):Prop :=
 ∀(pins:List (Addr×Obj)) (s:Shared) (σ:St) (H:Hp) (x:V) (v:Value) (Q:VK),Inv X pins σ H s->RelV x v->r x H Q ->
  wpAny (model X.prog X.w) X.A (f v) (EP X pins σ Q) X.xe s
def eO(X:Cx)(f:Value)(r:List V->Hp->VK->Prop):Prop :=
 ∀(pins:List (Addr×Obj)) (s:Shared) (σ:St) (H:Hp) (xs:List V) (us:List Value) (Q:VK),Inv X pins σ H s->Vals xs us->r xs H Q ->
  wpAny (model X.prog X.w) X.A (call f us) (EP X pins σ Q) X.xe s
def RP(r:R2)(ta tb:TE):TE:=λσ H Q=>ta σ H λx H1=>tb σ H1 λy H2=>r x y H2 Q
def Zq(r:V->Hp->VK->Prop)(ta:TE):TE:=λσ H Q=>ta σ H λx H1=>r x H1 Q
inductive RI(C:Int->Int->Prop)(g:Int->Int->V)(x y:V)(H:Hp)(Q:VK):Prop where
 | mk (i j:Int) (e:x=.int i) (f:y=.int j) (c:C i j) (q:Q (g i j) H):RI C g x y H Q
def rI(C:Int->Int->Prop)(g:Int->Int->V):R2:=λx y H Q=>RI C g x y H Q
inductive XW(g:Int->Int->V)(x y:V)(H:Hp)(Q:VK):Prop where
 | mk (i j:Int) (e:x=.int i) (f:y=.int j) (q:Q (g i j) H):XW g x y H Q
def IC(g:Int->Int->V):R2:=λx y H Q=>XW g x y H Q
def rU(g:Int->V):V->Hp->VK->Prop:=λx H Q=>∃i,x=.int i/\Q (g i) H
section
variable {X:Cx} {a b c:Expr} {ta tb tc:TE} {pos:Pos}
theorem N4(ha:PE X a ta)(hb:PE X b tb){pins:List (Addr×Obj)}{s:Shared}{σ:St}{H:Hp}{R:V->V->Hp->Prop}(I:Inv X pins σ H s)
  (h:ta σ H λx H1=>tb σ H1 λy H2=>R x y H2) {Q:Value->Shared->Prop} {f:Value->Value->Sem Value}
  (hf:∀v u s2 x y H2,Inv X pins σ H2 s2->RelV x v->RelV y u->R x y H2->wpAny (model X.prog X.w) X.A (f v u) Q X.xe s2) :
  wpAny (model X.prog X.w) X.A (eval a X.env) (λv s₁=>wpAny (model X.prog X.w) X.A (eval b X.env) (λu s₂=>wpAny (model X.prog X.w) X.A (f v u) Q X.xe s₂) X.xe s₁) X.xe s:=by
 refine cU (ha pins s σ H _ I h) λv s1 ⟨x,H1,I1,r1,q1⟩=>?_
 refine cU (hb pins s1 σ H1 _ I1 q1) λu s2 ⟨y,H2,I2,r2,q2⟩=>?_
 exact hf v u s2 x y H2 I2 r1 r2 q2
theorem df{op:Operator}{r:R2}(ho:i7 X (binaryOp op) r)(ha:PE X a ta)(hb:PE X b tb):PE X (.BinOp a op b pos) (RP r ta tb):=by
 intro pins s σ H Q I h;exact wpAny_BinOp (N4 ha hb I h λv u s2 x y H2 I2 rx ry q=>ho pins s2 σ H2 x y v u Q I2 rx ry q)
theorem Mw{op:UnaryOp}{r:V->Hp->VK->Prop}(ho:Vt X (unaryOp op) r)(ha:PE X a ta):PE X (.UnaryOp op a pos) (Zq r ta):=by
 intro pins s σ H Q I h;exact UnaryOp_ (cU (ha pins s σ H _ I h) λv s1 ⟨x,H1,I1,r1,q1⟩=>ho pins s1 σ H1 x v Q I1 r1 q1)
theorem RQ{f:Value->Value->Sem Value}{C:Int->Int->Prop}{g:Int->Int->Int}
  (rule:∀(i j:Int) (t u:Tok) (s:Shared) (Q:Value->Shared->Prop) (E:Value->Shared->Prop),C i j->Q (.int (g i j) s.toks) {s with toks:=s.toks + 1}->wpAny (model X.prog X.w) X.A (f (.int i t) (.int j u)) Q E s) :
  i7 X f (rI C λi j=>.int (g i j)):=by
 intro pins s σ H x y v u Q I rx ry h;obtain⟨i,j,rfl,rfl,hc,q⟩:=h;obtain⟨t,rfl⟩:=rx;obtain⟨t',rfl⟩:=ry;exact rule i j t t' s _ _ hc ⟨.int (g i j),H,I.tok _,⟨_,rfl⟩,q⟩
theorem Jh{f:Value->Value->Sem Value}{g:Int->Int->Int}
  (rule:∀(i j:Int) (t u:Tok) (s:Shared) (Q:Value->Shared->Prop) (E:Value->Shared->Prop),Q (.int (g i j) s.toks) {s with toks:=s.toks + 1}->wpAny (model X.prog X.w) X.A (f (.int i t) (.int j u)) Q E s) :
  i7 X f (IC λi j=>.int (g i j)):=by
 intro pins s σ H x y v u Q I rx ry h;obtain⟨i,j,rfl,rfl,q⟩:=h;obtain⟨t,rfl⟩:=rx;obtain⟨t',rfl⟩:=ry;exact rule i j t t' s _ _ ⟨.int (g i j),H,I.tok _,⟨_,rfl⟩,q⟩
theorem RS{f:Value->Value->Sem Value}{g:Int->Int->Bool}
  (rule:∀(i j:Int) (t u:Tok) (s:Shared) (Q:Value->Shared->Prop) (E:Value->Shared->Prop),Q (.bool (g i j)) s->wpAny (model X.prog X.w) X.A (f (.int i t) (.int j u)) Q E s) :
  i7 X f (IC λi j=>.bl (g i j)):=by
 intro pins s σ H x y v u Q I rx ry h;obtain⟨i,j,rfl,rfl,q⟩:=h;obtain⟨t,rfl⟩:=rx;obtain⟨t',rfl⟩:=ry;exact rule i j t t' s _ _ ⟨.bl (g i j),H,I,rfl,q⟩
def N5(i j:Int):Prop:=0<=j/\j<=1000000/\i.natAbs < 2 ^ 64
def N6(i j:Int):Prop:=(-(2 ^ 64) < i/\i < 2 ^ 64)∨(-(2 ^ 64) < j/\j < 2 ^ 64)
theorem N6.ok{i j:Int}(h:N6 i j):IntMulOk i j:=by
 rcases h with⟨h1,h2⟩ | ⟨h1,h2⟩
 ·exact .of_left (intBits_le_64 h1 h2)
 ·exact .of_right (intBits_le_64 h1 h2)
theorem zx(k:Nat):(0:Int)<=2 ^ k:=by
 rw[two_pow_cast];exact Int.natCast_nonneg _
theorem vI:i7 X (binaryOp .Add) (IC λi j=>.int (i + j)):=Jh λ_ _ _ _ _ _ _ q=>add_int q
theorem pf:i7 X (binaryOp .Sub) (IC λi j=>.int (i - j)):=Jh λ_ _ _ _ _ _ _ q=>sub_int q
theorem vJ:i7 X (binaryOp .Mod) (rI (λ_ j=>0 < j) λi j=>.int (i % j)):=RQ λi j _ _ _ _ _ hc q=>by
 have h1:(0:Int) < j:=hc;exact mod_int' (by omega) (by rw[Int.fmod_eq_emod_of_nonneg i (by omega)];exact q)
theorem zy:i7 X (binaryOp .LShift) (rI N5 λi j=>.int (i * 2 ^ j.toNat)):=RQ λ_ _ _ _ _ _ _ hc q=>lshift_int_small hc.1 hc.2.1 hc.2.2 q
theorem N7:i7 X (binaryOp .RShift) (rI (λ_ j=>0<=j) λi j=>.int (i / 2 ^ j.toNat)):=RQ λi j _ _ _ _ _ hc q =>
 rshift_int hc (by rw[ab9 i (zx _)];exact q)
theorem Es:i7 X (binaryOp .BitAnd) (IC λi j=>.int (Builtin.bitAnd i j)):=Jh λ_ _ _ _ _ _ _ q=>and_int q
theorem Mx:i7 X (binaryOp .BitOr) (IC λi j=>.int (Builtin.bitOr i j)):=Jh λ_ _ _ _ _ _ _ q=>or_int q
theorem Zr{f:Value->Sem Value}{g:Int->Int}
  (rule:∀(i:Int) (t:Tok) (s:Shared) (Q:Value->Shared->Prop) (E:Value->Shared->Prop),Q (.int (g i) s.toks) {s with toks:=s.toks + 1}->wpAny (model X.prog X.w) X.A (f (.int i t)) Q E s) :
  Vt X f (rU λi=>.int (g i)):=by
 intro pins s σ H x v Q I rx h;obtain⟨i,rfl,q⟩:=h;obtain⟨t,rfl⟩:=rx;exact rule i t s _ _ ⟨.int (g i),H,I.tok _,⟨_,rfl⟩,q⟩
theorem Eu:Vt X (unaryOp .USub) (rU λi=>.int (-i)):=Zr λ_ _ _ _ _ q=>neg_int q
end
def RT:V->V->Bool
 | .non,.non=>true | .non,.int _=>true | .int _,.non=>true | .non,.bl _=>true | .bl _,.non=>true | .non,.str _=>true | .str _,.non=>true
 | .int _,.int _=>true | .bl _,.bl _=>true | .str _,.str _=>true | .byt _,.byt _=>true
 | .int _,.str _=>true | .str _,.int _=>true | .bl _,.str _=>true | .str _,.bl _=>true
 | _,_=>false
def XX:R2:=λx y H Q=>RT x y=true/\Q (.bl (decide (x=y))) H
def XY:R2:=λx y H Q=>RT x y=true/\Q (.bl (!decide (x=y))) H
theorem Be{i j:Int}:decide (V.int i=V.int j)=(i == j):=by
 rw[Bool.eq_iff_iff];simp
theorem Ew{i j:Bool}:decide (V.bl i=V.bl j)=(i == j):=by
 rw[Bool.eq_iff_iff];simp
theorem Bf{i j:Str}:decide (V.str i=V.str j)=(i == j):=by
 rw[Bool.eq_iff_iff];simp
theorem Bg{i j:Array UInt8}:decide (V.byt i=V.byt j)=(i.toList == j.toList):=by
 rw[Bool.eq_iff_iff];cases i;cases j;simp
section
variable {X:Cx} {a b c:Expr} {ta tb tc:TE} {pos:Pos}
theorem bC{pins:List (Addr×Obj)}{σ:St}{H:Hp}{s:Shared}{Q:VK}{k k':Bool}(I:Inv X pins σ H s)(q:Q (.bl k) H)(e:k=k'):EP X pins σ Q (.bool k') s:=by
 subst e;exact⟨.bl k,H,I,rfl,q⟩
theorem dh:i7 X (compareOp .Eq) XX:=by
 intro pins s σ H x y v u Q I rx ry h;obtain⟨hs,q⟩:=h
 cases x with
 | non =>
  cases rx
  cases y with
  | non=>cases ry;exact PySem.EqNone.eq_none_none (bC I q (by simp))
  | bl j=>cases ry;exact PySem.EqNone.eq_none_bool (bC I q (by simp))
  | int j=>obtain⟨t',rfl⟩:=ry;exact PySem.EqNone.eq_none_int (bC I q (by simp))
  | str j=>obtain⟨t',rfl⟩:=ry;exact PySem.EqNone.eq_none_str (bC I q (by simp))
  | _=>exact absurd (show false=true from hs) aai
 | bl i =>
  cases rx
  cases y with
  | non=>cases ry;exact PySem.EqNone.eq_bool_none (bC I q (by simp))
  | bl j=>cases ry;exact eq_bool (bC I q Ew)
  | str j=>obtain⟨t',rfl⟩:=ry;exact PySem.EqMixed.eq_bool_str (bC I q (by simp))
  | _=>exact absurd (show false=true from hs) aai
 | int i =>
  obtain⟨t,rfl⟩:=rx
  cases y with
  | non=>cases ry;exact PySem.EqNone.eq_int_none (bC I q (by simp))
  | int j=>obtain⟨t',rfl⟩:=ry;exact eq_int (bC I q Be)
  | str j=>obtain⟨t',rfl⟩:=ry;exact PySem.EqMixed.eq_int_str (bC I q (by simp))
  | _=>exact absurd (show false=true from hs) aai
 | str i =>
  obtain⟨t,rfl⟩:=rx
  cases y with
  | non=>cases ry;exact PySem.EqNone.eq_str_none (bC I q (by simp))
  | bl j=>cases ry;exact PySem.EqMixed.eq_str_bool (bC I q (by simp))
  | int j=>obtain⟨t',rfl⟩:=ry;exact PySem.EqMixed.eq_str_int (bC I q (by simp))
  | str j=>obtain⟨t',rfl⟩:=ry;exact eq_str (bC I q Bf)
  | _=>exact absurd (show false=true from hs) aai
 | byt i =>
  obtain⟨t,rfl⟩:=rx
  cases y with
  | byt j=>obtain⟨t',rfl⟩:=ry;exact PySem.W.eq_bytes (bC I q Bg)
  | _=>exact absurd (show false=true from hs) aai
 | _=>cases y<;>exact absurd (show false=true from hs) aai
theorem Ey:i7 X (compareOp .NotEq) XY:=by
 intro pins s σ H x y v u Q I rx ry h;obtain⟨hs,q⟩:=h
 cases x with
 | non =>
  cases rx
  cases y with
  | non=>cases ry;exact PySem.EqNone.ne_none_none (bC I q (by simp))
  | bl j=>cases ry;exact PySem.EqNone.ne_none_bool (bC I q (by simp))
  | int j=>obtain⟨t',rfl⟩:=ry;exact PySem.EqNone.ne_none_int (bC I q (by simp))
  | str j=>obtain⟨t',rfl⟩:=ry;exact PySem.EqNone.ne_none_str (bC I q (by simp))
  | _=>exact absurd (show false=true from hs) aai
 | bl i =>
  cases rx
  cases y with
  | non=>cases ry;exact PySem.EqNone.ne_bool_none (bC I q (by simp))
  | bl j=>cases ry;exact ne_bool (bC I q (abl not Ew))
  | str j=>obtain⟨t',rfl⟩:=ry;exact PySem.EqMixed.ne_bool_str (bC I q (by simp))
  | _=>exact absurd (show false=true from hs) aai
 | int i =>
  obtain⟨t,rfl⟩:=rx
  cases y with
  | non=>cases ry;exact PySem.EqNone.ne_int_none (bC I q (by simp))
  | int j=>obtain⟨t',rfl⟩:=ry;exact ne_int (bC I q (abl not Be))
  | str j=>obtain⟨t',rfl⟩:=ry;exact PySem.EqMixed.ne_int_str (bC I q (by simp))
  | _=>exact absurd (show false=true from hs) aai
 | str i =>
  obtain⟨t,rfl⟩:=rx
  cases y with
  | non=>cases ry;exact PySem.EqNone.ne_str_none (bC I q (by simp))
  | bl j=>cases ry;exact PySem.EqMixed.ne_str_bool (bC I q (by simp))
  | int j=>obtain⟨t',rfl⟩:=ry;exact PySem.EqMixed.ne_str_int (bC I q (by simp))
  | str j=>obtain⟨t',rfl⟩:=ry;exact ne_str (bC I q (abl not Bf))
  | _=>exact absurd (show false=true from hs) aai
 | byt i =>
  obtain⟨t,rfl⟩:=rx
  cases y with
  | byt j=>obtain⟨t',rfl⟩:=ry;exact PySem.W.ne_bytes (bC I q (abl not Bg))
  | _=>exact absurd (show false=true from hs) aai
 | _=>cases y<;>exact absurd (show false=true from hs) aai
theorem My:i7 X (compareOp .Lt) (IC λi j=>.bl (decide (i < j))):=RS λ_ _ _ _ _ _ _ q=>lt_int q
theorem Bh:i7 X (compareOp .Gt) (IC λi j=>.bl (decide (j < i))):=RS λ_ _ _ _ _ _ _ q=>gt_int q
theorem N8:i7 X (compareOp .Is) (λx y H Q=>y=.non/\Q (.bl (decide (x=.non))) H):=by
 intro pins s σ H x y v u Q I rx ry h;obtain⟨rfl,q⟩:=h;cases ry;refine is_none_gen (bC I q ?_);cases x<;>first
  | (cases rx;rfl)
  | (obtain⟨t,rfl⟩:=rx;rfl)
theorem mi:i7 X (compareOp .IsNot) (λx y H Q=>y=.non/\Q (.bl (!decide (x=.non))) H):=by
 intro pins s σ H x y v u Q I rx ry h;obtain⟨rfl,q⟩:=h;cases ry;refine isnot_none_gen (bC I q ?_);cases x<;>first
  | (cases rx;rfl)
  | (obtain⟨t,rfl⟩:=rx;rfl)
theorem aZ(b:Expr){op:CmpOp}(h:op≠.In:=by decide)(h2:op≠.NotIn:=by decide):behindInMarks op b=false:=by
 have e1:(op == CmpOp.In)=false:=by cases op<;>first | rfl | exact absurd rfl h
 have e2:(op == CmpOp.NotIn)=false:=by cases op<;>first | rfl | exact absurd rfl h2
 cases b<;>simp[behindInMarks,e1,e2]
theorem rf{op:CmpOp}{r:R2}(ho:i7 X (compareOp op) r)(ha:PE X a ta)(hb:PE X b tb)(hm:behindInMarks op b=false):PE X (.Compare a [op] [b] pos) (RP r ta tb):=by
 intro pins s σ H Q I h;exact wpAny_Compare1 (N4 ha hb I h λv u s2 x y H2 I2 rx ry q=>ho pins s2 σ H2 x y v u Q I2 rx ry q) hm
def Mz(t:TE):TT:=λσ H Q=>t σ H λx H'=>UP x H' Q
theorem tR{op:CmpOp}{r:R2}(ho:i7 X (compareOp op) r)(ha:PE X a ta)(hb:PE X b tb)(hm:behindInMarks op b=false):PT X (.Compare a [op] [b] pos) (Mz (RP r ta tb)):=by
 intro pins s σ H Q I h
 refine wpAny_isTrue_Compare1 (cU (ha pins s σ H _ I h) λv s1 ⟨x,H1,I1,r1,q1⟩=>cU (hb pins s1 σ H1 _ I1 q1) λu s2 ⟨y,H2,I2,r2,q2⟩ =>
  cU (ho pins s2 σ H2 x y v u _ I2 r1 r2 q2) λc s3 ⟨z,H3,I3,r3,k,e,q3⟩=>?_) hm
 subst e;cases r3;exact abb ⟨H3,I3,q3⟩
theorem ph:(sizeLine:Nat) < 2 ^ 63:=by rw[sizeLine_eq];decide
theorem zA:i7 X (binaryOp .Add) (λx y H Q=>∃i j,x=.str i/\y=.str j/\i.length + j.length<=sizeLine/\Q (.str (i++j)) H):=by
 intro pins s σ H x y v u Q I rx ry h;obtain⟨i,j,rfl,rfl,hz,q⟩:=h;obtain⟨t,rfl⟩:=rx;obtain⟨t',rfl⟩:=ry;exact add_str (λt' tk=>⟨.str (i++j),H,I.tok _,⟨_,rfl⟩,q⟩) hz
theorem vals1{x:V}{us:List Value}(r:Vals [x] us):∃u,us=[u]/\RelV x u:=by
 cases r with
 | cons r1 r2=>cases r2;exact⟨_,rfl,r1⟩
theorem vals2{x y:V}{us:List Value}(r:Vals [x,y] us):∃u w',us=[u,w']/\RelV x u/\RelV y w':=by
 cases r with
 | cons r1 r2 =>
  cases r2 with
  | cons r3 r4=>cases r4;exact⟨_,_,rfl,r1,r3⟩
theorem Cz(hc:X.calm=true):eO X (.builtin "max") (λxs H Q=>∃i j,xs=[.int i,.int j]/\Q (.int (if j > i then j else i)) H):=by
 intro pins s σ H xs us Q I r h;obtain⟨i,j,rfl,q⟩:=h;obtain⟨u,w',rfl,⟨t,rfl⟩,⟨t',rfl⟩⟩:=vals2 r;refine max_two_ints (I.ok.hd hc) λh' tk k=>⟨_,H,I.kept k,?_,q⟩
 by_cases hj:j > i
 ·rw[aan hj,aan hj];exact⟨_,rfl⟩
 ·rw[aak hj,aak hj];exact⟨_,rfl⟩
theorem CA(hc:X.calm=true):eO X (.builtin "min") (λxs H Q=>∃i j,xs=[.int i,.int j]/\Q (.int (if j < i then j else i)) H):=by
 intro pins s σ H xs us Q I r h;obtain⟨i,j,rfl,q⟩:=h;obtain⟨u,w',rfl,⟨t,rfl⟩,⟨t',rfl⟩⟩:=vals2 r;refine min_two_ints (I.ok.hd hc) λh' tk k=>⟨_,H,I.kept k,?_,q⟩
 by_cases hj:j < i
 ·rw[aan hj,aan hj];exact⟨_,rfl⟩
 ·rw[aak hj,aak hj];exact⟨_,rfl⟩
theorem CB:eO X (.type "int") (λxs H Q=>(∃i,xs=[.int i]/\Q (.int i) H)∨∃k,xs=[.bl k]/\Q (.int (if k then 1 else 0)) H):=by
 intro pins s σ H xs us Q I r h;rcases h with⟨i,rfl,q⟩ | ⟨k,rfl,q⟩
 ·obtain⟨u,rfl,t,rfl⟩:=vals1 r;exact call_int_int ⟨.int i,H,I,⟨_,rfl⟩,q⟩
 ·obtain⟨u,rfl,r1⟩:=vals1 r;cases r1;exact call_int_bool ⟨.int (if k then 1 else 0),H,I.tok _,⟨_,rfl⟩,q⟩
end
structure Zs(h:Heap)(x dx C:Addr)(mA:Str->Option Value):Prop where
 obj:h.get? x=some (PySem.W.instObj C dx)
 ns:h.Ns1 dx mA
 ne:dx≠x
theorem CC{h:Heap}{dx:Addr}{mA:Str->Option Value}(n:h.Ns1 dx mA):∃od,h.get? dx=some od/\∀name,PySem.W.lookIn name od=some (mA name):=by
 obtain⟨o,es,ep,ho,hd,hk,_,hm⟩:=n;refine⟨o,ho,λname=>?_⟩;have e:=hm name;unfold nsFind findBy at e;rw[← Array.find?_toList]at e;unfold PySem.W.lookIn;rw[hd];dsimp only;split
 ·rename_i y q;rw[q]at e;exact abl some e
 ·rename_i q;rw[q]at e
  have a:es.toList.any (·.refKey)=false:=by
   rw[List.any_eq_false];intro y hy;obtain⟨z,t,hkey⟩:=hk y (Array.mem_toList_iff.mp hy);simp[DictEntry.refKey,hkey]
  have a':¬ es.toList.any (·.refKey)=true:=by rw[a];exact aai
  rw[aak a'];exact abl some e
section
variable {prog:Program} {w:World} {A:Around} {E:Value->Shared->Prop} {s:Shared} {K:aC} {x dx C f:Addr} {mA:Str->Option Value} {name:Str} {v:Value}
end
def mH(f:Str)(v:V):List (Str×V)->List (Str×V)
 | []=>[(f,v)]
 | (g,x)::r=>if g=f then(g,v)::r else(g,x)::mH f v r
theorem qa(f g:Str)(v:V):∀fs:List (Str×V),(mH f v fs).lookup g=if g=f then some v else fs.lookup g
 | []=>by
  show List.lookup g [(f,v)]=_;by_cases h:g=f
  ·have hb:(g == f)=true:=beq_iff_eq.mpr h;simp only[List.lookup,hb,if_pos h]
  ·have hb:(g == f)=false:=beq_eq_false_iff_ne.mpr h;simp only[List.lookup,hb,if_neg h]
 | (k,x)::r=>by
  have ih:=qa f g v r;rw[show mH f v ((k,x)::r)=(if k=f then(k,v)::r else(k,x)::mH f v r)from rfl];by_cases hk:k=f
  ·rw[aan hk];by_cases h:g=k
   ·have hb:(g == k)=true:=beq_iff_eq.mpr h;simp only[List.lookup,hb,if_pos (h.trans hk)]
   ·have hb:(g == k)=false:=beq_eq_false_iff_ne.mpr h;simp only[List.lookup,hb,if_neg (λe:g=f=>h (e.trans hk.symm))]
  ·rw[aak hk];by_cases h:g=k
   ·have hb:(g == k)=true:=beq_iff_eq.mpr h;simp only[List.lookup,hb,if_neg (λe:g=f=>hk (h.symm.trans e))]
   ·have hb:(g == k)=false:=beq_eq_false_iff_ne.mpr h;simp only[List.lookup,hb];exact ih
theorem pj(f:Str)(v:V):∀fs:List (Str×V),f∈(mH f v fs).map (·.1)/\∀g,g∈fs.map (·.1)->g∈(mH f v fs).map (·.1)
 | []=>⟨by simp[mH],λg h=>by simp at h⟩
 | (k,x)::r=>by
  obtain⟨i1,i2⟩:=pj f v r;rw[show mH f v ((k,x)::r)=(if k=f then(k,v)::r else(k,x)::mH f v r)from rfl];by_cases hk:k=f
  ·rw[if_pos hk];subst hk;exact⟨by simp,λg h=>by simpa using h⟩
  ·rw[aak hk];refine⟨?_,λg h=>?_⟩
   ·rw[aa7];exact aa4 _ i1
   ·rw[aa7]at h ⊢;rcases aap.mp h with e | e
    ·exact aap.mpr (.inl e)
    ·exact aa4 _ (i2 g e)
theorem qc(f:Str)(v:V):∀fs:List (Str×V),(mH f v fs).length<=fs.length + 1
 | []=>by simp[mH]
 | (k,x)::r=>by
  have ih:=qc f v r;rw[show mH f v ((k,x)::r)=(if k=f then(k,v)::r else(k,x)::mH f v r)from rfl];by_cases hk:k=f
  ·rw[aan hk,abu,abu];omega
  ·rw[aak hk,abu,abu];omega
theorem qC.some_of{v:V}{o:Option Value}(r:qC (some v) o):∃u,o=some u/\RelV v u:=by
 cases o with
 | none=>exact(show False from r).elim
 | some u=>exact⟨u,rfl,r⟩
theorem CD{v:V}{u:Value}(r:RelV v u):PySem.W.handedIn u=true:=by
 cases v with
 | non=>cases (show u=Value.none from r);rfl
 | bl b=>cases (show u=Value.bool b from r);rfl
 | int i=>obtain⟨t,e⟩:=(show ∃t,u=Value.int i t from r);cases e;rfl
 | str x=>obtain⟨t,e⟩:=(show ∃t,u=Value.str x t from r);cases e;rfl
 | byt b=>obtain⟨t,e⟩:=(show ∃t,u=Value.bytes b t from r);cases e;rfl
 | flt b=>obtain⟨t,e⟩:=(show ∃t,u=Value.float b t from r);cases e;rfl
 | ref a=>cases (show u=Value.ref a from r);rfl
 | ty n=>cases (show u=Value.type n from r);rfl
section
variable {P:Program} {w:World} {H H':Hp} {h h':Heap} {a C dx:Addr} {fs fs':List (Str×V)}
end
structure XZ(K:aC)(C:Addr):Prop where
 pg:PySem.W.plainGet K C Str.empty=true
 hd:PySem.W.hasDictIn K C=true
 po:PySem.W.plainOver K C=true
 sa:PySem.W.findIn K (.ref C) "__setattr__"=some (some (.builtin "object.__setattr__"))
def fT(K:aC)(C:Addr)(f:Str):Prop:=PySem.W.findIn K (.ref C) f=some none
structure Con(K:aC)(C:Addr)(f:Str)(v:V)(u:Value):Prop where
 at_:PySem.W.findIn K (.ref C) f=some (some u)
 rel:RelV v u
 get:PySem.W.specialIn K u "__get__"=some none
 cp:PySem.W.copiedNames.contains f=false
structure Meth(K:aC)(C:Addr)(m:Str)(f:Addr):Prop where
 at_:PySem.W.findIn K (.ref C) m=some (some (.ref f))
 fn:PySem.W.isFn K (.ref f)=true
 kp:PySem.W.keepIn K (.ref f)=true
section
variable {X:Cx} {pins:List (Addr×Obj)} {σ:St} {H:Hp} {s:Shared} {a C dx:Addr} {fs:List (Str×V)} {f:Str} {v:V} {A:Around} {E:Value->Shared->Prop}
theorem Ji{prog:Program}{w:World}{env:Env}{e:Expr}{f:Str}{pos:Pos}{s:Shared}{Q:Value->Shared->Prop}(hb:attributeBase e f env (eval e env)=eval e env)
  (h:wpAny (model prog w) A (eval e env) (λo s₁=>wpAny (model prog w) A (getAttr o f true) Q E s₁) E s):wpAny (model prog w) A (eval (.Attribute e f pos) env) Q E s :=
 Attribute_any_ h (by rw[arm_eval_Attribute,hb])
end
inductive Vu(K:aC)(f:Str)(x:V)(H:Hp)(Q:VK):Prop where
 | mk (a C dx:Addr) (fs:List (Str×V)) (v:V) (e:x=.ref a) (h:H a=some (.ins C dx fs)) (c:XZ K C) (n:fT K C f) (l:fs.lookup f=some v) (q:Q v H):Vu K f x H Q
section
variable {X:Cx} {o e value:Expr} {f:Str} {pos pos' tpos:Pos} {ta tv:TE}
end
section
variable {X:Cx} {pins:List (Addr×Obj)} {σ:St} {H:Hp} {s:Shared} {A:Around} {E:Value->Shared->Prop} {Q:Value->Shared->Prop} {c:Value} {b:Bool}
inductive rK(K:aC)(H:Hp):V->Value->Prop where
 | non:rK K H .non (.type "NoneType")
 | bl (x:Bool):rK K H (.bl x) (.type "bool")
 | int (i:Int):rK K H (.int i) (.type "int")
 | str (x:Str):rK K H (.str x) (.type "str")
 | flt (x:UInt64):rK K H (.flt x) (.type "float")
 | lst {a:Addr} {xs:List V} (e:H a=some (.lst xs)):rK K H (.ref a) (.type "list")
 | mL {a:Addr} {o:Obj} {xs:List V} (e:H a=some (.mL o (.lst xs))):rK K H (.ref a) (.type "list")
 | tup {a:Addr} {xs:List V} (e:H a=some (.tup xs)):rK K H (.ref a) (.type "tuple")
 | dK {a:Addr} {kvs:List (Key×V)} (e:H a=some (.dK kvs)):rK K H (.ref a) (.type "dict")
 | dT {a:Addr} {kvs:List (List Key×V)} (e:H a=some (.dT kvs)):rK K H (.ref a) (.type "dict")
 | ins {a C dx:Addr} {fs:List (Str×V)} (e:H a=some (.ins C dx fs)) (cl:XZ K C) (ha:PySem.W.findIn K (.ref C) "__class__"=some (some (.builtin "object.__class__")))
   (hn:PySem.W.specialIn K (.builtin "object.__class__") "__get__"=some (some (.builtin "getset_descriptor.__get__"))) (htk:PySem.W.takesIn K (.builtin "object.__class__")=some true)
   (hm:PySem.W.mroIn K C (.type "object")=some true):rK K H (.ref a) (.ref C)
end
structure dW(k:Nat)(A:Around)(cm:Bool:=true):Prop where
 hd:cm=true->A.handled=none
 dp:A.depth + 2 * k + 5 < recursionLimit
 un:A.units + 16 * k + 200 < cLine
 gd:A.guards=some []
theorem dW.mono{j k:Nat}{A:Around}{cm:Bool}(r:dW k A cm)(h:j<=k):dW j A cm:=⟨r.hd,by have:=r.dp;omega,by have:=r.un;omega,r.gd⟩
theorem dW.low{k:Nat}{A:Around}{cm:Bool}(r:dW k A cm):dW k A false:=⟨(λz=>nomatch z),r.dp,r.un,r.gd⟩
theorem dW.deeper{k:Nat}{A:Around}{cm:Bool}(r:dW (k + 1) A cm)(env:Env):dW k (A.deeper env) cm :=
 ⟨r.hd,by have:=r.dp;show A.depth + 1 + 2 * k + 5 < _;omega,by have:=r.un;show A.units + 3 + 16 * k + 200 < _;omega,r.gd⟩
theorem zB{A:Around}{C:Addr}{us:List Value}{kw:List (Str×Value)}:(A.under (.builtin "type.__call__" ⟨.ref C::us,kw⟩)).depth=A.depth + 1:=by
 first | rfl | simp[Around.under,Code.weight,Code.isCreation,Code.isGuard,Code.isCaller,Code.frames,Code.isFrame,guardIds]
theorem zC{A:Around}{C:Addr}{us:List Value}{kw:List (Str×Value)}:(A.under (.builtin "type.__call__" ⟨.ref C::us,kw⟩)).units=A.units + 1:=by
 first | rfl | simp[Around.under,Code.cUnits,Code.frames,Code.isFrame]
theorem dW.make{k:Nat}{A:Around}{cm:Bool}(r:dW (k + 1) A cm)(C:Addr)(us:List Value)(kw:List (Str×Value)):dW k (A.under (.builtin "type.__call__" ⟨.ref C::us,kw⟩)) cm :=
 ⟨r.hd,by have:=r.dp;rw[zB];omega,by have:=r.un;rw[zC];omega,r.gd⟩
theorem dW.depth{k:Nat}{A:Around}{cm:Bool}(r:dW k A cm):A.depth < recursionLimit:=by have:=r.dp;omega
theorem dW.units{k:Nat}{A:Around}{cm:Bool}(r:dW k A cm):A.units + 64 < cLine:=by have:=r.un;omega
def RU:TA:=λ_ H Q=>Q [] H
def MA(ta:TE)(tr:TA):TA:=λσ H Q=>ta σ H λx H1=>tr σ H1 λxs H2=>Q (x::xs) H2
section
variable {X:Cx} {e:Expr} {es:List Expr} {te:TE} {t:TA} {pos:Pos}
theorem pN:PA X [] RU:=λ_ _ _ _ H Q I h=>Calls.spliced_nil ⟨[],H,I,.nil,h⟩
theorem pK(ha:PE X e te)(hr:PA X es t)(hs:starEach (e::es) X.env=(false,eval e X.env)::starEach es X.env:=by rfl):PA X (e::es) (MA te t):=by
 intro pos pins s σ H Q I h;rw[hs];show wpAny _ _ (spliced ((false,eval e X.env)::backTo pos (starEach es X.env))) _ _ s;refine Calls.spliced_cons (cU (ha pins s σ H _ I h) λu s1 ⟨x,H1,I1,r1,q1⟩=>?_);exact cU (hr pos pins s1 σ H1 _ I1 q1) λus s2 ⟨xs,H2,I2,r2,q2⟩=>⟨x::xs,H2,I2,.cons r1 r2,q2⟩
def RV(t:TA):TE:=λσ H Q=>t σ H λxs H1=>xs.length<=sizeLine/\∀p,H1 p=none->Q (.ref p) (upd H1 p (.tup xs))
def N9(t:TA):TE:=λσ H Q=>t σ H λxs H1=>xs.length<=sizeLine/\∀p,H1 p=none->Q (.ref p) (upd H1 p (.lst xs))
theorem bh{x1}(h:PA X es t):PE X (.Tuple es x1 pos) (RV t):=by
 intro pins s σ H Q I hq;refine wpAny_Tuple_spliced (cU (h pos pins s σ H _ I hq) λus s1 ⟨xs,H1,I1,r,z,q⟩=>⟨by rw[← r.length];exact z,?_⟩);have hf:H1 s1.heap.objs.size=none:=I1.hok.fresh (aag _);refine⟨.ref s1.heap.objs.size,upd H1 s1.heap.objs.size (.tup xs),I1.laid (t':=s1.toks) (λb u e=>aaa _ e) (aag _) ?_,rfl,q _ hf⟩;exact⟨z,us,r,⟨_,aas _ rfl,rfl,_,rfl⟩⟩
theorem fg(h:PA X es t):PE X (.List es pos) (N9 t):=by
 intro pins s σ H Q I hq;refine wpAny_List_spliced (cU (h pos pins s σ H _ I hq) λus s1 ⟨xs,H1,I1,r,z,q⟩=>⟨by rw[← r.length];exact z,?_⟩);have hf:H1 s1.heap.objs.size=none:=I1.hok.fresh (aag _);refine⟨.ref s1.heap.objs.size,upd H1 s1.heap.objs.size (.lst xs),I1.laid (t':=s1.toks) (λb u e=>aaa _ e) (aag _) ?_,rfl,q _ hf⟩;exact⟨z,us,0,r,aas _ rfl⟩
end
abbrev Sp:=List V->Hp->VK->XK->Prop
abbrev zD:=List Env->Hp->Shared->XK->Value->Shared->Prop
structure zE(P:Program)(w:World)(K:aC)(mg:Str->Option Value)(base:Heap)(A:Around)(outer:List Env)(s:Shared)(H:Hp):Prop where
 frames:A.frames=some outer
 mod:Mod K mg base
 bs:∀b o,base.get? b=some o->s.heap.get? b=some o/\H b=none
 bsz:base.objs.size<=s.heap.objs.size
 oZ:s.heap.FunFrames base outer
 frf:∀b∈p9 outer,H b=none
 hok:nJ P w H s.heap
 bare:AllBare s.gens
def CE(outer:List Env)(P:Program)(w:World)(H:Hp)(s:Shared)(Q:VK)(u:Value)(s':Shared):Prop :=
 ∃v H',s'.os=s.os/\AllBare s'.gens/\Un (p9 outer) [] H H' s.heap s'.heap/\nJ P w H' s'.heap/\RelV v u/\Q v H'
def CR(CX:zD)(outer:List Env)(P:Program)(w:World)(H:Hp)(s:Shared)(Q:VK)(E:XK)(r:Result)(s':Shared):Prop :=
 match r with
 | .ok (.ret u)=>CE outer P w H s Q u s'
 | .ok _=>False
 | .error e=>CX outer H s E e s'
structure bK(P:Program)(w:World)(K:aC)(mg:Str->Option Value)(base:Heap)(CX:zD)(k:Nat)(f:Addr)(fd:FuncData)(ps:List Str)(sp:Sp)(cm:Bool:=true):Prop where
 len:∀vs H Q E,sp vs H Q E->vs.length=ps.length
 run:∀(A:Around) (outer:List Env) (s:Shared) (H:Hp) (args:Args) (us:List Value) (vs:List V) (Q:VK) (E:XK),dW k A cm->zE P w K mg base A outer s H->BindsTo s fd args (ps.zip us)->Vals vs us->sp vs H Q E ->
  codeAny (model P w) A (.call (.ref f) args) (CR CX outer P w H s Q E) s
theorem zE.make{P:Program}{w:World}{K:aC}{mg:Str->Option Value}{base:Heap}{A:Around}{outer:List Env}{s:Shared}{H:Hp}(e:zE P w K mg base A outer s H)(C:Addr)(us:List Value)(kw:List (Str×Value)):
  zE P w K mg base (A.under (.builtin "type.__call__" ⟨.ref C::us,kw⟩)) outer s H:=⟨by first | exact e.frames | (simpa [Around.under,Code.envs,Code.isFrame,pushEnvs]using e.frames),e.mod,e.bs,e.bsz,e.oZ,e.frf,e.hok,e.bare⟩
section
variable {X:Cx} {pins:List (Addr×Obj)} {σ:St} {H:Hp} {s s':Shared}
theorem Inv.Oa(I:Inv X pins σ H s):zE X.prog X.w X.K X.mg X.base X.A X.stack s H :=
 ⟨I.ok.frames,I.ok.mod,I.bs,aau I.ok.bsz I.sz,I.stack,I.qZ,I.hok,I.bare⟩
theorem Inv.after{Q:VK}{u:Value}(I:Inv X pins σ H s)(h:CE X.stack X.prog X.w H s Q u s'):EP X pins σ Q u s':=by
 obtain⟨v,H',os,bare,un,hok,r,q⟩:=h;obtain⟨hh,g,d,t,os'⟩:=s';obtain rfl:os'=s.os:=os;exact⟨v,H',I.call (h':=hh) (g':=g) (d':=d) (t':=t) (ch:=[]) un hok bare (λb z=>absurd z (by simp)),r,q⟩
end
def Bi(sp:Sp)(dvs:List V)(E:XK)(t:TA):TE:=λσ H Q=>t σ H λvs H1=>sp (vs++dvs) H1 Q E
inductive RW(C:Addr)(m:Str)(x:V)(H:Hp)(R:Prop):Prop where
 | mk (a dx:Addr) (fs:List (Str×V)) (e:x=.ref a) (h:H a=some (.ins C dx fs)) (l:fs.lookup m=none) (r:R):RW C m x H R
def Binds(K:aC)(fd:FuncData)(ps:List Str)(ds:List Value):Prop :=
 ∀(s:Shared) (us:List Value),K.In s.heap->(us++ds).length=ps.length->BindsTo s fd ⟨us,[]⟩ (ps.zip (us++ds))
theorem Binds.all{K:aC}{fd:FuncData}{ps:List Str}(h:∀us:List Value,us.length=ps.length->bindArgs fd ⟨us,[]⟩=pure (ps.zip us)):Binds K fd ps []:=λs us _ hl=>by
 rw[aaM]at hl ⊢;exact .of_eq (h us hl)
def Passes(CX:zD)(X:Cx)(E:XK):Prop:=∀(pins:List (Addr×Obj)) (σ:St) (H:Hp) (s:Shared) (e:Value) (s':Shared),Inv X pins σ H s->CX X.stack H s E e s'->X.xe e s'
section
variable {X:Cx} {CX:zD} {k:Nat} {f C:Addr} {fd:FuncData} {ps:List Str} {sp:Sp} {dvs:List V} {ds:List Value} {E:XK} {x m:Str} {p pos apos:Pos} {e o:Expr} {es:List Expr} {ta:TE} {t:TA}
theorem Oc{pins:List (Addr×Obj)}{σ:St}{H:Hp}{s:Shared}{Q:VK}{us:List Value}{vs:List V}(F:bK X.prog X.w X.K X.mg X.base CX k f fd ps sp)(hr:dW k X.A)(hb:Binds X.K fd ps ds)(hd:Vals dvs ds)(hx:Passes CX X E)
  (I:Inv X pins σ H s) (r:Vals vs us) (h:sp (vs++dvs) H Q E):wpAny (model X.prog X.w) X.A (call (.ref f) us) (EP X pins σ Q) X.xe s:=by
 have r2:Vals (vs++dvs) (us++ds):=r.append hd;have hl:(us++ds).length=ps.length:=by rw[← r2.length];exact F.len _ _ _ _ h
 refine acK (aci (F.run X.A X.stack s H ⟨us,[]⟩ (us++ds) (vs++dvs) Q E hr I.Oa (hb s us I.nK hl) r2 h) λr s' hq=>?_)
 cases r with
 | error e=>exact hx pins σ H s e s' I hq
 | ok fl =>
  cases fl with
  | ret u=>exact I.after hq
  | next=>exact False.elim hq
  | brk=>exact False.elim hq
  | cont=>exact False.elim hq
theorem Bj(F:bK X.prog X.w X.K X.mg X.base CX k f fd ps sp)(hr:dW k X.A)(hg:Gl X x)(hm:X.mg x=some (.ref f))(hk:PySem.W.keepIn X.K (.ref f)=true)(hb:Binds X.K fd ps ds)(hd:Vals dvs ds)(hx:Passes CX X E)
  (ha:PA X (e::es) t) (hdb:(x == ("__debug__" : Str))=false:=by decide) (he:starEach (e::es) X.env=(false,eval e X.env)::starEach es X.env:=by rfl) (hpl:(backTo pos (starEach es X.env)).any (·.1)=false:=by rfl) :
  PE X (.Call (.Name x p) (e::es) [] pos) (Bi sp dvs E t):=by
 intro pins s σ H Q I h;refine abi (nM I hg hm ?_ hdb);refine ab5 (h₀:=X.base) I.ok.mod.kin hk (cU (ha pos pins s σ H _ I h) λus s1 ⟨vs,H1,I1,r,q⟩=>⟨I1.nK,?_⟩) he hpl;exact Oc F hr hb hd hx I1 r q
structure Mk(K:aC)(C f:Addr):Prop where
 makes:PySem.W.makesIn K C=true
 init:PySem.W.findIn K (.ref C) "__init__"=some (some (.ref f))
 fn:PySem.W.isFn K (.ref f)=true
 kp:PySem.W.keepIn K (.ref C)=true
end
section
variable {X:Cx} {CX:zD} {k:Nat} {f C:Addr} {fd:FuncData} {ps ks:List Str} {sp:Sp} {E:XK} {x m:Str} {p pos apos kpos:Pos} {e o:Expr} {es:List Expr} {kws:List Keyword} {te ta:TE} {t tk:TA} {nm:Option Str}
structure Vv(K:aC)(fd:FuncData)(ps ks:List Str)(g:List Value->List Value->List Value)(gV:List V->List V->List V):Prop where
 to:∀(s:Shared) (us ws:List Value),K.In s.heap->(g us ws).length=ps.length->BindsTo s fd ⟨us,ks.zip ws⟩ (ps.zip (g us ws))
 rel:∀{vs:List V} {us:List Value} {zs:List V} {ws:List Value},Vals vs us->Vals zs ws->Vals (gV vs zs) (g us ws)
variable {g:List Value->List Value->List Value} {gV:List V->List V->List V}
end
structure aH(N P:List Str)(sc:Scope):Prop where
 kind:sc.kind=.function
 co:sc.isCoroutine=false
 gen:sc.isGenerator=false
 nd:N.Nodup
 pre:N.take P.length=P
 par:∀x∈P,sc.names.lookup x=some .local∨sc.names.lookup x=some .cell
 nofree:∀y∈sc.names,y.2≠.free
theorem uD{kindOf:Str->Option NameKind}{x:Str}:∀{binds:List (Str×Value)} {m:Str->Option Value},(∀v,(x,v)∉binds)->bindL kindOf binds m x=m x
 | [],_,_=>rfl
 | (n,v)::r,m,h=>by
  unfold bindL;rw[uD λw hw=>h w (List.mem_cons_of_mem _ hw)];split
  ·have:x≠n:=by rintro rfl;exact h v aaN
   simp[this]
  ·rfl
theorem uE{kindOf:Str->Option NameKind}{x:Str}:∀{binds:List (Str×Value)} {m:Str->Option Value},(∀v,(x,v)∉binds)->bindC kindOf binds m x=m x
 | [],_,_=>rfl
 | (n,v)::r,m,h=>by
  unfold bindC;rw[uE λw hw=>h w (List.mem_cons_of_mem _ hw)];split
  ·rfl
  ·have:x≠n:=by rintro rfl;exact h v aaN
   simp[this]
theorem uF{kindOf:Str->Option NameKind}{x:Str}{v:Value}:∀{P:List Str} {vs:List Value} {i:Nat} {m:Str->Option Value},P.Nodup->P[i]?=some x->vs[i]?=some v->kindOf x=some .local ->
  bindL kindOf (P.zip vs) m x=some v
 | [],_,_,_,_,h,_,_=>by simp at h
 | _::_,[],_,_,_,_,h,_=>by simp at h
 | p::P,w::vs,0,m,nd,h1,h2,hk=>by
  simp at h1 h2;subst h1;subst h2;show bindL kindOf ((p,w)::P.zip vs) m p=_;unfold bindL;rw[uD λv hv=>(List.nodup_cons.mp nd).1 (List.of_mem_zip hv).1,if_pos hk];simp
 | p::P,w::vs,i + 1,m,nd,h1,h2,hk=>by
  show bindL kindOf ((p,w)::P.zip vs) m x=_;unfold bindL;exact uF (i:=i) (List.nodup_cons.mp nd).2 (by simpa using h1) (by simpa using h2) hk
theorem uG{kindOf:Str->Option NameKind}{x:Str}{v:Value}:∀{P:List Str} {vs:List Value} {i:Nat} {m:Str->Option Value},P.Nodup->P[i]?=some x->vs[i]?=some v->kindOf x≠some .local ->
  bindC kindOf (P.zip vs) m x=some v
 | [],_,_,_,_,h,_,_=>by simp at h
 | _::_,[],_,_,_,_,h,_=>by simp at h
 | p::P,w::vs,0,m,nd,h1,h2,hk=>by
  simp at h1 h2;subst h1;subst h2;show bindC kindOf ((p,w)::P.zip vs) m p=_;unfold bindC;rw[uE λv hv=>(List.nodup_cons.mp nd).1 (List.of_mem_zip hv).1,if_neg hk];simp
 | p::P,w::vs,i + 1,m,nd,h1,h2,hk=>by
  show bindC kindOf ((p,w)::P.zip vs) m x=_;unfold bindC;exact uG (i:=i) (List.nodup_cons.mp nd).2 (by simpa using h1) (by simpa using h2) hk
def start(N:List Str)(vs:List V):St:=vs.map some++List.replicate (N.length - vs.length) none
def rL(CX:zD)(P:Program)(w:World)(K:aC)(mg:Str->Option Value)(base:Heap)(N:List Str)(qual:Str)(scope:Scope)(f:Addr)(cd:Value)(A:Around)(outer:List Env)(s:Shared)(H:Hp)(E:XK)(cm:Bool:=true):Cx where
 prog:=P
 w:=w
 K:=K
 mg:=mg
 base:=base
 A:=A.deeper (envOfC qual scope s.heap.objs.size f cd)
 N:=N
 s₀:=s
 H₀:=H
 env:=envOfC qual scope s.heap.objs.size f cd
 outer:=outer
 stack:=envOfC qual scope s.heap.objs.size f cd::outer
 ex:=[]
 calm:=cm
 fn:=λ_=>true
 pn:=[]
 xe:=λe s'=>wpAny (model P w) (A.deeper (envOfC qual scope s.heap.objs.size f cd)) (leaving (envOfC qual scope s.heap.objs.size f cd) e) (λ_ s''=>CX outer H s E e s'') (λe' s''=>CX outer H s E e' s'') s'
theorem xQ{sc:Scope}{n:Nat}{x:Str}(h:sc.names.lookup x=some .cell):∃c,(cellsFrom n sc.names []).lookup x=some c:=by
 have q:=acA sc.names n [] (.inl h);exact Option.isSome_iff_exists.mp q
theorem CF{cm:Bool}{CX:zD}{P:Program}{w:World}{K:aC}{mg:Str->Option Value}{base:Heap}{N ps:List Str}{qual:Str}{scope:Scope}{f:Addr}{cd:Value}{A:Around}{outer:List Env}{s s1:Shared}{H:Hp}{E:XK}{us:List Value}{vs:List V}
  (S:aH N ps scope) (hd:cm=true->A.handled=none) (e0:zE P w K mg base A outer s H) (hl:vs.length=ps.length) (r:Vals vs us)
  (x:InCallC s s.heap.objs.size (bindL (envOfC qual scope s.heap.objs.size f cd).kindOf (ps.zip us) λ_=>none) (cellsFrom (s.heap.objs.size + 1) scope.names []) (bindC (envOfC qual scope s.heap.objs.size f cd).kindOf (ps.zip us) λ_=>none) s1) :
  Inv (rL CX P w K mg base N qual scope f cd A outer s H E cm) [] (start N vs) H s1:=by
 have hpl:ps.length<=N.length:=by have:=abl List.length S.pre;rw[aaG]at this;omega
 obtain⟨h1,tk,rfl,hk⟩:=x.done;have noA:∀b:Addr,b∉(rL CX P w K mg base N qual scope f cd A outer s H E cm).ex:=λb z=>absurd (show b∈([]:List Addr)from z) (by simp)
 refine⟨⟨e0.mod,S.kind,rfl,rfl,aag _,λy z c h1 h2=>?_,λy hy=>?_,λy c _ h=>?_,hd,Around.frames_deeper e0.frames,.inr ⟨rfl,rfl⟩,λb z=>absurd z (noA b),e0.bs,e0.bsz,λb _ _=>noA b,λb z=>absurd z (noA b),e0.oZ,e0.frf⟩,
  rfl,e0.bare,Un.kept hk,⟨_,x.toInCall.ns,λi y v h1 h2 h3=>?_⟩,λy c h=>⟨_,x.cell y c h⟩,e0.hok.fresh (Nat.le_refl _),λy c h=>?_,λp hp=>absurd (show p∈([]:List (Addr×Obj))from hp) (by simp),e0.hok.kept hk,?_⟩
 ·exact name_of_addr x.apart (abd h1) (abd h2)
 ·have hy:scope.names.lookup y=some .cell∨scope.names.lookup y=some .free:=hy;rcases hy with hy | hy
  ·exact xQ hy
  ·exact absurd rfl (S.nofree _ (abd hy))
 ·exact abC (x.above y c (abd h))
 ·have hi:i < vs.length:=by
   unfold start at h2;by_cases hi:i < vs.length
   ·exact hi
   ·rw[List.getElem?_append_right (by simpa using hi)]at h2;rw[List.getElem?_replicate]at h2;split at h2<;>cases h2
  have ha:vs[i]?=some v:=by
   unfold start at h2;rw[List.getElem?_append_left (by simpa using hi),List.getElem?_map]at h2
   cases e:vs[i]? with
   | none=>rw[e]at h2;cases h2
   | some a=>rw[e]at h2;cases h2;rfl
  obtain⟨u,hu,rv⟩:=r.get ha
  have hp:ps[i]?=some y:=by
   rw[← S.pre,abD (by omega)];exact h1
  have ndP:ps.Nodup:=by rw[← S.pre];exact S.nd.sublist (List.take_sublist _ _)
  refine⟨u,rv,?_⟩;rcases S.par y (aaf hp)with k | k
  ·exact .inl ⟨k,uF ndP hp hu k⟩
  ·obtain⟨c,e⟩:=xQ (n:=s.heap.objs.size + 1) k;refine .inr ⟨.inl k,c,e,?_⟩;have q:=x.cell y c e;rw[uG ndP hp hu (by show scope.names.lookup y≠_;rw[k];decide)]at q;exact q
 ·exact e0.hok.fresh (abC (x.above y c (abd h)))
 ·unfold start;show _=N.length;rw[List.length_append,List.length_map,List.length_replicate];omega
theorem MB{cm:Bool}{CX:zD}{P:Program}{w:World}{K:aC}{mg:Str->Option Value}{base:Heap}{k:Nat}{f:Addr}{name qual:Str}{params:Arguments}{body:List Stmt}{scope:Scope}{dV kV doc pm cdv ct oc:Value}{an od:Option Addr}
  {osl:Array (Option Value)} {N ps:List Str} {sp:Sp} (lk:K.lookup f=some ⟨oc,od,.func (PySem.W.fnOf name qual params body scope dV kV doc pm an cdv ct),osl⟩) (hcd:PySem.W.codeIn K cdv qual=true) (S:aH N ps scope)
  (len:∀vs H Q E,sp vs H Q E->vs.length=ps.length)
  (hbody:∀(A:Around) (outer:List Env) (s:Shared) (H:Hp) (vs:List V) (Q:VK) (E:XK),dW k (A.deeper (envOfC qual scope s.heap.objs.size f cdv)) cm->sp vs H Q E ->
   ∃t,qD (rL CX P w K mg base N qual scope f cdv A outer s H E cm) body t/\t {nx:=λ_ H'=>Q .non H',rt:=Q} (start N vs) H) :
  bK P w K mg base CX (k + 1) f (PySem.W.fnOf name qual params body scope dV kV doc pm an cdv ct) ps sp cm:=by
 refine⟨len,λA outer s H args us vs Q E hr e0 hb r hsp=>?_⟩;have hl:=len _ _ _ _ hsp;have KX:K.In s.heap:=e0.mod.kin.keeps λb o e=>(e0.bs b o e).1
 have lim:s.heap.NoLimit:=e0.mod.nolimit.keeps λb o e=>(e0.bs b o e).1
 have hkind:∀y∈ps.zip us,scope.names.lookup y.1=some .local∨(scope.names.lookup y.1=some .cell/\((cellsFrom (s.heap.objs.size + 1) scope.names []).lookup y.1).isSome=true):=λ⟨n,v⟩ hy=>by
  rcases S.par n (List.of_mem_zip hy).1 with q | q
  ·exact .inl q
  ·exact .inr ⟨q,acA _ _ _ (.inl q)⟩
 refine codeAny_call_function hr.depth (KX _ _ lk) rfl S.co S.gen rfl (PySem.W.codeRec_of KX hcd) (hb _ _ _ _ ?_);refine wpAny_newFunctionEnv_cells S.kind hkind λenv he s1 x=>?_
 subst he;refine⟨lim.keeps x.toInCall.keep,codeAny_func ?_⟩;obtain⟨t,ht,hq⟩:=hbody A outer s H vs Q E (hr.deeper _) hsp;have I:Inv (rL CX P w K mg base N qual scope f cdv A outer s H E cm) [] (start N vs) H s1:=CF S hr.hd e0 hl r x;refine aaJ (ht [] s1 (start N vs) H _ I hq) (λfl s' hs=>?_) λe s' hs=>hs
 have fin:∀{σ':St} {H':Hp} {v:V} {u:Value},Inv (rL CX P w K mg base N qual scope f cdv A outer s H E cm) [] σ' H' s'->RelV v u->Q v H'->CE outer P w H s Q u s' :=
  λ{σ' H' v u} J rv q=>⟨v,H',J.os,J.bare,J.base,J.hok,rv,q⟩
 cases fl with
 | ret u =>
  obtain⟨v,σ',H',J,rv,q⟩:=hs;exact fin J rv q
 | next =>
  obtain⟨σ',H',J,q⟩:=hs;exact fin (v:=V.non) (u:=Value.none) J rfl q
 | brk =>
  obtain⟨_,_,_,q⟩:=hs;exact False.elim q
 | cont =>
  obtain⟨_,_,_,q⟩:=hs;exact False.elim q
section
variable {X:Cx} {x:Str} {p pos:Pos} {e:Expr} {es:List Expr} {t:TA} {id T:String} {r:List V->Hp->VK->Prop}
def Vw(r:List V->Hp->VK->Prop)(t:TA):TE:=λσ H Q=>t σ H λvs H1=>r vs H1 Q
theorem cn(hc:eO X (.builtin id) r)(hg:Gl X x)(hm:X.mg x=none)(hv:bootBuiltins x=some (.builtin id))(ha:PA X (e::es) t)(hn:x≠"__name__":=by decide)(hdb:(x == ("__debug__" : Str))=false:=by decide)
  (he:starEach (e::es) X.env=(false,eval e X.env)::starEach es X.env:=by rfl) (hpl:(backTo pos (starEach es X.env)).any (·.1)=false:=by rfl):PE X (.Call (.Name x p) (e::es) [] pos) (Vw r t):=by
 intro pins s σ H Q I h;refine abi (ju I hg hm hv ?_ hn hdb);exact PyProof.Rows.callWith_builtin1 (cU (ha pos pins s σ H _ I h) λus s1 ⟨vs,H1,I1,r1,q1⟩=>hc pins s1 σ H1 vs us Q I1 r1 q1) he hpl
theorem i8(hc:eO X (.type T) r)(hg:Gl X x)(hm:X.mg x=none)(hv:bootBuiltins x=some (.type T))(ha:PA X (e::es) t)(hn:x≠"__name__":=by decide)(hdb:(x == ("__debug__" : Str))=false:=by decide)
  (he:starEach (e::es) X.env=(false,eval e X.env)::starEach es X.env:=by rfl) (hpl:(backTo pos (starEach es X.env)).any (·.1)=false:=by rfl):PE X (.Call (.Name x p) (e::es) [] pos) (Vw r t):=by
 intro pins s σ H Q I h;refine abi (ju I hg hm hv ?_ hn hdb);exact aaK (cU (ha pos pins s σ H _ I h) λus s1 ⟨vs,H1,I1,r1,q1⟩=>hc pins s1 σ H1 vs us Q I1 r1 q1) he hpl
end
end L2
namespace HT
open PySem PyProof.Rows
section
open PySem.SeqAt
open PySem.AutoSeq1 (wpAny_loadPart')
open PySem.MeetsSeq PySem.MeetsSeq2 PySem.MeetsSeq3
end
section
variable {prog:Program} {w:World} {A:Around} {E:Value->Shared->Prop} {s:Shared}
theorem Jk{t b:Addr}{vs ws:List Value}{Q:Value->Shared->Prop}(ht:IsTup s.heap t vs.toArray)(hb:IsTup s.heap b ws.toArray)(hv:vs≠[])
  (h1:ws=[]->Q (.ref t) s) (h2:ws≠[]->Q (.ref s.heap.objs.size) {s with heap:=s.heap.push {cls:=.type "tuple",data:=.seq (vs++ws).toArray}})
  (hsz:vs.length + ws.length<=sizeLine):wpAny (model prog w) A (binaryOp .Add (.ref t) (.ref b)) Q E s:=by
 obtain⟨⟨cls,dd,data,sl⟩,ho,hc,n,hd⟩:=id ht;obtain⟨⟨Zt,X0,data2,Od⟩,D9,Oe,n2,hd2⟩:=id hb;simp only at hc hd Oe hd2;subst hc hd Oe hd2;have e:vs.toArray++ws.toArray=(vs++ws).toArray:=by simp
 by_cases hw:ws=[]
 ·exact concat_meets ⟨_,ho,rfl⟩ ⟨_,D9,rfl⟩ noFill_tuple_add seq_tuple_add acB acw (acj _ _)
   (tuple_addW1 t b vs.toArray ws.toArray n n2 dd X0 sl Od (by simpa using hv) (by simp[hw])) ⟨ho,D9,h1 hw⟩
 ·refine concat_meets ⟨_,ho,rfl⟩ ⟨_,D9,rfl⟩ noFill_tuple_add seq_tuple_add acB acw (acj _ _)
   (tuple_addW2 t b vs.toArray ws.toArray n n2 dd X0 sl Od (by simpa using hv) (by simpa using hw) (by rw[List.size_toArray,List.size_toArray];exact hsz)) ⟨ho,D9,?_⟩
  rw[e];exact h2 hw
def eh(n d:Nat):Option Int->Nat
 | none=>d
 | some v=>if v < 0 then(v + (n:Int)).toNat else min v.toNat n
theorem kz(n d:Nat):eh n d none=d:=rfl
theorem mj(n d k:Nat):eh n d (some (k:Int))=min k n:=by
 show(if (k:Int) < 0 then((k:Int) + (n:Int)).toNat else min (k:Int).toNat n)=min k n;rw[aak (by omega),aaP]
theorem Of(n d:Nat)(hd:d<=n)(o:Option Int):eh n d o<=n:=by
 cases o with
 | none=>exact hd
 | some v =>
  show(if v < 0 then(v + (n:Int)).toNat else min v.toNat n)<=n;by_cases hv:v < 0
  ·rw[aan hv];omega
  ·rw[aak hv];exact Nat.min_le_right _ _
theorem Bk(v:Int)(n d:Nat):(if v < 0 then max (v + (n:Int)) 0 else min v (n:Int))=((eh n d (some v):Nat):Int):=by
 show(if v < 0 then max (v + (n:Int)) 0 else min v (n:Int))=(((if v < 0 then(v + (n:Int)).toNat else min v.toNat n):Nat):Int);by_cases hv:v < 0
 ·simp only[if_pos hv];omega
 ·simp only[if_neg hv];omega
theorem zF(lo hi:Option Int)(n:Nat):Builtin.Slice.sliceAdjust lo hi 1 (n:Int)=(((eh n 0 lo:Nat):Int),((eh n n hi:Nat):Int)):=by
 have h1:¬ ((1:Int) < 0):=by omega
 unfold Builtin.Slice.sliceAdjust;simp only[h1,if_false];refine Prod.ext ?_ ?_
 ·cases lo with
  | none=>rfl
  | some v=>exact Bk v n 0
 ·cases hi with
  | none=>rfl
  | some v=>exact Bk v n n
theorem zG(i j:Nat):Builtin.Slice.slicePlaces (i:Int) (j:Int) 1=j - i:=by
 unfold Builtin.Slice.slicePlaces;have h1:(1:Int) > 0:=by omega
 simp only[h1,if_true,Int.ediv_one];split<;>omega
theorem rM{v:Value}{o:Option Int}{Q:Option Int->Shared->Prop}(p:IsPart v o)(h:Q o s):wpAny (model prog w) A (Builtin.Slice.slicePartIndex v) Q E s:=by
 cases p with
 | none=>exact slicePart_none h
 | int i t=>exact slicePart_int h
theorem i9{sl:Addr}{vl vu:Value}{lo hi:Option Int}{n:Nat}{Q:Int×Int×Nat->Shared->Prop}(hs:s.heap.IsSliceOf sl vl vu .none)(pl:IsPart vl lo)(pu:IsPart vu hi)
  (h:Q (((eh n 0 lo:Nat):Int),1,eh n n hi - eh n 0 lo) s):wpAny (model prog w) A (Builtin.Slice.sliceApplied (.ref sl) (pure (n:Int))) Q E s:=by
 obtain⟨os,hos,hcs,hds⟩:=id hs;unfold Builtin.Slice.sliceApplied Builtin.Slice.sliceFields;refine wpAny_bind (wpAny_bind (wpAny_field hos hds (x:=vl) rfl (wpAny_bind (wpAny_field hos hds (x:=vu) rfl (wpAny_bind (wpAny_field hos hds (x:=.none) rfl (wpAny_pure ?_)))))));refine wpAny_bind (slicePart_none ?_);show wpAny _ _ (if ((1:Int) == 0)=true then _ else _) _ _ s;rw[if_neg (by decide)];refine wpAny_bind (rM pl (wpAny_bind (rM pu (wpAny_bind (wpAny_pure ?_)))));show wpAny _ _ (match Builtin.Slice.sliceAdjust lo hi 1 (n:Int)with | (lo,hi)=>pure (lo,(1:Int),Builtin.Slice.slicePlaces lo hi 1)) _ _ s;rw[zF lo hi n];show wpAny _ _ (pure (((eh n 0 lo:Nat):Int),(1:Int),Builtin.Slice.slicePlaces ((eh n 0 lo:Nat):Int) ((eh n n hi:Nat):Int) 1)) _ _ s;rw[zG];exact wpAny_pure h
theorem Ez(xs:Array Value)(i k:Nat):((List.range k).filterMap λ(m:Nat)=>xs[((i:Int) + (m:Int) * 1).toNat]?).toArray=((xs.toList.drop i).take k).toArray:=by
 have e:(λ(m:Nat)=>xs[((i:Int) + (m:Int) * 1).toNat]?)=λm=>xs[i + m]?:=by
  funext m
  have:((i:Int) + (m:Int) * 1).toNat=i + m:=by omega
  rw[this]
 rw[e];have:=pick_run xs i k;rw[List.filterMap_map]at this;have e2:((λx=>xs[x]?) ∘ λx=>i + x)=λm=>xs[i + m]?:=rfl
 rw[e2]at this;rw[this]
theorem nR{t sl:Addr}{items:Array Value}{vl vu:Value}{lo hi:Option Int}{Q:Value->Shared->Prop}(ht:IsTup s.heap t items)(hs:s.heap.IsSliceOf sl vl vu .none)(pl:IsPart vl lo)(pu:IsPart vu hi)
  (hw:¬ (eh items.size 0 lo=0/\eh items.size items.size hi=items.size))
  (h:Q (.ref s.heap.objs.size) {s with heap:=s.heap.push {cls:=.type "tuple",data:=.seq ((items.toList.drop (eh items.size 0 lo)).take (eh items.size items.size hi - eh items.size 0 lo)).toArray}})
  (hsz:items.size<=sizeLine):wpAny (model prog w) A (getItem (.ref t) (.ref sl)) Q E s:=by
 have htake:sizeOk (.seq ((items.toList.drop (eh items.size 0 lo)).take (eh items.size items.size hi - eh items.size 0 lo)).toArray):=by
  show((items.toList.drop (eh items.size 0 lo)).take (eh items.size items.size hi - eh items.size 0 lo)).toArray.size<=sizeLine;rw[aaL,aaG,aaW,Array.length_toList];omega
 have hj:eh items.size items.size hi<=items.size:=Of _ _ (Nat.le_refl _) hi;obtain⟨os,hos,hcs,hds⟩:=id hs;have hTs:s.TypeIs (.ref sl) "slice":=⟨os,hos,hcs⟩;unfold getItem
 try with_reducible refine abx ?_
 first | refine aae (aar ?_) | skip
 refine aae (wpAny_sequenceKey ht.typeIs (by decide) ?_);refine aae (wpAny_callSpecial?_slot (name:=Str.ofString "__getitem__") ht.typeIs abe
  (wpAny_call_entry abe ht.typeIs entry_tuple_getitem ?_ (args_tuple_getitem _ _)))
 show wpAny _ _ (Builtin.Tuple.tupleItemsOf (.ref t) >>= _) _ _ s;refine aae (tupleItemsOf_ ht ?_);refine aae (wpAny_typeOf hTs ?_);rw[aan (by decide)];refine aae (i9 hs pl pu ?_)
 have hno:¬ ((((eh items.size 0 lo:Nat):Int) == 0&&(1:Int) == 1&&(eh items.size items.size hi - eh items.size 0 lo) == items.size)=true):=by
  intro q;rw[aa2,aa2]at q;have q1:((eh items.size 0 lo:Nat):Int)=0:=eq_of_beq q.1.1;have q2:eh items.size items.size hi - eh items.size 0 lo=items.size:=eq_of_beq q.2;exact hw ⟨by omega,by omega⟩
 show wpAny _ _ (if (((eh items.size 0 lo:Nat):Int) == 0&&(1:Int) == 1&&(eh items.size items.size hi - eh items.size 0 lo) == items.size)=true then _ else _) _ _ s;rw[aak hno,Ez]
 first
  | exact aae (m:=Builtin.Tuple.tupleExact _) (abo (aar ⟨_,rfl,aar h⟩) htake)
  | exact aae (m:=Builtin.Tuple.tupleExact _) (abo (aae (aar (aar ⟨_,rfl,aar h⟩))) htake)
  | exact aae (aae (m:=Builtin.Tuple.tupleExact _) (abo (aar (aar ⟨_,rfl,aar h⟩)) htake))
  | exact aae (aae (m:=Builtin.Tuple.tupleExact _) (abo (aar ⟨_,rfl,aar h⟩) htake))
end
end HT
namespace L2
open PySem PySem.Spec PyProof.Rows
abbrev TO:=St->Hp->(Option Int->Hp->Prop)->Prop
def PO(X:Cx)(e:Option Expr)(t:TO):Prop :=
 ∀(pins:List (Addr×Obj)) (s:Shared) (σ:St) (H:Hp) (Q:Option Int->Hp->Prop),Inv X pins σ H s->t σ H Q ->
  wpAny (model X.prog X.w) X.A (evalPart e X.env) (λu s'=>∃o H',Inv X pins σ H' s'/\IsPart u o/\Q o H') X.xe s
def Jl:TO:=λ_ H Q=>Q none H
def RX(t:TE):TO:=λσ H Q=>t σ H λx H1=>∃i,x=.int i/\Q (some i) H1
theorem intsAre_of{ns:List Int}:∀{us:List Value},Vals (ns.map V.int) us->IntsAre us ns:=by
 induction ns with
 | nil=>intro us r;rw[acS]at r;cases r;exact .nil
 | cons n ns ih =>
  intro us r;rw[aa7]at r
  cases r with
  | cons r1 r2 =>
   obtain⟨t,e⟩:=r1;subst e;exact .cons n t (ih r2)
section
variable {X:Cx} {e:Expr} {te:TE} {lo hi:Option Expr} {tl th:TO} {pos p2:Pos}
theorem jx:PO X none Jl:=by
 intro pins s σ H Q I h;rw[evalPart_none];exact aar ⟨none,H,I,.none,h⟩
theorem jy(h:PE X e te):PO X (some e) (RX te):=by
 intro pins s σ H Q I hw;rw[evalPart_some];refine cU (h pins s σ H _ I hw) λu s1 ⟨x,H1,I1,r1,q1⟩=>?_
 obtain⟨i,rfl,q⟩:=q1;obtain⟨t,rfl⟩:=r1;exact⟨some i,H1,I1,.int i t,q⟩
def ID(X:Cx)(r:V->Option Int->Option Int->Hp->VK->Prop):Prop :=
 ∀(pins:List (Addr×Obj)) (s:Shared) (σ:St) (H:Hp) (x:V) (v vl vu:Value) (lo hi:Option Int) (sl:Addr) (Q:VK),Inv X pins σ H s->RelV x v->s.heap.IsSliceOf sl vl vu .none->IsPart vl lo->IsPart vu hi->r x lo hi H Q ->
  ∃T id,typeLookup (.type T) "__getitem__"=pure (some (.builtin id))/\s.TypeIs v T/\wpAny (model X.prog X.w) X.A (getItem v (.ref sl)) (EP X pins σ Q) X.xe s
def Zu(r:V->Option Int->Option Int->Hp->VK->Prop)(te:TE)(tl th:TO):TE:=λσ H Q=>te σ H λx H1=>tl σ H1 λl H2=>th σ H2 λu H3=>r x l u H3 Q
theorem gI{r:V->Option Int->Option Int->Hp->VK->Prop}(hr:ID X r)(he:PE X e te)(hl:PO X lo tl)(hu:PO X hi th):PE X (.Subscript e (.Slice lo hi none p2) pos) (Zu r te tl th):=by
 intro pins s σ H Q I h;refine Subscript_ (cU (he pins s σ H _ I h) λv s1 ⟨x,H1,I1,r1,q1⟩=>?_);refine wpAny_Slice (cU (hl pins s1 σ H1 _ I1 q1) λvl s2 ⟨l,H2,I2,pl,q2⟩=>cU (hu pins s2 σ H2 _ I2 q2) λvu s3 ⟨u,H3,I3,pu,q3⟩=>?_);rw[evalPart_none];refine aar ?_;have I4:Inv X pins σ H3 {s3 with heap:=s3.heap.push {cls:=.type "slice",data:=.fields #[vl,vu,.none]}}:=I3.kept (t':=s3.toks) λb ob q=>aaa _ q
 obtain⟨T,id,hT,ht,hg⟩:=hr pins {s3 with heap:=s3.heap.push {cls:=.type "slice",data:=.fields #[vl,vu,.none]}} σ H3 x v vl vu l u s3.heap.objs.size Q I4 r1 (Heap.IsSliceOf.new ..) pl pu q3;show wpAny (model X.prog X.w) X.A (subscriptTail e (.Slice lo hi none p2) v (.ref s3.heap.objs.size)) (EP X pins σ Q) X.xe {s3 with heap:=s3.heap.push {cls:=.type "slice",data:=.fields #[vl,vu,.none]}};exact tail_any (ops:=[.ref s3.heap.objs.size,v]) ht hT hg (by with_unfolding_all rfl)
def jz(xs:List V)(lo hi:Option Int):List V:=(xs.drop (HT.eh xs.length 0 lo)).take (HT.eh xs.length xs.length hi - HT.eh xs.length 0 lo)
theorem qf(xs:List V)(lo hi:Option Int):(jz xs lo hi).length<=xs.length:=by
 unfold jz;rw[List.length_take,List.length_drop];omega
def Vx(K:aC):V->Option Int->Option Int->Hp->VK->Prop:=λx lo hi H Q=>∃a xs,x=.ref a/\bz K H a xs /\
 ¬ (HT.eh xs.length 0 lo=0/\HT.eh xs.length xs.length hi=xs.length)/\∀p,H p=none->Q (.ref p) (upd H p (.tup (jz xs lo hi)))
theorem Og:ID X (Vx X.K):=by
 intro pins s σ H x v vl vu lo hi sl Q I rx hs pl pu h;obtain⟨a,xs,rfl,hx,hw,q⟩:=h;cases rx;obtain⟨its,r,ht,hz⟩:=I.tuple hx;have hlen:its.toArray.size=xs.length:=by rw[aaL];exact r.length.symm
 refine⟨"tuple",_,abe.lookup,ht.typeIs,?_⟩;refine HT.nR ht hs pl pu (by rw[hlen];exact hw) ?_ (by rw[hlen];exact hz);rw[hlen];refine⟨.ref s.heap.objs.size,_,I.laid (t':=s.toks) (o:=.tup (jz xs lo hi)) (λb ob q=>aaa _ q) (aag _) ?_,rfl,q _ (I.hok.fresh (aag _))⟩;exact⟨aau (qf xs lo hi) hz,_,(r.drop (HT.eh xs.length 0 lo)).take (HT.eh xs.length xs.length hi - HT.eh xs.length 0 lo),IsTup.new _ _⟩
def RY(K:aC):R2:=λx y H Q=>∃a b xs ys,x=.ref a/\y=.ref b/\bz K H a xs/\bz K H b ys/\xs≠[]/\xs.length + ys.length<=sizeLine /\
 (ys=[]->Q (.ref a) H)/\(ys≠[]->∀p,H p=none->Q (.ref p) (upd H p (.tup (xs++ys))))
theorem Vals.vK{xs:List V}{us:List Value}(r:Vals xs us):us=[]↔xs=[]:=by
 cases r with
 | nil=>simp
 | cons _ _=>simp
theorem Jm:i7 X (binaryOp .Add) (RY X.K):=by
 intro pins s σ H x y v u Q I rx ry h;obtain⟨a,b,xs,ys,rfl,rfl,ha,hb,hx,hz,q1,q2⟩:=h;cases rx;cases ry;obtain⟨its,r1,p1,_⟩:=I.tuple ha;obtain⟨vL,r2,p2,_⟩:=I.tuple hb;refine HT.Jk p1 p2 (λz=>hx (r1.vK.mp z)) (λz=>⟨.ref a,H,I,rfl,q1 (r2.vK.mp z)⟩) (λz=>?_) (by rw[← r1.length,← r2.length];exact hz);refine⟨.ref s.heap.objs.size,_,I.laid (t':=s.toks) (o:=.tup (xs++ys)) (λb ob q=>aaa _ q) (aag _) ?_,rfl,q2 (λw=>z (r2.vK.mpr w)) _ (I.hok.fresh (aag _))⟩;exact⟨by rw[aaC];exact hz,_,r1.append r2,IsTup.new _ _⟩
end
def xR(n:Nat)(i:Int):Option Nat:=if 0<=i then(if i < n then some i.toNat else none)else if -(n:Int)<=i then some (i + n).toNat else none
def kA{α:Type}(xs:List α)(i:Int):Option α:=(xR xs.length i).bind λj=>xs[j]?
theorem Bl{n:Nat}{i:Int}{j:Nat}(h:xR n i=some j):seqIndex? i n=some j/\j < n/\-(n:Int)<=i/\i < n:=by
 unfold xR at h;by_cases h0:0<=i
 ·rw[aan h0]at h;by_cases h1:i < n
  ·rw[aan h1]at h;have e:i.toNat=j:=aax h;exact⟨by rw[seqIndex_of h0 h1,e],by omega,by omega,h1⟩
  ·rw[aak h1]at h;cases h
 ·rw[aak h0]at h;by_cases h1:-(n:Int)<=i
  ·rw[aan h1]at h;have e:(i + n).toNat=j:=aax h;exact⟨by rw[seqIndex_neg (by omega) h1,e],by omega,h1,by omega⟩
  ·rw[aak h1]at h;cases h
theorem vM{α:Type}{xs:List α}{i:Int}{v:α}(h:kA xs i=some v):∃j,seqIndex? i xs.length=some j/\xs[j]?=some v/\j < xs.length/\-(xs.length:Int)<=i/\i < xs.length:=by
 unfold kA at h
 cases e:xR xs.length i with
 | none=>rw[e]at h;cases h
 | some j =>
  rw[e]at h;obtain⟨h1,h2,h3,h4⟩:=Bl e;exact⟨j,h1,h,h2,h3,h4⟩
theorem aN{α:Type}{xs:List α}{j:Nat}{v:α}(h:xs[j]?=some v):kA xs (j:Int)=some v:=by
 have hj:j < xs.length:=(bX h).1
 have e:xR xs.length (j:Int)=some j:=by
  unfold xR;rw[if_pos (by omega),if_pos (by omega)];simp
 unfold kA;rw[e];exact h
def vN(b:Expr):Prop:=∀o i,subscripted b false o i=operate [o,i] (getItem o i)
def IE(X:Cx)(r:R2):Prop :=
 ∀(value slice:Expr) (pins:List (Addr×Obj)) (s:Shared) (σ:St) (H:Hp) (x y:V) (v u:Value) (Q:VK),Inv X pins σ H s->RelV x v->RelV y u->r x y H Q ->
  subscripted slice false v u=operate [v,u] (getItem v u)->wpAny (model X.prog X.w) X.A (subscriptTail value slice v u) (EP X pins σ Q) X.xe s
def X1(X:Cx)(id:String)(r:V->List V->Hp->VK->Prop):Prop :=
 ∀(pins:List (Addr×Obj)) (s:Shared) (σ:St) (H:Hp) (x:V) (xs:List V) (v:Value) (us:List Value) (Q:VK),Inv X pins σ H s->RelV x v->Vals xs us->r x xs H Q ->
  wpAny (model X.prog X.w) X.A (call (.builtin id) (v::us)) (EP X pins σ Q) X.xe s
section
variable {X:Cx} {a b:Expr} {ta tb:TE} {pos:Pos}
theorem IE.or{r r':R2}(h:IE X r)(h':IE X r'):IE X (λx y H Q=>r x y H Q∨r' x y H Q):=by
 intro value slice pins s σ H x y v u Q I rx ry q hs;rcases q with q | q
 ·exact h value slice pins s σ H x y v u Q I rx ry q hs
 ·exact h' value slice pins s σ H x y v u Q I rx ry q hs
theorem aG{r:R2}(hr:IE X r)(ha:PE X a ta)(hb:PE X b tb)(hs:vN b):PE X (.Subscript a b pos) (RP r ta tb):=by
 intro pins s σ H Q I h;exact Subscript_ (N4 ha hb I h λv u s2 x y H2 I2 rx ry q=>hr a b pins s2 σ H2 x y v u Q I2 rx ry q (hs _ _))
inductive RZ(K:aC)(x y:V)(H:Hp)(Q:VK):Prop where
 | mk (p:Addr) (xs:List V) (i:Int) (v:V) (e:x=.ref p) (f:y=.int i) (s:cG K H p xs) (a:kA xs i=some v) (q:Q v H):RZ K x y H Q
def R0(K:aC):R2:=λx y H Q=>RZ K x y H Q
inductive R4(K:aC)(x y:V)(H:Hp)(Q:VK):Prop where
 | mk (p:Addr) (xs:List V) (i:Int) (v:V) (e:x=.ref p) (f:y=.int i) (s:bz K H p xs) (a:kA xs i=some v) (q:Q v H):R4 K x y H Q
def R5(K:aC):R2:=λx y H Q=>R4 K x y H Q
def R6:R2:=λx y H Q=>∃z i c,x=.str z/\y=.int i/\z.length<=sizeLine/\kA z.cps.toList i=some c/\Q (.str ⟨#[c]⟩) H
theorem cc:IE X (R0 X.K):=by
 intro value slice pins s σ H x y v u Q I rx ry h hs;obtain⟨p,xs,i,z,rfl,rfl,hq,he,q⟩:=h;cases rx;obtain⟨t,rfl⟩:=ry;obtain⟨its,r,pl,hz⟩:=I.list hq;obtain⟨j,h1,h2,h3,h4,h5⟩:=vM he;obtain⟨w,ew,rw'⟩:=r.get h2;have hl:=r.length;have hn:=ph;have fin:EP X pins σ Q w s:=⟨z,H,I,rw',q⟩;by_cases h0:0<=i
 ·have hj:i.toNat=j:=by
   rw[seqIndex_of h0 h5]at h1;exact aax h1
  exact item_listR pl.isList h0 (by omega) (by rw[hj];simpa using ew) fin hs
 ·have hj:(i + (its.toArray.size:Int)).toNat=j:=by
   rw[seqIndex_neg (by omega) h4]at h1;rw[aaL,← hl];exact aax h1
  exact abL (x:=w) pl.isList.typeIs slot_list_getitem.lookup
   (wpAny_getItem_list_neg (Q:=λr s'=>r=w/\EP X pins σ Q r s') pl.isList (by omega) (by rw[List.size_toArray]<;>omega) (by omega) (by rw[hj];simpa using ew) ⟨rfl,fin⟩) hs
theorem aE:IE X (R5 X.K):=by
 intro value slice pins s σ H x y v u Q I rx ry h hs;obtain⟨p,xs,i,z,rfl,rfl,hq,he,q⟩:=h;cases rx;obtain⟨t,rfl⟩:=ry;obtain⟨its,r,pl,hz⟩:=I.tuple hq;obtain⟨j,h1,h2,h3,h4,h5⟩:=vM he;obtain⟨w,ew,rw'⟩:=r.get h2;have hl:=r.length;have hn:=ph;have fin:EP X pins σ Q w s:=⟨z,H,I,rw',q⟩;exact abL (x:=w) pl.typeIs slot_tuple_getitem.lookup
  (getItem_tuple (j:=j) (Q:=λr s'=>r=w/\EP X pins σ Q r s') pl (by omega) (by omega) (by rw[List.size_toArray,← hl];exact h1) (by simpa using ew) ⟨rfl,fin⟩) hs
theorem Oh:IE X R6:=by
 intro value slice pins s σ H x y v u Q I rx ry h hs;obtain⟨z,i,c,rfl,rfl,hz,he,q⟩:=h;obtain⟨t,rfl⟩:=rx;obtain⟨t',rfl⟩:=ry;obtain⟨j,h1,h2,h3,h4,h5⟩:=vM he;have hl:z.cps.toList.length=z.length:=by simp[Str.length]
 rw[hl]at h1 h4 h5;have hn:=ph
 exact tail_any (abW s z t) slot_str_getitem.lookup (getItem_str (c:=c) (by
  have e1:decide (i < -(2 ^ 63:Int))=false:=decide_eq_false (by omega);have e2:decide (i ≥ 2 ^ 63)=false:=decide_eq_false (by omega);rw[e1,e2,Bool.or_false]) (by rw[h1];simpa using h2) ⟨.str ⟨#[c]⟩,H,I.tok _,⟨_,rfl⟩,q⟩) hs
def X2(K:aC):R2:=λx y H Q=>R0 K x y H Q∨R5 K x y H Q∨R6 x y H Q
theorem EA:IE X (X2 X.K):=cc.or (aE.or Oh)
theorem zH(its:List Value)(n j:Nat)(u:Value):Obj.mapSeq (·.setIfInBounds j u) {cls:=.type "list",data:=.seq its.toArray n}={cls:=.type "list",data:=.seq (its.set j u).toArray n}:=by
 simp[Obj.mapSeq]
theorem Inv.lst{pins:List (Addr×Obj)}{σ:St}{H:Hp}{s:Shared}{p:Addr}{xs:List V}(I:Inv X pins σ H s)(h:H p=some (.lst xs)):
  ∃(its:List Value) (n:Nat),Vals xs its/\s.heap.get? p=some {cls:=.type "list",data:=.seq its.toArray n}/\xs.length<=sizeLine:=by
 obtain⟨z,its,n,r,e⟩:=I.hok p _ h;exact⟨its,n,r,e,z⟩
theorem Inv.Oi{pins:List (Addr×Obj)}{σ:St}{H:Hp}{s:Shared}{p:Addr}{xs ys:List V}{its its':List Value}{n n':Nat}{f:Obj->Obj}(I:Inv X pins σ H s)(h:H p=some (.lst xs))
  (ho:s.heap.get? p=some {cls:=.type "list",data:=.seq its.toArray n}) (hf:f {cls:=.type "list",data:=.seq its.toArray n}={cls:=.type "list",data:=.seq its'.toArray n'}) (r:Vals ys its') (hz:ys.length<=sizeLine) (t:Nat) :
  Inv X pins σ (upd H p (.lst ys)) {s with heap:=s.heap.update p f,toks:=t}:=by
 have e:(s.heap.update p f).get? p=some {cls:=.type "list",data:=.seq its'.toArray n'}:=by
  rw[abS f ho (by rw[hf]<;>rfl),hf]
 refine I.write (x:=p) (e:=p) (by rw[h];trivial) (.inl rfl) (λb u hb q=>(abM _ _ (ab3 hb)).trans q) ⟨_,e⟩ ?_;exact⟨hz,its',n',r,e⟩
def MC:V->V->V->Hp->(Hp->Prop)->Prop:=λo i v H Q=>∃p xs k j,o=.ref p/\i=.int k/\H p=some (.lst xs)/\xR xs.length k=some j/\Q (upd H p (.lst (xs.set j v)))
theorem set_list:RK X MC:=by
 intro pins s σ H o i v ov iv u Q I ro ri rv h;obtain⟨p,xs,k,j,rfl,rfl,hp,hj,q⟩:=h;cases ro;obtain⟨t,rfl⟩:=ri;obtain⟨its,n,r,ho,hz⟩:=I.lst hp;obtain⟨h1,h2,h3,h4⟩:=Bl hj;have hl:=r.length;have hn:=ph
 have I':Inv X pins σ (upd H p (.lst (xs.set j v))) {s with heap:=s.heap.update p (Obj.mapSeq (·.setIfInBounds j u))} :=
  I.Oi hp ho (zH its n j u) (r.set rv j) (by rw[aaz];exact hz) s.toks
 by_cases h0:0<=k
 ·have hk:k.toNat=j:=by
   rw[seqIndex_of h0 h4]at h1;exact aax h1
  exact PySem.W.ki_setAt ho h0 (by omega) (by rw[aaL,← hl];exact h4) (by rw[hk];exact⟨_,I',q⟩)
 ·have hk:(k + (its.toArray.size:Int)).toNat=j:=by
   rw[seqIndex_neg (by omega) h3]at h1;rw[aaL,← hl];exact aax h1
  exact PySem.W.ki_setBack ho (by omega) (by rw[aaL,← hl];exact h3) (by omega) (by rw[hk];exact⟨_,I',q⟩)
theorem vO(lo hi:Option Int)(n:Nat):(sliceBounds lo hi none n).1=((HT.eh n 0 lo:Nat):Int)/\(sliceBounds lo hi none n).2.1=((HT.eh n n hi:Nat):Int)/\(sliceBounds lo hi none n).2.2=1:=by
 refine⟨?_,?_,rfl⟩
 ·cases lo with
  | none=>simp[sliceBounds,HT.eh]
  | some i =>
   simp only[sliceBounds,HT.eh,Option.getD_none,show(1:Int) > 0 by decide,if_true];by_cases h:i < 0
   ·simp only[h,if_true]<;>omega
   ·simp only[h,if_false]<;>omega
 ·cases hi with
  | none=>simp[sliceBounds,HT.eh]
  | some i =>
   simp only[sliceBounds,HT.eh,Option.getD_none,show(1:Int) > 0 by decide,if_true];by_cases h:i < 0
   ·simp only[h,if_true]<;>omega
   ·simp only[h,if_false]<;>omega
theorem tS(its:List Value)(lo hi:Option Int):slicePick its.toArray lo hi none=((its.drop (HT.eh its.length 0 lo)).take (HT.eh its.length its.length hi - HT.eh its.length 0 lo)).toArray:=by
 obtain⟨h1,h2,h3⟩:=vO lo hi its.toArray.size;unfold slicePick;rw[h1,h2,h3];simp only[sliceRange_one,pick_run,List.size_toArray]<;>rfl
def R7(K:aC):V->Option Int->Option Int->Hp->VK->Prop:=λx lo hi H Q=>∃a xs,x=.ref a/\cG K H a xs/\∀p,H p=none->Q (.ref p) (upd H p (.lst (jz xs lo hi)))
theorem Jn:ID X (R7 X.K):=by
 intro pins s σ H x v vl vu lo hi sl Q I rx hs pl pu h;obtain⟨a,xs,rfl,hx,q⟩:=h;cases rx;obtain⟨its,r,ht,hz⟩:=I.list hx;have hlen:=r.length;refine⟨"list",_,slot_list_getitem.lookup,ht.isList.typeIs,?_⟩;refine wpAny_getItem_list_slice ht.isList hs pl pu .none (by simp) ?_ (by rw[List.size_toArray]<;>omega)
 rw[tS,← hlen];refine⟨.ref s.heap.objs.size,_,I.laid (t':=s.toks) (o:=.lst (jz xs lo hi)) (λb ob q=>aaa _ q) (aag _) ?_,rfl,q _ (I.hok.fresh (aag _))⟩;exact⟨aau (qf xs lo hi) hz,_,0,(r.drop (HT.eh xs.length 0 lo)).take (HT.eh xs.length xs.length hi - HT.eh xs.length 0 lo),aas _ rfl⟩
def gJ:V->Bool
 | .non=>true
 | .bl _=>true
 | .int _=>true
 | .str _=>true
 | _=>false
def CG:V->V->Bool
 | .non,.non=>true
 | .bl a,.bl b=>a == b
 | .bl a,.int b=>(if a then 1 else 0) == b
 | .int a,.bl b=>a == (if b then 1 else 0)
 | .int a,.int b=>a == b
 | .str a,.str b=>a == b
 | _,_=>false
theorem Oj{A:Around}{s:Shared}{y x:V}{u v:Value}(ry:RelV y u)(rx:RelV x v)(fy:gJ y=true)(fx:gJ x=true):SeqAt.EqAt A s u v (CG y x):=by
 cases y with
 | non =>
  cases ry
  cases x with
  | non=>cases rx;exact SeqAt.EqAt.same _
  | bl b=>cases rx;exact SeqAt.EqAt.none_bool b
  | int b=>obtain⟨t,rfl⟩:=rx;exact SeqAt.EqAt.none_int b t
  | str b=>obtain⟨t,rfl⟩:=rx;exact SeqAt.EqAt.none_str b t
  | _=>exact absurd (show false=true from fx) aai
 | bl a =>
  cases ry
  cases x with
  | non=>cases rx;exact SeqAt.EqAt.bool_none a
  | bl b=>cases rx;exact SeqAt.EqAt.bool_bool a b
  | int b=>obtain⟨t,rfl⟩:=rx;exact SeqAt.EqAt.bool_int a b t
  | str b=>obtain⟨t,rfl⟩:=rx;exact SeqAt.EqAt.bool_str a b t
  | _=>exact absurd (show false=true from fx) aai
 | int a =>
  obtain⟨t',rfl⟩:=ry
  cases x with
  | non=>cases rx;exact SeqAt.EqAt.int_none a t'
  | bl b=>cases rx;exact SeqAt.EqAt.int_bool a t' b
  | int b=>obtain⟨t,rfl⟩:=rx;exact SeqAt.EqAt.int_int a t' b t
  | str b=>obtain⟨t,rfl⟩:=rx;exact SeqAt.EqAt.int_str a t' b t
  | _=>exact absurd (show false=true from fx) aai
 | str a =>
  obtain⟨t',rfl⟩:=ry
  cases x with
  | non=>cases rx;exact SeqAt.EqAt.str_none a t'
  | bl b=>cases rx;exact SeqAt.EqAt.str_bool a t' b
  | int b=>obtain⟨t,rfl⟩:=rx;exact SeqAt.EqAt.str_int a t' b t
  | str b=>obtain⟨t,rfl⟩:=rx;exact SeqAt.EqAt.str_str a t' b t
  | _=>exact absurd (show false=true from fx) aai
 | _=>exact absurd (show false=true from fy) aai
def zI(x:V)(u:Value):Bool:=match u with
 | .none=>CG .non x
 | .bool b=>CG (.bl b) x
 | .int i _=>CG (.int i) x
 | .str z _=>CG (.str z) x
 | _=>false
theorem EC{x y:V}{u:Value}(r:RelV y u)(f:gJ y=true):zI x u=CG y x:=by
 cases y with
 | non=>cases r;rfl
 | bl b=>cases r;rfl
 | int i=>obtain⟨t,rfl⟩:=r;rfl
 | str z=>obtain⟨t,rfl⟩:=r;rfl
 | _=>exact absurd (show false=true from f) aai
theorem nS{x:V}:∀{xs:List V} {us:List Value},Vals xs us->xs.all gJ=true->us.any (zI x)=xs.any λy=>CG y x
 | _,_,.nil,_=>rfl
 | y::xs,u::us,.cons r t,f=>by
  rw[acN,aa2]at f;rw[List.any_cons,List.any_cons,EC r f.1,nS t f.2]
theorem kB{A:Around}{s:Shared}{x:V}{v:Value}(rx:RelV x v)(fx:gJ x=true):∀{xs:List V} {us:List Value},Vals xs us->xs.all gJ=true->∀u∈us,SeqAt.EqAt A s u v (zI x u)
 | _,_,.nil,_=>λu hu=>by cases hu
 | y::xs,u::us,.cons r t,f=>λu' hu=>by
  rw[acN,aa2]at f;rcases aap.mp hu with rfl | hu
  ·rw[EC r f.1];exact Oj r rx f.1 fx
  ·exact kB rx fx t f.2 u' hu
def Bm(x:V)(xs:List V):Bool:=xs.any λy=>CG y x
def Vy(K:aC)(neg:Bool):R2:=λx y H Q=>∃p xs,y=.ref p/\(cG K H p xs∨bz K H p xs)/\gJ x=true/\xs.all gJ=true/\Q (.bl (if neg then !Bm x xs else Bm x xs)) H
theorem gB:i7 X (compareOp .In) (Vy X.K false):=by
 intro pins s σ H x y v u Q I rx ry h;obtain⟨p,xs,rfl,hq,fx,fs,q⟩:=h;cases ry;rcases hq with hq | hq
 ·obtain⟨its,r,pl,hz⟩:=I.list hq;refine SeqAt.in_listAt (zI x) pl.isList (λw hw=>kB rx fx r fs w (by simpa using hw)) ⟨.bl _,H,I,rfl,?_⟩;rw[show its.toArray.any (zI x)=its.any (zI x)by simp,nS r fs];exact q
 ·obtain⟨its,r,pl,hz⟩:=I.tuple hq;refine SeqAt.in_tupleAt (zI x) pl (λw hw=>kB rx fx r fs w (by simpa using hw)) ⟨.bl _,H,I,rfl,?_⟩;rw[show its.toArray.any (zI x)=its.any (zI x)by simp,nS r fs];exact q
theorem nU:i7 X (compareOp .NotIn) (Vy X.K true):=by
 intro pins s σ H x y v u Q I rx ry h;obtain⟨p,xs,rfl,hq,fx,fs,q⟩:=h;cases ry;rcases hq with hq | hq
 ·obtain⟨its,r,pl,hz⟩:=I.list hq;refine SeqAt.notIn_listAt (zI x) pl.isList (λw hw=>kB rx fx r fs w (by simpa using hw)) ⟨.bl _,H,I,rfl,?_⟩;rw[show its.toArray.any (zI x)=its.any (zI x)by simp,nS r fs];exact q
 ·obtain⟨its,r,pl,hz⟩:=I.tuple hq;refine SeqAt.notIn_tupleAt (zI x) pl (λw hw=>kB rx fx r fs w (by simpa using hw)) ⟨.bl _,H,I,rfl,?_⟩;rw[show its.toArray.any (zI x)=its.any (zI x)by simp,nS r fs];exact q
theorem bM:eO X (.builtin "len") (λxs H Q=>∃p ys,xs=[.ref p]/\(cG X.K H p ys∨bz X.K H p ys)/\Q (.int ys.length) H):=by
 intro pins s σ H xs us Q I r h;obtain⟨p,ys,rfl,hq,q⟩:=h;obtain⟨u,rfl,rx⟩:=vals1 r;cases rx;have hn:=ph;rcases hq with hq | hq
 ·obtain⟨its,r',pl,hz⟩:=I.list hq;have hlen:=r'.length;exact Calls.call_len_list pl.isList (by simp only[List.size_toArray]<;>omega) ⟨.int ys.length,H,I.tok _,⟨s.toks + 1,by rw[List.size_toArray,hlen]⟩,q⟩
 ·obtain⟨its,r',pl,hz⟩:=I.tuple hq;have hlen:=r'.length;exact len_tuple pl (by simp only[List.size_toArray]<;>omega) ⟨.int ys.length,H,I.tok _,⟨s.toks + 1,by rw[List.size_toArray,hlen]⟩,q⟩
theorem vP:eO X (.builtin "len") (λxs H Q=>∃z,xs=[.str z]/\z.length<=sizeLine/\Q (.int z.length) H):=by
 intro pins s σ H xs us Q I r h;obtain⟨z,rfl,hz,q⟩:=h;obtain⟨u,rfl,t,rfl⟩:=vals1 r;have hn:=ph;exact len_str (by omega) ⟨.int z.length,H,I.tok _,⟨_,rfl⟩,q⟩
theorem f9:eO X (.type "list") (λxs H Q=>∃p ys,xs=[.ref p]/\(cG X.K H p ys∨bz X.K H p ys)/\∀l,H l=none->Q (.ref l) (upd H l (.lst ys))):=by
 intro pins s σ H xs us Q I r h;obtain⟨p,ys,rfl,hq,q⟩:=h;obtain⟨u,rfl,rx⟩:=vals1 r;cases rx;have fin:∀(its:List Value),Vals ys its->ys.length<=sizeLine->∀(h':Heap) (c':Nat),(∀b o',s.heap.get? b=some o'->h'.get? b=some o') ->
   h'.get? s.heap.objs.size=some {cls:=.type "list",dict:=none,data:=.seq its.toArray c',slots:=#[]}->EP X pins σ Q (.ref s.heap.objs.size) {s with heap:=h'}:=λits r' hz h' c' kp e =>
  ⟨.ref s.heap.objs.size,_,I.laid (t':=s.toks) kp (aag _) (show dU X.prog X.w _ h' _ (.lst ys)from ⟨hz,its,c',r',e⟩),rfl,q _ (I.hok.fresh (aag _))⟩
 rcases hq with hq | hq
 ·obtain⟨its,r',pl,hz⟩:=I.list hq;have hlen:=r'.length;obtain⟨o,ho,hc,n,hd⟩:=pl.isList;exact call_list_seq p (.inl rfl) ho hc hd (λh' c' kp e=>fin its r' hz h' c' kp e) (by simp only[List.size_toArray]<;>omega)
 ·obtain⟨its,r',pl,hz⟩:=I.tuple hq;have hlen:=r'.length;obtain⟨o,ho,hc,n,hd⟩:=pl;exact call_list_seq p (.inr rfl) ho hc hd (λh' c' kp e=>fin its r' hz h' c' kp e) (by simp only[List.size_toArray]<;>omega)
theorem mM:eO X (.type "tuple") (λxs H Q=>∃p ys,xs=[.ref p]/\((cG X.K H p ys/\∀l,H l=none->Q (.ref l) (upd H l (.tup ys)))∨(bz X.K H p ys/\Q (.ref p) H))):=by
 intro pins s σ H xs us Q I r h;obtain⟨p,ys,rfl,h⟩:=h;obtain⟨u,rfl,rx⟩:=vals1 r;cases rx;rcases h with⟨hq,q⟩ | ⟨hq,q⟩
 ·obtain⟨its,r',pl,hz⟩:=I.list hq;have hlen:=r'.length;refine call_tuple_list pl.isList (λh' kp=>?_) (by simp only[List.size_toArray]<;>omega)
  have I1:Inv X pins σ H {s with heap:=h'}:=I.kept (t':=s.toks) kp
  have I2:Inv X pins σ (upd H h'.objs.size (.tup ys)) {s with heap:=h'.push {cls:=.type "tuple",data:=.seq its.toArray}} :=
   I1.laid (t':=s.toks) (λb o e=>aaa _ e) (aag _) (show dU X.prog X.w _ _ _ (.tup ys)from ⟨hz,its,r',IsTup.new _ _⟩)
  exact⟨.ref h'.objs.size,_,I2,rfl,q _ (I1.hok.fresh (aag _))⟩
 ·obtain⟨its,r',pl,hz⟩:=I.tuple hq;exact call_tuple_same pl ⟨.ref p,H,I,rfl,q⟩
def Vz(K:aC)(T:String)(x:V)(H:Hp):Prop:=match x with
 | .str _=>T="str"
 | .int _=>T="int"
 | .ref p=>(T="list"/\∃xs,cG K H p xs)∨(T="tuple"/\∃o,K.lookup p=some o/\o.cls=.type "tuple"/\o.dict=none) ∨
   (T="dict"/\((∃kvs,H p=some (.dK kvs))∨∃kvs,H p=some (.dT kvs)))∨(T="set"/\∃S n,H p=some (.set S n))
 | _=>False
theorem Ol{pins:List (Addr×Obj)}{σ:St}{H:Hp}{s:Shared}{T:String}{x:V}{v:Value}(I:Inv X pins σ H s)(r:RelV x v)(ty:Vz X.K T x H):
  s.TypeIs v T/\∀a,v=.ref a->∃ob,s.heap.get? a=some ob/\ob.dict=none:=by
 cases x with
 | str z =>
  obtain⟨t,rfl⟩:=r;cases (show T="str" from ty);exact⟨abW s z t,λ_ e=>nomatch e⟩
 | int i =>
  obtain⟨t,rfl⟩:=r;cases (show T="int" from ty);exact⟨abH s i t,λ_ e=>nomatch e⟩
 | ref p =>
  cases r;rcases ty with⟨rfl,xs,hq⟩ | ⟨rfl,o,hk,hc,hd⟩ | ⟨rfl,hk⟩ | ⟨rfl,S,n,hk⟩
  ·obtain⟨its,_,pl,_⟩:=I.list hq;refine⟨pl.isList.typeIs,λa e=>?_⟩;cases e;obtain⟨o,n,e,c,hd,_⟩:=pl;exact⟨o,e,hd⟩
  ·refine⟨⟨o,I.nK p o hk,hc⟩,λa e=>?_⟩;cases e;exact⟨o,I.nK _ o hk,hd⟩
  ·have z:∃o,s.heap.get? p=some o/\o.ExactDict:=by
    rcases hk with⟨kvs,hk⟩ | ⟨kvs,hk⟩
    ·obtain⟨_,_,_,_,o,_,_,e,ex,_⟩:=I.hok p _ hk;exact⟨o,e,ex⟩
    ·obtain⟨_,_,_,_,o,_,_,e,ex,_⟩:=I.hok p _ hk;exact⟨o,e,ex⟩
   obtain⟨o,e,ex⟩:=z;refine⟨⟨o,e,ex.1⟩,λa e2=>?_⟩;cases e2;exact⟨o,e,ex.2.1⟩
  ·obtain⟨o,_,_,_,e,ex,_⟩:=I.hok p _ hk;refine⟨⟨o,e,ex.1⟩,λa e2=>?_⟩;cases e2;exact⟨o,e,ex.2.1⟩
 | _=>exact False.elim ty
def Zv(K:aC)(T:String)(r:V->List V->Hp->VK->Prop)(to:TE)(t:TA):TE:=λσ H Q=>to σ H λx H1=>Vz K T x H1/\t σ H1 λxs H2=>r x xs H2 Q
variable {o e:Expr} {es:List Expr} {to:TE} {t:TA} {name:Str} {apos cpos:Pos} {T id:String} {r:V->List V->Hp->VK->Prop}
theorem Bo(pa:PlainAttrs T)(slot:Slot T name id)(hty:typeOf (.builtin id)=pure (.type "method_descriptor"))(hm:X1 X id r)(ho:PE X o to)(ha:PA X (e::es) t)
  (hbase:attributeBase o name X.env (eval o X.env)=eval o X.env:=by rfl)
  (hfew:((backTo cpos (starEach (e::es) X.env)).all (λx=>!x.1)&&(backToKw cpos (keywordEach [] X.env)).all (λx=>x.1.isSome)
   && decide ((e::es).length + ([]:List Keyword).length + (if ([]:List Keyword).isEmpty then 0 else 1) < 30))=true:=by rfl)
  (hline:(apos.endLine == cpos.line)=true:=by rfl) (hs:starEach (e::es) X.env=(false,eval e X.env)::starEach es X.env:=by rfl) (hplain:(backTo cpos (starEach es X.env)).any (·.1)=false:=by rfl) :
  PE X (.Call (.Attribute o name apos) (e::es) [] cpos) (Zv X.K T r to t):=by
 intro pins s σ H Q I h;refine wpAny_Call_method_late hbase hfew hline rfl (cU (ho pins s σ H _ I h) λv s1 ⟨x,H1,I1,r1,ty,q1⟩=>?_);obtain⟨h1,h2⟩:=Ol I1 r1 ty;refine⟨T,id,pa,slot,hty,h1,h2,?_⟩;have hA:=ha cpos pins s1 σ H1 _ I1 q1;rw[hs]at hA ⊢;refine Calls.callWith_builtin (by show(false||(backTo cpos (starEach es X.env)).any (·.1))=false;rw[hplain]<;>rfl) (Calls.evalArgs_plain ?_)
 exact cU hA λus s2 ⟨vs,H2,I2,r2,q2⟩=>hm pins s2 σ H2 x vs v us Q I2 r1 r2 q2
end
def Zw(X:Cx)(id:String)(r:V->List V->Hp->VK->Prop):Prop :=
 ∀(pins:List (Addr×Obj)) (s:Shared) (σ:St) (H:Hp) (x:V) (xs:List V) (v:Value) (us:List Value) (Q:VK),Inv X pins σ H s->RelV x v->Vals xs us->r x xs H Q ->
  wpAny (model X.prog X.w) X.A (call (.builtin id) (v::us)) (EP X pins σ Q) X.xe s
theorem Vals.one:∀{x:V} {us:List Value},Vals [x] us->∃u,us=[u]/\RelV x u
 | _,_,.cons r .nil=>⟨_,rfl,r⟩
theorem Vals.rep{xs:List V}{us:List Value}(h:Vals xs us):∀k:Nat,Vals (List.replicate k xs).flatten (List.replicate k us).flatten
 | 0=>.nil
 | k + 1=>by
  rw[aaB,aaB,aaQ,aaQ];exact Vals.append h (Vals.rep h k)
theorem foldl_rep(its:List Value):∀(k:Nat) (acc:List Value),
  List.foldl (λx1 x2=>x1++x2) acc.toArray (List.replicate k its.toArray)=(acc++(List.replicate k its).flatten).toArray
 | 0,acc=>by simp
 | k + 1,acc=>by
  have e:acc.toArray++its.toArray=(acc++its).toArray:=by simp
  have e2:(acc++its)++(List.replicate k its).flatten=acc++(List.replicate (k + 1) its).flatten:=by
   rw[aaB,aaQ,abp]
  rw[← e2,← foldl_rep its k (acc++its),← e,aaB,List.foldl_cons]
section
variable {X:Cx} {pins:List (Addr×Obj)} {σ:St} {H:Hp} {s:Shared} {l b:Addr} {xs ys zs:List V}
theorem Inv.VA{its its':List Value}{n:Nat}{f:Array Value->Array Value}{t':Nat}(I:Inv X pins σ H s)(hH:H l=some (.lst xs))
  (e:s.heap.get? l=some {cls:=.type "list",data:=.seq its.toArray n}) (hf:f its.toArray=its'.toArray) (hv:Vals ys its') (hz:ys.length<=sizeLine) :
  Inv X pins σ (upd H l (.lst ys)) {s with heap:=s.heap.update l (Obj.mapSeq f),toks:=t'}:=by
 have q:=PySem.IsL.update e f;rw[hf]at q;refine I.write (x:=l) (e:=l) (by rw[hH];exact trivial) (.inl rfl) (λb' u hb hu=>(abM s.heap (Obj.mapSeq f) (ab3 hb)).trans hu) ⟨_,q⟩ ?_;exact⟨hz,its',_,hv,q⟩
theorem Inv.Jo{its:List Value}{t':Nat}(I:Inv X pins σ H s)(hv:Vals ys its)(hz:ys.length<=sizeLine):
  Inv X pins σ (upd H s.heap.objs.size (.lst ys)) {s with heap:=s.heap.push {cls:=.type "list",data:=.seq its.toArray},toks:=t'} :=
 I.laid (λ_ _ q=>aaa _ q) (aag _) ⟨hz,its,0,hv,aas _ rfl⟩
theorem Inv.fresh(I:Inv X pins σ H s):H s.heap.objs.size=none:=I.hok.fresh (aag _)
theorem Inv.Om(I:Inv X pins σ H s)(hH:H l=some (.lst xs)):xs.length<=sizeLine/\∃(its:List Value) (n:Nat),Vals xs its/\xs.length=its.length/\s.heap.get? l=some {cls:=.type "list",data:=.seq its.toArray n}:=by
 obtain⟨z,its,n,r,e⟩:=I.hok l _ hH;exact⟨z,its,n,r,r.length,e⟩
theorem ED{n:Nat}(h:n<=sizeLine):Builtin.List.listTooLong n=false:=by
 unfold Builtin.List.listTooLong;exact decide_eq_false (by omega)
end
section
variable {X:Cx}
def Jp:V->List V->Hp->VK->Prop:=λx vs H Q=>∃l xs y,x=.ref l/\vs=[y]/\H l=some (.lst xs)/\xs.length < sizeLine/\Q .non (upd H l (.lst (xs++[y])))
theorem ml:Zw X "list.append" Jp:=by
 intro pins s σ H x vs v us Q I rx rv h;obtain⟨l,xs,y,rfl,rfl,hH,hz,q⟩:=h;cases rx;obtain⟨u,rfl,ru⟩:=rv.one;obtain⟨z,its,n,r,hl,e⟩:=I.Om hH;refine call_meets F.slot_list_append ⟨_,e,rfl⟩ F.entry_list_append (F.args_list_append_2 _ _) (PySem.list_append l its.toArray n u (by rw[List.size_toArray];omega)) ⟨e,?_⟩;refine⟨.non,_,I.VA (its':=its++[u]) hH e (by simp) (r.append (.cons ru .nil)) ?_,rfl,q⟩;rw[List.length_append,List.length_singleton];omega
def VB:R2:=λx y H Q=>∃l b xs zs,x=.ref l/\y=.ref b/\H l=some (.lst xs)/\H b=some (.lst zs)/\xs.length + zs.length<=sizeLine/\∀p,H p=none->Q (.ref p) (upd H p (.lst (xs++zs)))
theorem Oo:i7 X (binaryOp .Add) VB:=by
 intro pins s σ H x y v u Q I rx ry h;obtain⟨l,b,xs,zs,rfl,rfl,hH,hB,hz,q⟩:=h;cases rx;cases ry;obtain⟨z,its,n,r,hl,e⟩:=I.Om hH;obtain⟨z2,vL,n2,r2,Jq,e2⟩:=I.Om hB;refine PySem.P.add_list e e2 ?_ (by rw[List.size_toArray,List.size_toArray];omega);have ea:its.toArray++vL.toArray=(its++vL).toArray:=by simp
 rw[ea];exact⟨.ref _,_,I.Jo (t':=s.toks) (r.append r2) (by rw[aaC];omega),rfl,q _ I.fresh⟩
theorem len_rep{α:Type}(xs:List α)(k:Nat):(List.replicate k xs).flatten.length=k * xs.length:=by
 induction k with
 | zero=>simp
 | succ k ih=>rw[aaB,aaQ,aaC,ih,Nat.succ_mul,Nat.add_comm]
end
section
variable {prog:Program} {w:World} {A:Around} {E:Value->Shared->Prop} {s:Shared}
set_option maxRecDepth 100000 in
end
section
variable {X:Cx}
end
end L2
namespace Att
open PySem PySem.W PySem.Calls PyProof.Rows
theorem qE{P:Params}{h:Heap}:∀(ns:List Int) (vs:List Value),WellAll P h vs (ns.map WData.int)->IntsAre vs ns:=by
 intro ns
 induction ns with
 | nil =>
  intro vs w;rw[acS]at w;cases w;exact .nil
 | cons n ns ih =>
  intro vs w;rw[aa7]at w
  cases w with
  | cons a b =>
   cases a;exact .cons _ _ (ih _ b)
theorem CH{l:OpenLaw}{n:Nat}(hn:l.most=some n){P:Params}{h:Heap}{args:List WData}{vals:List Value}
  (hpre:l.row.toRowW.claim.pre args=true) (hwl:WellAll P h vals args) :
  ∃a vs ns,vals=[Value.ref a]/\args=[WData.list (ns.map WData.int)]/\h.get? a=some {cls:=.type "list",data:=.seq vs.toArray}/\IntsAre vs ns/\ns.length<=n:=by
 have hsh:WShape.hasAll [] args [.list .int]=true:=(pre_splitW hpre).1;have hc:l.pre.holds [] {args:=args}=true:=(pre_splitW hpre).2;obtain⟨d,r,rfl,h1,h2⟩:=hasAllW_cons hsh;obtain rfl:=hasAllW_nil h2;obtain⟨xs,rfl,h3⟩:=hasW_list h1;obtain⟨ns,rfl⟩:=items_int h3
 have hlen:ns.length<=n:=by
  unfold OpenLaw.pre at hc
  have h4:(WTm.not (.lt (.lit (.int (n:Int))) (.len (.arg 0)))).holds [] {args:=[.list (ns.map .int)]}=true:=by
   have h4:=(holds_andW hc).1;rw[hn]at h4;exact h4
  have h5:=condW_of h4 (w_not (w_lt w_lit (w_len_list (w_arg rfl))));rw[aac]at h5;refine Nat.le_of_not_lt λq=>?_
  have q':(n:Int) < ((ns.length:Nat):Int):=by omega
  first
   | (rw[aaD q']at h5;exact absurd h5 (by decide))
   | (simp at h5;omega)
 cases hwl with
 | cons w1 w2 =>
  cases w2
  cases w1 with
  | list ho hall=>exact⟨_,_,ns,rfl,rfl,ho,qE ns _ hall,hlen⟩
theorem CI(l:OpenLaw)(args:List WData):l.row.toRowW.claim.post args (.bool true) args=true :=
 postW_of (r:=l.row.toRowW) (X:=(true == true))
  (show WShape.has [] (.bool true) .bool=true by first | rfl | decide | simp[WShape.has,WShape.arms,WShape.armsAll])
  (show(WTm.eq .res (.lit (.bool true))).value [] {args:=args,res:=some (.bool true),after:=args}=some (.bool (true == true))from w_eq_bool (w_res rfl) w_lit) rfl
theorem xS{l:OpenLaw}{n:Nat}{q:Program}{loose:List Str}{XP:(Str->Option Value)->Heap->Prop}{YP:World->Heap->Prop}{d:DefRec}
  (hn:l.most=some n) (hdf:d.params.defaults=[])
  (call:∀(w:World) (s₀ s₁:Shared) (mg mb:Str->Option Value) (fa:Addr) (o:Obj) (pm cd doc:Value) (a:Addr) (vs:List Value) (ns:List Int),
   Ground q loose [] XP w s₀ mg mb s₁.heap->YP w s₁.heap ->
   s₁.heap.get? fa=some o->o.data=.func (docDef d.name d.params d.body d.scope pm cd doc)->s₁.heap.CodeRec cd d.name->mg d.name=some (.ref fa) ->
   s₁.heap.get? a=some {cls:=.type "list",data:=.seq vs.toArray}->IntsAre vs ns->ns.length<=n->s₁.gens=#[] ->
   codeAny (model l.prog w) callerA (.call (.ref fa) ⟨[.ref a],[]⟩) (λr s'=>r=.ok (.ret (.bool true))/\OldK s₁.heap s'.heap/\s'.os=s₁.os/\AllBare s'.gens) s₁) :
  WalkO q loose XP YP l.row.toRowW d [] (λf vs=>PySem.call f vs):=by
 intro w s₀ s₁ mg mb G Y fa o pm cd doc dV kV ho hd hcd hD hmg hg args vals as hpre hlay hrd hwl hlo;obtain rfl:dV=.none:=Dflts.none hD hdf;obtain rfl:kV=.none:=Dflts.noKw hD;obtain⟨a,vs,ns,rfl,rfl,hobj,hints,hlen⟩:=CH hn hpre hwl;refine enter_call (aci (call w s₀ s₁ mg mb fa o pm cd doc a vs ns G Y ho (fd_plain hd) hcd hmg hobj hints hlen hg) λr s' hq=>?_);obtain⟨rfl,h2,h3,h4⟩:=hq;exact⟨.inl ⟨.bool true,.bool true,[],rfl,λ_=>rfl,.bool true,CI l _,λ_=>⟨List.Pairwise.nil,λ_ hm=>(nomatch hm)⟩⟩,h2,h3,h4⟩
section
variable {prog:Program} {w:World} {A:Around} {E:Value->Shared->Prop} {s:Shared} {K:Frag}
end
end Att
namespace L2
open PySem PySem.Spec PyProof.Rows
theorem uH:∀{vs:List Value} {ns:List Int},IntsAre vs ns->Vals (ns.map V.int) vs
 | _,_,.nil=>.nil
 | _,_,.cons n t h=>.cons ⟨t,rfl⟩ (uH h)
def Oq(H:Hp):Prop:=∀b,H b=none∨∃o xs,H b=some (.mL o (.lst xs))
theorem EE{P:Program}{w:World}{K:aC}{mg mb:Str->Option Value}{CX:zD}{k:Nat}{fa a:Addr}{fd:FuncData}{x:Str}{sp:Sp}{s₁:Shared}{vs:List Value}{ns:List Int}
  (KX:K.In s₁.heap) (hns:s₁.heap.Ns mainGlobals mg) (hb:s₁.heap.Ns builtinsNs mb) (hbb:∀x:Str,x≠"__name__"->mb x=bootBuiltins x) (hlim:s₁.heap.NoLimit) (hg:s₁.gens=#[])
  (ha:s₁.heap.get? a=some {cls:=.type "list",data:=.seq vs.toArray}) (hi:IntsAre vs ns) (hl:ns.length<=sizeLine) (hr:dW k callerA)
  (F:∀base:Heap,K.In base->base.Ns mainGlobals mg->bK P w K mg base CX k fa fd [x] sp) (hbind:∀(s:Shared) (u:Value),BindsTo s fd ⟨[u],[]⟩ [(x,u)])
  (hsp:∀H:Hp,Oq H->cG K H a (ns.map V.int)->sp [.ref a] H (λv _=>v=.bl true) λ_ _ _=>False)
  (hCX:∀H e s',CX [] H s₁ (λ_ _ _=>False) e s'->False) :
  codeAny (model P w) callerA (.call (.ref fa) ⟨[.ref a],[]⟩) (λr s'=>r=.ok (.ret (.bool true))/\OldK s₁.heap s'.heap/\s'.os=s₁.os/\AllBare s'.gens) s₁:=by
 have rv:=uH hi;have lenV:=hi.length;have core:∀H:Hp,Oq H->cG K H a (ns.map V.int)->nJ P w H s₁.heap->(∀b,H b≠none->b=a)->(H a≠none->K.lookup a=none) ->
   codeAny (model P w) callerA (.call (.ref fa) ⟨[.ref a],[]⟩) (λr s'=>r=.ok (.ret (.bool true))/\OldK s₁.heap s'.heap/\s'.os=s₁.os/\AllBare s'.gens) s₁:=by
  intro H hO hS hok hA hK;have base_of:∀{b:Addr} {o:Obj},s₁.heap.get? b=some o->H b=none->(vC s₁.heap H).get? b=some o:=λe n=>Ee e n
  have noA:∀{b:Addr} {o:Obj} {es:Array DictEntry} {ep:Nat},s₁.heap.get? b=some o->o.data=.dict es ep->H b=none:=λ{b o es ep} e d=>by
   cases q:H b with
   | none=>rfl
   | some u =>
    have e':b=a:=hA b (by rw[q];simp);subst e';rw[ha]at e;cases e;have d':Data.seq vs.toArray _=Data.dict es ep:=d;cases d'
  have nsK:∀{b:Addr} {m:Str->Option Value},s₁.heap.Ns b m->(vC s₁.heap H).Ns b m:=λ{b m} ⟨o,es,ep,e,d,r⟩=>⟨o,es,ep,base_of e (noA e d),d,r⟩
  have hKb:K.In (vC s₁.heap H):=λb o e=>base_of (KX b o e) (by
   cases q:H b with
   | none=>rfl
   | some u =>
    have e':b=a:=hA b (by rw[q];simp);subst e';rw[hK (by rw[q];simp)]at e;cases e)
  have hM:Mod K mg (vC s₁.heap H):=⟨hKb,nsK hns,⟨mb,nsK hb,hbb⟩,let ⟨mc,h1,h2⟩:=hlim;⟨mc,nsK h1,h2⟩⟩;have e0:zE P w K mg (vC s₁.heap H) callerA [] s₁ H:=⟨rfl,hM,λb o e=>Jb e,Nat.le_of_eq (Cr _ _),trivial,λb hb=>absurd (show b∈([]:List Addr)from hb) (by simp),hok,.of_eq hg⟩;refine codeAny_mono ((F _ hKb (nsK hns)).run callerA [] s₁ H ⟨[.ref a],[]⟩ [.ref a] [.ref a] _ _ hr e0 (hbind s₁ (.ref a)) (.cons rfl .nil) (hsp H hO hS)) λr s' h=>?_
  cases r with
  | error e=>exact(hCX H e s' h).elim
  | ok fl =>
   cases fl with
   | next=>exact False.elim h
   | brk=>exact False.elim h
   | cont=>exact False.elim h
   | ret u =>
    obtain⟨v,H',os,bare,un,hok',r',q⟩:=h;have q':v=.bl true:=q;subst q';obtain rfl:u=Value.bool true:=r';refine⟨rfl,OldK.of_keep λb o e=>?_,os,bare⟩
    cases q:H b with
    | none=>exact un.keep b o e q (by intro z;exact absurd (show b∈([]:List Addr)from z) (by simp)) (by simp)
    | some u =>
     rcases hO b with z | ⟨ob,xs,z⟩
     ·rw[q]at z;cases z
     ·have z2:=un.eM b ob _ z;obtain⟨e1,_⟩:=hok b _ z;obtain⟨e2,_⟩:=hok' b _ z2;rw[e]at e1;cases e1;exact e2
 cases hk:K.lookup a with
 | some o =>
  have e:=KX a o hk;rw[ha]at e;cases e;refine core (λ_=>none) (λ_=>.inl rfl) (.inr ⟨_,vs.toArray,_,hk,rfl,rfl,rfl,by rw[List.size_toArray,lenV];exact hl,by simpa using rv⟩) (λb u z=>by have z':(none:Option HO)=some u:=z;cases z') (λb z=>absurd rfl z) λz=>absurd rfl z
 | none =>
  refine core (λb=>if b=a then some (.mL {cls:=.type "list",data:=.seq vs.toArray} (.lst (ns.map V.int)))else none) (λb=>?_) (.inl (.inr ⟨{cls:=.type "list",data:=.seq vs.toArray},aan rfl⟩)) (λb u z=>?_) (λb z=>?_) λ_=>hk
  ·by_cases hb:b=a
   ·exact .inr ⟨_,_,aan hb⟩
   ·exact .inl (aak hb)
  ·by_cases hb:b=a
   ·have z':=(aan hb).symm.trans z;cases z';subst hb;exact⟨ha,by rw[aac];exact hl,vs,_,rv,ha⟩
   ·have z':=(aak hb).symm.trans z;cases z'
  ·by_cases hb:b=a
   ·exact hb
   ·exact absurd (aak hb) z
theorem Jr{l:PySem.W.OpenLaw}{n k:Nat}{q:Program}{loose:List Str}{XP:(Str->Option Value)->Heap->Prop}{YP:World->Heap->Prop}{d:DefRec}{K:Params->aC}{CX:World->zD}{sp:World->Sp}{x:Str}
  (hn:l.most=some n) (VC:n<=sizeLine) (hdf:d.params.defaults=[]) (hr:dW k callerA)
  (hY:∀(w:World) (h:Heap),YP w h->(K w.params).In h)
  (F:∀(w:World) (mg:Str->Option Value) (fa:Addr) (h:Heap),(K w.params).In h->h.Ns mainGlobals mg->mg d.name=some (.ref fa) ->
   ∃fd:FuncData,(∀(s:Shared) (u:Value),BindsTo s fd ⟨[u],[]⟩ [(x,u)]) /\
    ∀base:Heap,(K w.params).In base->base.Ns mainGlobals mg->bK l.prog w (K w.params) mg base (CX w) k fa fd [x] (sp w))
  (hsp:∀(w:World) (H:Hp) (a:Addr) (ns:List Int),ns.length<=n->Oq H->cG (K w.params) H a (ns.map V.int)->sp w [.ref a] H (λv _=>v=.bl true) λ_ _ _=>False)
  (hCX:∀(w:World) (H:Hp) (s:Shared) (e:Value) (s':Shared),CX w [] H s (λ_ _ _=>False) e s'->False) :
  PySem.W.WalkO q loose XP YP l.row.toRowW d [] (λf vs=>PySem.call f vs):=by
 refine Att.xS hn hdf λw s₀ s₁ mg mb fa o pm cd doc a vs ns G Y ho hd hcd hmg hobj hints hlen hg=>?_
 have KX:=hY w _ Y;obtain⟨fd,hb,hF⟩:=F w mg fa _ KX G.T.g hmg;exact EE KX G.T.g G.T.b G.T.builtins G.T.nolimit hg hobj hints (aau hlen VC) hr hF hb (λH hO hS=>hsp w H a ns hlen hO hS) λH e s'=>hCX w H s₁ e s'
def dA(s:Stmt):Arguments:=match s with
 | .FunctionDef _ a _ _ _ _ _ _ _ _=>a
 | _=>{posonlyargs:=[],args:=[],vararg:=none,kwonlyargs:=[],kw_defaults:=[],kwarg:=none,defaults:=[]}
def dB(s:Stmt):List Stmt:=match s with
 | .FunctionDef _ _ b _ _ _ _ _ _ _=>b
 | _=>[]
def dS(s:Stmt):Scope:=match s with
 | .FunctionDef _ _ _ _ _ _ sc _ _ _=>sc
 | _=>{kind:=.function,names:=[],isGenerator:=false,isCoroutine:=false}
abbrev bP:zD:=λ_ _ _ _ _ _=>False
abbrev E0:XK:=λ_ _ _=>False
theorem MD{X:Cx}:Passes bP X E0:=λ_ _ _ _ _ _ _ h=>h.elim
structure fe(K:aC)(x qual:Str)(st:Stmt)(f:Addr)(fd:FuncData):Prop where
 ex:∃(oc:Value) (od:Option Addr) (kV doc pm:Value) (an:Option Addr) (cdv ct:Value) (osl:Array (Option Value)),
  fd=PySem.W.fnOf x qual (dA st) (dB st) (dS st) .none kV doc pm an cdv ct/\K.lookup f=some ⟨oc,od,.func fd,osl⟩/\PySem.W.codeIn K cdv qual=true
 kp:PySem.W.keepIn K (.ref f)=true
section
variable {P:Program} {w:World} {K:aC} {mg:Str->Option Value} {base:Heap}
theorem fe.ok{cm:Bool}{x qual:Str}{st:Stmt}{f:Addr}{fd:FuncData}{N ps:List Str}{k:Nat}{sp:Sp}(F:fe K x qual st f fd)(S:aH N ps (dS st))(len:∀vs H Q E,sp vs H Q E->vs.length=ps.length)
  (hbody:∀(cdv:Value) (A:Around) (outer:List Env) (s:Shared) (H:Hp) (vs:List V) (Q:VK) (E:XK),dW k (A.deeper (envOfC qual (dS st) s.heap.objs.size f cdv)) cm->sp vs H Q E ->
   ∃t,qD (rL bP P w K mg base N qual (dS st) f cdv A outer s H E cm).UQ (dB st) t/\t {nx:=λ_ H'=>Q .non H',rt:=Q} (start N vs) H):bK P w K mg base bP (k + 1) f fd ps sp cm:=by
 obtain⟨oc,od,kV,doc,pm,an,cdv,ct,osl,rfl,lk,hcd⟩:=F.ex;refine MB lk hcd S len λA outer s H vs Q E hr hsp=>?_
 obtain⟨t,h,q⟩:=hbody cdv A outer s H vs Q E hr hsp;exact⟨t,h.UQ,q⟩
theorem fe.binds{x qual:Str}{st:Stmt}{f:Addr}{fd:FuncData}{ps:List Str}(F:fe K x qual st f fd)
  (h:∀(kV doc pm:Value) (an:Option Addr) (cdv ct:Value) (us:List Value),us.length=ps.length->bindArgs (PySem.W.fnOf x qual (dA st) (dB st) (dS st) .none kV doc pm an cdv ct) ⟨us,[]⟩=pure (ps.zip us)):Binds K fd ps []:=by
 obtain⟨oc,od,kV,doc,pm,an,cdv,ct,osl,rfl,lk,hcd⟩:=F.ex;exact .all (h kV doc pm an cdv ct)
theorem vQ{x qual:Str}{st:Stmt}{f:Addr}{oc:Value}{od an:Option Addr}{osl:Array (Option Value)}{kV doc pm cdv ct:Value}(l:K.lookup f=some ⟨oc,od,.func (PySem.W.fnOf x qual (dA st) (dB st) (dS st) .none kV doc pm an cdv ct),osl⟩)
  (c:PySem.W.codeIn K cdv qual=true) (k:PySem.W.keepIn K (.ref f)=true):fe K x qual st f (PySem.W.fnOf x qual (dA st) (dB st) (dS st) .none kV doc pm an cdv ct):=⟨⟨oc,od,kV,doc,pm,an,cdv,ct,osl,rfl,l,c⟩,k⟩
end
theorem R8{A:Around}{k:Nat}(hr:dW k A):A.units + 1 < cLine:=aaT (Nat.add_le_add_left (by decide:1<=64) _) hr.units
theorem sK{n:Nat}(h:n<=1000):n < sizeLine:=aaT h (by decide)
section
variable {X:Cx}
theorem pv(i:Nat){x:Str}{pos:Pos}(hN:X.N[i]?=some x:=by rfl)(hv:UO X.env.scope x:=by first | exact aad rfl | exact aby (aad rfl) | exact aby (aby rfl))(hd:(x == ("__debug__" : Str))=false:=by decide)
  (hcd:(x == ("__classdict__" : Str))=false:=by decide):PE X (.Name x pos) (NX i):=Ef hN hv hd hcd
end
theorem eQ{A B:Prop}(h:B):if false=true then A else B:=by
 rw[aak aai];exact h
theorem fh{A B:Prop}(h:A):if true=true then A else B:=by
 rw[aan rfl];exact h
theorem R9{c A B:Prop}[Decidable c](h1:c->A)(h2:¬ c->B):if c then A else B:=by
 by_cases h:c
 ·rw[aan h];exact h1 h
 ·rw[aak h];exact h2 h
def aK(H H':Hp):Prop:=∀b o,H b=some o->H' b=some o
theorem aK.refl(H:Hp):aK H H:=λ_ _ h=>h
theorem aK.trans{H H1 H2:Hp}(a:aK H H1)(b:aK H1 H2):aK H H2:=λc o h=>b c o (a c o h)
theorem aK.free{H H':Hp}(e:aK H H'){l:Addr}(h:H' l=Option.none):H l=Option.none:=by
 cases q:H l with
 | none=>rfl
 | some o =>
  rw[e l o q]at h;cases h
theorem aK.seq{K:aC}{H H':Hp}{a:Addr}{xs:List V}(e:aK H H')(h:cG K H a xs):cG K H' a xs:=by
 rcases h with(h | ⟨o,h⟩) | h
 ·exact .inl (.inl (e _ _ h))
 ·exact .inl (.inr ⟨o,e _ _ h⟩)
 ·exact .inr h
open PySem PySem.Spec
theorem gK:bootBuiltins "len"=some (.builtin "len"):=by decide +kernel
theorem iP:bootBuiltins "isinstance"=some (.builtin "isinstance"):=by decide +kernel
theorem Ot:bootBuiltins "max"=some (.builtin "max"):=by decide +kernel
theorem Ou:bootBuiltins "min"=some (.builtin "min"):=by decide +kernel
theorem Ov:bootBuiltins "all"=some (.builtin "all"):=by decide +kernel
theorem Ow:bootBuiltins "sum"=some (.builtin "sum"):=by decide +kernel
theorem EF:bootBuiltins "int"=some (.type "int"):=by decide +kernel
theorem Js:bootBuiltins "bool"=some (.type "bool"):=by decide +kernel
theorem rh:bootBuiltins "list"=some (.type "list"):=by decide +kernel
theorem xT:bootBuiltins "tuple"=some (.type "tuple"):=by decide +kernel
theorem EG:bootBuiltins "zip"=some (.type "zip"):=by decide +kernel
theorem vR:bootBuiltins "enumerate"=some (.type "enumerate"):=by decide +kernel
theorem Jt:bootBuiltins "dict"=some (.type "dict"):=by decide +kernel
theorem tT:bootBuiltins "ValueError"=some (.type "ValueError"):=by decide +kernel
theorem zJ{c A B:Prop}[Decidable c](h:¬ c)(b:B):if decide c=true then A else B:=by rw[aaw h];exact eQ b
theorem Ju{c A B:Prop}[Decidable c](h:c)(a:A):if decide c=true then A else B:=by rw[aaD h];exact fh a
theorem Jv{c A B:Prop}[Decidable c](h:c)(b:B):if (!decide c)=true then A else B:=by rw[aaD h];exact eQ b
theorem tU{c A B:Prop}[Decidable c](h:¬ c)(a:A):if (!decide c)=true then A else B:=by rw[aaw h];exact fh a
theorem Zx{b:Bool}{A B:Prop}(h:b=true)(a:A):if b=true then A else B:=by rw[h];exact fh a
theorem VD{b:Bool}{A B:Prop}(h:b=false)(a:B):if b=true then A else B:=by rw[h];exact eQ a
structure dw(P:Program)(w:World)(K:aC)(mg:Str->Option Value)(base:Heap)(CX:zD)(x:Str)(k:Nat)(ps:List Str)(sp:Sp):Prop where
 ex:∃(f:Addr) (fd:FuncData),bK P w K mg base CX k f fd ps sp/\Binds K fd ps []/\PySem.W.keepIn K (.ref f)=true/\mg x=some (.ref f)
section
variable {X:Cx} {x:Str} {k:Nat} {ps:List Str} {sp:Sp} {e:Expr} {es:List Expr} {t:TA} {p pos:Pos}
theorem bY(h:dw X.prog X.w X.K X.mg X.base bP x k ps sp)(hr:dW k X.A)(hg:Gl X x)(ha:PA X (e::es) t)(hdb:(x == ("__debug__" : Str))=false:=by decide)
  (he:starEach (e::es) X.env=(false,eval e X.env)::starEach es X.env:=by rfl) (hpl:(backTo pos (starEach es X.env)).any (·.1)=false:=by rfl) :
  PE X (.Call (.Name x p) (e::es) [] pos) (Bi sp [] E0 t):=by
 obtain⟨f,fd,F,b,kp,m⟩:=h.ex;exact Bj F hr hg m kp b .nil MD ha hdb he hpl
end
theorem aK.tup{K:aC}{H H':Hp}{a:Addr}{xs:List V}(e:aK H H')(h:bz K H a xs):bz K H' a xs:=by
 rcases h with(h | ⟨o,h⟩) | h
 ·exact .inl (.inl (e _ _ h))
 ·exact .inl (.inr ⟨o,e _ _ h⟩)
 ·exact .inr h
inductive aO(K:aC)(H:Hp):V->PyData->Prop
 | non:aO K H .non .none
 | bl (b:Bool):aO K H (.bl b) (.bool b)
 | int (i:Int):aO K H (.int i) (.int i)
 | str (x:Str):aO K H (.str x) (.str x)
 | lst {a:Addr} {xs:List V} {ds:List PyData} (h:cG K H a xs) (hl:xs.length=ds.length) (hi:∀(i:Nat) (x:V) (d:PyData),xs[i]?=some x->ds[i]?=some d->aO K H x d):aO K H (.ref a) (.list ds)
 | tup {a:Addr} {xs:List V} {ds:List PyData} (h:bz K H a xs) (hl:xs.length=ds.length) (hi:∀(i:Nat) (x:V) (d:PyData),xs[i]?=some x->ds[i]?=some d->aO K H x d):aO K H (.ref a) (.tuple ds)
def aP(K:aC)(H:Hp)(xs:List V)(ds:List PyData):Prop:=xs.length=ds.length/\∀(i:Nat) (x:V) (d:PyData),xs[i]?=some x->ds[i]?=some d->aO K H x d
theorem aP.nil{K:aC}{H:Hp}:aP K H [] []:=⟨rfl,λi x d h=>by simp at h⟩
theorem aP.cons{K:aC}{H:Hp}{x:V}{d:PyData}{xs:List V}{ds:List PyData}(h:aO K H x d)(r:aP K H xs ds):aP K H (x::xs) (d::ds) :=
 ⟨by simp[r.1],λi y e h1 h2=>by
  cases i with
  | zero=>simp at h1 h2;subst h1;subst h2;exact h
  | succ i=>exact r.2 i y e (by simpa using h1) (by simpa using h2)⟩
theorem aO.iQ{K:aC}{H:Hp}{a:Addr}{xs:List V}{ds:List PyData}(h:bz K H a xs)(r:aP K H xs ds):aO K H (.ref a) (.tuple ds):=.tup h r.1 r.2
theorem aO.same{K:aC}{H H':Hp}(e:aK H H'){v:V}{d:PyData}(h:aO K H v d):aO K H' v d:=by
 induction h with
 | non=>exact .non
 | bl b=>exact .bl b
 | int i=>exact .int i
 | str x=>exact .str x
 | lst h hl hi ih=>exact .lst (e.seq h) hl ih
 | tup h hl hi ih=>exact .tup (e.tup h) hl ih
theorem aP.same{K:aC}{H H':Hp}(e:aK H H'){xs:List V}{ds:List PyData}(h:aP K H xs ds):aP K H' xs ds:=⟨h.1,λi x d h1 h2=>(h.2 i x d h1 h2).same e⟩
theorem kC{h:Heap}:∀{xs:List V} {us:List Value} {ds:List PyData},Vals xs us->xs.length=ds.length->(∀(i:Nat) (x:V) (d:PyData) (u:Value),xs[i]?=some x->ds[i]?=some d->RelV x u->∃as,Reads h u d as)->∃as,ReadsAll h us ds as
 | [],_,[],.nil,_,_=>⟨[],.nil⟩
 | [],_,_::_,_,hl,_=>nomatch hl
 | _::_,_,[],_,hl,_=>nomatch hl
 | x::xs,u::us,d::ds,.cons r t,hl,hi=>by
  obtain⟨as,ha⟩:=hi 0 x d u rfl rfl r;obtain⟨bs,hb⟩:=kC t (by simpa using hl) λi y e w h1 h2=>hi (i + 1) y e w (by simpa using h1) (by simpa using h2)
  exact⟨as++bs,.cons ha hb⟩
section
variable {X:Cx} {pins:List (Addr×Obj)} {σ:St} {H:Hp} {s:Shared}
theorem aO.reads(I:Inv X pins σ H s){v:V}{d:PyData}(h:aO X.K H v d):∀{u:Value},RelV v u->∃as,Reads s.heap u d as:=by
 induction h with
 | non=>intro u r;cases r;exact⟨_,.none⟩
 | bl b=>intro u r;cases r;exact⟨_,.bool b⟩
 | int i=>intro u r;obtain⟨t,rfl⟩:=r;exact⟨_,.int i t⟩
 | str x=>intro u r;obtain⟨t,rfl⟩:=r;exact⟨_,.str x t⟩
 | lst h hl hi ih =>
  intro u r;cases r;obtain⟨its,rv,⟨o,n,e,c,_,d⟩,hz⟩:=I.list h;obtain⟨as,ha⟩:=kC (h:=s.heap) rv hl λi x d u h1 h2 r=>ih i x d h1 h2 r
  exact⟨_,.list e c d ha⟩
 | tup h hl hi ih =>
  intro u r;cases r;obtain⟨its,rv,⟨o,e,c,n,d⟩,hz⟩:=I.tuple h;obtain⟨as,ha⟩:=kC (h:=s.heap) rv hl λi x d u h1 h2 r=>ih i x d h1 h2 r
  exact⟨_,.tuple e c d ha⟩
end
section
variable {X:Cx}
def Sa(K:aC):R2:=λx y H Q=>∃d d',aO K H x d/\aO K H y d'/\PySem.SeqAt.shaped d=true/\PySem.SeqAt.shaped d'=true/\Q (.bl (PyData.eqv d d')) H
def Sb(K:aC):R2:=λx y H Q=>∃d d',aO K H x d/\aO K H y d'/\PySem.SeqAt.shaped d=true/\PySem.SeqAt.shaped d'=true/\Q (.bl (!PyData.eqv d d')) H
theorem EH(hu:X.A.units + 64 < cLine):i7 X (compareOp .Eq) (Sa X.K):=by
 intro pins s σ H x y v u Q I rx ry h;obtain⟨d,d',h1,h2,s1,s2,q⟩:=h;obtain⟨as,r1⟩:=h1.reads I rx;obtain⟨bs,r2⟩:=h2.reads I ry;exact eq_dataH r1 r2 s1 s2 hu ⟨.bl _,H,I,rfl,q⟩
theorem Ox(hu:X.A.units + 64 < cLine):i7 X (compareOp .NotEq) (Sb X.K):=by
 intro pins s σ H x y v u Q I rx ry h;obtain⟨d,d',h1,h2,s1,s2,q⟩:=h;obtain⟨as,r1⟩:=h1.reads I rx;obtain⟨bs,r2⟩:=h2.reads I ry;exact ne_dataH r1 r2 s1 s2 hu ⟨.bl _,H,I,rfl,q⟩
def Se(a:Addr):Heap->Prop:=λh=>∃o,h.get? a=some o/\o.cls=.type "dict"
inductive Jw(K:aC)(H:Hp):V->String->Prop
 | non:Jw K H .non "NoneType"
 | bl (b:Bool):Jw K H (.bl b) "bool"
 | int (i:Int):Jw K H (.int i) "int"
 | str (x:Str):Jw K H (.str x) "str"
 | lst {a:Addr} {xs:List V} (h:cG K H a xs):Jw K H (.ref a) "list"
 | tup {a:Addr} {xs:List V} (h:bz K H a xs):Jw K H (.ref a) "tuple"
 | dct {a:Addr} (h:H a=some (.ext (Se a))):Jw K H (.ref a) "dict"
def VE(K:aC):List V->Hp->VK->Prop:=λvs H Q=>∃x n t b,vs=[x,.ty n]/\Jw K H x t/\PySem.W.kitOne K (.type t) (.type n)=some b/\Q (.bl b) H
theorem EI:eO X (.builtin "isinstance") (VE X.K):=by
 intro pins s σ H xs us Q I r h;obtain⟨x,n,t,b,rfl,ty,e,q⟩:=h;obtain⟨u,w',rfl,rx,rw'⟩:=vals2 r;cases rw';have fin:∀tk,EP X pins σ Q (.bool b) {s with toks:=tk}:=λtk=>⟨.bl b,H,I.tok tk,rfl,q⟩
 cases ty with
 | non=>cases rx;exact aa5 PySem.W.kitx_none I.nK abj e (λz=>nomatch z) fin
 | bl y=>cases rx;exact aa5 PySem.W.kitx_bool I.nK abj e (λz=>nomatch z) fin
 | int i=>obtain⟨t,rfl⟩:=rx;exact aa5 PySem.W.kitx_int I.nK abj e (λz=>nomatch z) fin
 | str y=>obtain⟨t,rfl⟩:=rx;exact aa5 PySem.W.kitx_str I.nK abj e (λz=>nomatch z) fin
 | lst h =>
  cases rx;obtain⟨its,rv,⟨o,n,e1,c,_,d⟩,hz⟩:=I.list h;exact aa5 PySem.W.kitx_list I.nK ⟨o,e1,c⟩ e (λz=>nomatch z) fin
 | dct h =>
  cases rx;obtain⟨⟨o,e1,c⟩,_⟩:=I.hok _ _ h;exact aa5 PySem.W.kitx_dict I.nK ⟨o,e1,c⟩ e (λz=>nomatch z) fin
 | tup h =>
  cases rx;obtain⟨its,rv,⟨o,e1,c,n,d⟩,hz⟩:=I.tuple h;exact aa5 PySem.W.kitx_tuple I.nK ⟨o,e1,c⟩ e (λz=>nomatch z) fin
def EJ(i j:Int):Prop:=(-340282366920938463463374607431768211456 < i/\i < 340282366920938463463374607431768211456)/\(-340282366920938463463374607431768211456 < j/\j < 340282366920938463463374607431768211456)
theorem EJ.ok{i j:Int}(h:EJ i j):IntMulOk i j:=by
 have e:(2:Nat) ^ 128=340282366920938463463374607431768211456:=by decide
 obtain⟨⟨h1,h2⟩,h3,h4⟩:=h;have a:i.natAbs < 2 ^ 128:=by rw[e];omega
 have b:j.natAbs < 2 ^ 128:=by rw[e];omega
 exact IntMulOk.of_bits (aau (acx a) (by decide)) (aau (acx b) (by decide))
end
def qF(cells:List (Str×Addr)):List (Str×NameKind)->List (Str×Addr)->List (Str×Addr)
 | [],cs=>cs
 | (n,k)::r,cs=>qF cells r (if k == .free then(match cells.lookup n with | some c=>(n,c)::cs | none=>cs)else cs)
theorem xU{cells:List (Str×Addr)}:∀(names:List (Str×NameKind)) (cs:List (Str×Addr)),(∀x c,cs.lookup x=some c->cells.lookup x=some c)->∀x c,(qF cells names cs).lookup x=some c->cells.lookup x=some c
 | [],_,h=>h
 | (n,k)::r,cs,h=>by
  refine xU r _ λx c e=>?_
  split at e
  ·split at e
   ·rename_i c' hc;rw[ack]at e;by_cases z:(x == n)=true
    ·rw[z]at e;have z':x=n:=by simpa using z
     rw[z'];exact hc.trans e
    ·rw[abP]at z;rw[z]at e;exact h x c e
   ·exact h x c e
  ·exact h x c e
theorem uI{cells:List (Str×Addr)}{x:Str}{c:Addr}(hx:cells.lookup x=some c):∀(names:List (Str×NameKind)) (cs:List (Str×Addr)),cs.lookup x=some c->(qF cells names cs).lookup x=some c
 | [],_,h=>h
 | (n,k)::r,cs,h=>by
  refine uI hx r _ ?_;split
  ·split
   ·rename_i c' hc;rw[ack];by_cases z:(x == n)=true
    ·rw[z];have z':x=n:=by simpa using z
     rw[z']at hx;exact hc.symm.trans hx
    ·rw[abP]at z;rw[z];exact h
   ·exact h
  ·exact h
theorem rN{cells:List (Str×Addr)}{x:Str}{c:Addr}(hx:cells.lookup x=some c):∀(names:List (Str×NameKind)) (cs:List (Str×Addr)),(x,NameKind.free)∈names->(qF cells names cs).lookup x=some c
 | [],_,h=>nomatch h
 | (n,k)::r,cs,h=>by
  rcases aap.mp h with e | h
  ·cases e;refine uI hx r _ ?_;simp[hx,List.lookup_cons]
  ·exact rN hx r _ h
theorem mO{env:Env}{scope:Scope}(h:∀y∈scope.names,y.2=NameKind.free->∃c,env.cells.lookup y.1=some c):closureFor scope env=pure (qF env.cells scope.names []):=by
 have go:∀(names:List (Str×NameKind)) (cs:List (Str×Addr)),(∀y∈names,y.2=NameKind.free->∃c,env.cells.lookup y.1=some c) ->
   (forIn names cs λx (r:List (Str×Addr))=>if (x.2 == NameKind.free)=true then do let c ← cellOf env x.1;pure (ForInStep.yield ((x.1,c)::r))else pure (ForInStep.yield r):Sem (List (Str×Addr)))=pure (qF env.cells names cs):=by
  intro names
  induction names with
  | nil=>intro cs _;rfl
  | cons y r ih =>
   intro cs hy;obtain⟨n,k⟩:=y;rw[List.forIn_cons];by_cases hk:k=NameKind.free
   ·subst hk;obtain⟨c,hc⟩:=hy _ List.mem_cons_self rfl;have hc':env.cells.lookup n=some c:=hc;have hcell:cellOf env n=pure c:=by simp only[cellOf,hc']
    simp only[hcell,beq_self_eq_true,if_true,pure_bind];rw[ih _ λy hm=>hy y (List.mem_cons_of_mem _ hm)];simp only[qF,beq_self_eq_true,if_true,hc']
   ·have hb:(k == NameKind.free)=false:=by simpa using hk
    simp only[hb,Bool.false_eq_true,if_false,pure_bind];rw[ih _ λy hm=>hy y (List.mem_cons_of_mem _ hm)];simp only[qF,hb,Bool.false_eq_true,if_false]
 have e:=go scope.names [] h;unfold closureFor;simp only[bind_pure]at e ⊢;exact e
theorem rO{scope:Scope}{env:Env}(x:Str):(relabel scope env).names.lookup x=(scope.names.lookup x).map λk=>if (k == NameKind.free&&env.scope.kind == .function&&env.kindOf x == some .cell)=true then .cell else k:=by
 show(scope.names.map λ(n,k)=>if (k == NameKind.free&&env.scope.kind == .function&&env.kindOf n == some .cell)=true then(n,NameKind.cell)else(n,k)).lookup x=_
 induction scope.names with
 | nil=>rfl
 | cons y r ih =>
  obtain⟨n,k⟩:=y;rw[aa7];by_cases z:(x == n)=true
  ·have z':x=n:=by simpa using z
   subst z';by_cases hc:(k == NameKind.free&&env.scope.kind == .function&&env.kindOf x == some .cell)=true
   ·simp only[hc,if_true,List.lookup_cons,beq_self_eq_true,Option.map_some]
   ·simp only[hc,if_false,List.lookup_cons,beq_self_eq_true,Option.map_some,Bool.false_eq_true]
  ·rw[abP]at z;by_cases hc:(k == NameKind.free&&env.scope.kind == .function&&env.kindOf n == some .cell)=true
   ·simp only[hc,if_true,List.lookup_cons,z];exact ih
   ·simp only[hc,if_false,List.lookup_cons,z,Bool.false_eq_true];exact ih
theorem eG{α β:Type}[BEq α][LawfulBEq α]{x:α}{b:β}:∀{l:List (α×β)},l.lookup x=some b->(x,b)∈l
 | [],h=>by simp at h
 | (n,k)::r,h=>by
  rw[ack]at h;by_cases z:(x == n)=true
  ·rw[z]at h;have z':x=n:=by simpa using z
   cases h;rw[z'];exact aaN
  ·rw[abP]at z;rw[z]at h;exact aa4 _ (eG h)
def Cx.mI(X:Cx)(N:List Str)(scope:Scope)(C:Addr)(ex:List Addr)(s:Shared)(H:Hp):Cx where
 prog:=X.prog
 w:=X.w
 K:=X.K
 mg:=X.mg
 base:=X.base
 A:=X.A
 N:=N
 s₀:=s
 H₀:=H
 env:=compEnvC scope (qF X.env.cells scope.names []) C X.env
 outer:=X.stack
 stack:=X.stack
 ex:=ex
 fn:=λ_=>false
 calm:=X.calm
 pn:=[]
 xe:=λ_ _=>False
structure mP(X:Cx)(own:Nat)(N:List Str)(ix:List Nat)(scope:Scope):Prop where
 kind:scope.kind=.function
 calm:X.calm=true
 free:scope.names.all (λy=>y.2 != .free||X.env.kindOf y.1 == some .cell)=true
 cell:scope.names.all (λy=>y.2 != .cell)=true
 loc:scope.names.all (λy=>y.2 != .local||scope.names.lookup y.1 == some .local)=true
 ixs:(ix.map λi=>X.N[i]?)=(N.drop own).map some
 fr:(N.drop own).all (λx=>scope.names.lookup x == some .free)=true
 len:N.length=own + ix.length
def eR(own:Nat)(ix:List Nat)(σ:St):St:=List.replicate own none++ix.map λi=>(σ[i]?).getD none
theorem zK(own:Nat)(ix:List Nat)(σ:St):(eR own ix σ).drop own=ix.map λi=>(σ[i]?).getD none:=by
 unfold eR;rw[List.drop_left' (by simp)]
theorem uJ{own:Nat}{ix:List Nat}{σ:St}{j:Nat}{v:V}(h:(eR own ix σ)[j]?=some (some v)):∃i,own<=j/\ix[j - own]?=some i/\σ[i]?=some (some v):=by
 unfold eR at h;by_cases hj:j < own
 ·rw[List.getElem?_append_left (by simpa using hj)]at h;rw[List.getElem?_replicate]at h;simp[hj]at h
 ·rw[List.getElem?_append_right (by simpa using hj)]at h;rw[List.length_replicate,List.getElem?_map]at h
  cases e:ix[j - own]? with
  | none=>rw[e]at h;simp at h
  | some i =>
   rw[e]at h;refine⟨i,by omega,rfl,?_⟩;have h':(σ[i]?).getD none=some v:=by simpa using h
   cases q:σ[i]? with
   | none=>rw[q]at h';simp at h'
   | some o=>rw[q]at h';simp at h';rw[h']
theorem zL{own:Nat}{ix:List Nat}{σ σ2:St}(hd:σ2.drop own=ix.map λi=>(σ[i]?).getD none):∀(j:Nat) v,(eR own ix σ)[j]?=some (some v)->σ2[j]?=some (some v):=λj v h=>by
 by_cases hj:j < own
 ·obtain⟨i,h1,_⟩:=uJ h;omega
 ·have e:(eR own ix σ)[j]?=((eR own ix σ).drop own)[j - own]?:=by rw[aa9];congr 1;omega
  have e2:σ2[j]?=(σ2.drop own)[j - own]?:=by rw[aa9];congr 1;omega
  rw[e,zK,← hd,← e2]at h;exact h
section
variable {X:Cx} {pins:List (Addr×Obj)} {σ:St} {H:Hp} {s:Shared} {own:Nat} {N:List Str} {ix:List Nat} {scope:Scope}
theorem mP.has(B:mP X own N ix scope)(I:Inv X pins σ H s):∀y∈scope.names,y.2=NameKind.free->X.env.kindOf y.1=some .cell/\∃c,X.env.cells.lookup y.1=some c:=λy hy e=>by
 have z:=List.all_eq_true.mp B.free y hy;rw[e]at z;have z':X.env.kindOf y.1=some .cell:=by simpa using z
 exact⟨z',I.ok.has y.1 (.inl z')⟩
theorem CJ{C:Addr}{ex:List Addr}{h':Heap}{tk:Nat}(B:mP X own N ix scope)(I:Inv X pins σ H s)(hC:C=s.heap.objs.size)(hx:∀b∈ex,nO X pins H b)(hlt:∀b∈ex,b < s.heap.objs.size)
  (hn:h'.Ns C (λ_=>none)) (hk:∀b o,s.heap.get? b=some o->h'.get? b=some o):Inv (X.mI N scope C ex s H) [] (eR own ix σ) H {s with heap:=h',toks:=tk}:=by
 have sub:∀x c,(qF X.env.cells scope.names []).lookup x=some c->X.env.cells.lookup x=some c:=xU scope.names [] λx c e=>by simp at e
 have nb:∀b o,X.base.get? b=some o->b∉ex:=λb o e hb=>by
  rcases (hx b hb).2.2.2.1 with z | z
  ·exact I.ok.noex b o e z
  ·exact absurd (aal (aah e) (aau I.ok.bsz z)) (aa1 _)
 have nstk:∀b∈ex,b∉p9 X.stack:=λb hb z=>by
  rcases aap.mp (I.zr b z)with e | e
  ·exact(hx b hb).2.1 e
  ·exact(hx b hb).2.2.1 e
 refine⟨⟨I.ok.mod,B.kind,I.ok.glob,I.ok.blt,?_,λx y c e1 e2=>I.ok.inj x y c (sub x c e1) (sub y c e2),λx hk'=>?_,(λ_ _ z=>absurd (show false=true from z) (by decide)),I.ok.hd,I.ok.frames,.inl rfl,λb hb=>⟨?_,λx c e=>(hx b hb).2.2.2.2.1 x c (sub x c e)⟩,
  λb o e=>I.bs b o e,aau I.ok.bsz I.sz,nb,nstk,I.stack,I.qZ⟩,rfl,I.bare,Un.kept hk,⟨_,hn,λj x v e1 e2 e3=>?_⟩,λx c e=>?_,?_,λx c e=>I.freeC x c (sub x c e),(λp hp=>nomatch hp),I.hok.kept hk,?_⟩
 ·show s.heap.objs.size<=C;exact acV hC.symm
 ·have hk'':(relabel scope X.env).names.lookup x=some .cell∨(relabel scope X.env).names.lookup x=some .free:=hk';rw[rO]at hk''
  have hf:scope.names.lookup x=some .free:=by
   cases q:scope.names.lookup x with
   | none=>rw[q]at hk'';rcases hk'' with z | z<;>cases z
   | some k =>
    rw[q]at hk'';by_cases hkf:k=.free
    ·rw[hkf]
    ·exfalso
     have hb:(k == NameKind.free)=false:=by simpa using hkf
     have hm:=List.all_eq_true.mp B.cell (x,k) (eG q);simp only[Option.map_some,hb,Bool.false_and,Bool.false_eq_true,if_false]at hk'';rcases hk'' with z | z
     ·rw[Option.some.inj z]at hm;exact absurd hm (by simp)
     ·exact hkf (aax z)
  obtain⟨_,c,hc⟩:=B.has I (x,.free) (eG hf) rfl;exact⟨c,rN hc scope.names [] (eG hf)⟩
 ·show b≠C;rw[hC];exact aam (hlt b hb)
 ·obtain⟨i,h1,h2,h3⟩:=uJ e2;have hN:N[j]?=some x:=e1
  have hxN:X.N[i]?=some x:=by
   have e:(ix.map λi=>X.N[i]?)[j - own]?=((N.drop own).map some)[j - own]?:=by rw[B.ixs]
   rw[aaq,h2,aaq,aa9]at e;have hj:own + (j - own)=j:=by omega
   rw[hj,hN]at e;simpa using e
  have hfr:scope.names.lookup x=some .free:=by
   have hm:x∈N.drop own:=by
    refine aaf (i:=j - own) ?_;rw[aa9,show own + (j - own)=j by omega];exact hN
   have:=List.all_eq_true.mp B.fr x hm;simpa using this
  obtain⟨hkc,c,hc⟩:=B.has I (x,.free) (eG hfr) rfl;obtain⟨m,hm,hl⟩:=I.loc;obtain⟨u,r,l⟩:=hl i x v hxN h3 (.inr (.inl hkc));refine⟨u,r,?_⟩;rcases l with⟨z,_⟩ | ⟨_,c',hc',hz⟩
  ·have z':X.env.kindOf x=some .local:=z;have hkc':X.env.kindOf x=some .cell:=hkc;rw[hkc']at z';cases z'
  ·rw[hc]at hc';cases hc';refine .inr ⟨.inl ?_,c,rN hc scope.names [] (eG hfr),?_⟩
   ·show(relabel scope X.env).names.lookup x=some .cell;rw[rO,hfr];have hkc':X.env.kindOf x=some .cell:=hkc;have hkf:X.env.scope.kind=.function:=I.ok.kind;simp[hkc',hkf]
   ·obtain⟨o,ho,hd⟩:=hz;exact⟨o,hk _ _ ho,hd⟩
 ·obtain⟨v,o,ho,hd⟩:=I.cell x c (sub x c e);exact⟨v,o,hk _ _ ho,hd⟩
 ·show H C=none;exact I.hok.fresh (acV hC.symm)
 ·show(eR own ix σ).length=N.length;rw[B.len];simp[eR]
theorem Jx{C:Addr}{ex:List Addr}{σ':St}{H':Hp}{s':Shared}(I:Inv X pins σ H s)(hx:∀b∈ex,nO X pins H b)(I':Inv (X.mI N scope C ex s H) [] σ' H' s'):Inv X pins σ H' s' :=
 I.Mu (ch:=ex) I'.os I'.base I'.hok I'.bare λb hb=>⟨(hx b hb).2.2.2.1,(hx b hb).2.1,(hx b hb).2.2.2.2.1,(hx b hb).2.2.2.2.2⟩
def Rk(X:Cx)(ifs:List Expr)(tt:TT):Prop:=∀(pins:List (Addr×Obj)) (s:Shared) (σ:St) (H:Hp) (Q:Bool->Hp->Prop),Inv X pins σ H s->tt σ H Q ->
 wpAny (model X.prog X.w) X.A (forIn ifs true λc r=>if r=true then do let ok ← isTrue c X.env (eval c X.env);pure (ForInStep.yield ok)else pure (ForInStep.yield r)) (TP X pins σ Q) X.xe s
def VF:TT:=λ_ H Q=>Q true H
theorem Bp{X:Cx}:Rk X [] VF:=λ_ _ _ H _ I h=>wpAny_tests_nil ⟨H,I,h⟩
theorem Jy{X:Cx}{c:Expr}{t:TT}(h:PT X c t):Rk X [c] t:=λpins s σ H Q I q=>wpAny_tests_one (h pins s σ H Q I q)
def VG(J:It)(own:Nat)(ix:List Nat)(σ:St)(g:TG)(tt:TT)(te:TE)(D:Addr)(H1:Hp)(Q:VK):Prop:=∃W:Nat->Nat->List V->Hp->Prop,
 (∃m,W 0 m [] (upd H1 D (.lst [])))/\∀i m ys H2,W i m ys H2->H2 D=some (.lst ys)/\((J.stop i H2/\Q (.ref D) H2)∨(J.go i H2/\ys.length < sizeLine/\∃Nx:List V->Hp->Prop,(∀ys' H',Nx ys' H'->∃m',m' < m/\W (i + 1) m' ys' H')/\∀x H3,J.yld i H2 x H3 ->
  g x (eR own ix σ) H3 λσ2 H4=>σ2.drop own=(ix.map λi=>(σ[i]?).getD none)/\tt σ2 H4 λb H5=>if b=true then te σ2 H5 λv H6=>H6 D=some (.lst ys)/\Nx (ys++[v]) (upd H6 D (.lst (ys++[v])))else Nx ys H5))
def US(own:Nat)(ix:List Nat)(wi:TI)(g:TG)(tt:TT)(te:TE):TE:=λσ H Q=>wi σ H λJ H1=>∀D,H1 D=none->VG J own ix σ g tt te D H1 Q
theorem xV{prog:Program}{w:World}{A:Around}{R:Result->Shared->Prop}{s:Shared}{elt target iter:Expr}{ifs:List Expr}{scope:Scope}{pos:Pos}{it acc:Value}{env:Env}(I:Nat->Shared->Prop)
  (turn:∀n s,I n s->wpAny (model prog w) A (pyNext it) (λr s1=>match r with
   | none=>R (.ok .next) s1
   | some v=>wpAny (model prog w) A (letOwnedTupleGo target it v) (λ_ s1'=>wpAny (model prog w) A (assign target env v) (λ_ s2 =>
     wpAny (model prog w) A (forIn ifs true λc r=>if r=true then do let ok ← isTrue c env (eval c env);pure (ForInStep.yield ok)else pure (ForInStep.yield r)) (λok s3 =>
      if ok=true then wpAny (model prog w) A (eval elt env) (λx s4=>wpAny (model prog w) A (call (.builtin "list.append") [acc,x]) (λ_ s5=>∃m,m < n/\I m s5) (λ_ _=>False) s4) (λ_ _=>False) s3
      else ∃m,m < n/\I m s3) (λ_ _=>False) s2) (λ_ _=>False) s1') (λ_ _=>False) s1) (λ_ _=>False) s)
  (n:Nat) (h:I n s):codeAny (model prog w) A (.compLoop (.ListComp elt [⟨target,iter,ifs,0⟩] scope pos) 0 it acc env) R s:=by
 refine codeAny_loop rfl I (λn s hI=>?_) n h;show wpAny _ A ((compTurn (.ListComp elt [⟨target,iter,ifs,0⟩] scope pos) 0 it acc env).onRaise (λx=>do noteFrame x env;theTreesLotGoes x)) _ _ s;refine wpAny_noted ?_;rw[compTurn_list];refine aae (abO (aae (aaJ (turn n s hI) (λr s1 h1=>?_) λ_ _ z=>z.elim)))
 cases r with
 | none=>exact aar h1
 | some v =>
  refine aae (aaJ h1 (λ_ s1' h1'=>?_) λ_ _ z=>z.elim);refine aae (aaJ h1' (λ_ s2 h2=>aae (aaJ h2 (λok s3 h3=>?_) λ_ _ z=>z.elim)) λ_ _ z=>z.elim)
  cases ok with
  | false=>exact aar ⟨rfl,h3⟩
  | true=>exact aae (aae (aaJ h3 (λx s4 h4=>aae (aaJ h4 (λ_ s5 h5=>aar (aar ⟨rfl,h5⟩)) λ_ _ z=>z.elim)) λ_ _ z=>z.elim))
theorem Bq{elt tg iter:Expr}{ifs:List Expr}{pos:Pos}{g:TG}{tt:TT}{te:TE}{it:Addr}{fp:List Addr}{tn:Nat->Heap->Prop}{J:It}{Q:VK}{E:Value->Shared->Prop}{RR:Value->Addr->Result->Shared->Prop}(B:mP X own N ix scope)
  (hin:∀(C:Addr) (s:Shared) (H:Hp),PG (X.mI N scope C fp s H) tg g/\Rk (X.mI N scope C fp s H) ifs tt/\PE (X.mI N scope C fp s H) elt te)
  (I:Inv X pins σ H s) (T:Turn X.prog X.w X.K tg J fp it tn) (st:tn 0 s.heap) (hf:∀b∈fp,nO X pins H b)
  (h:∀D,H D=none->VG J own ix σ g tt te D H Q)
  (fin:∀(D C:Addr) (H':Hp) (s':Shared) (m:Str->Option Value),Inv X pins σ H' s'->s'.heap.Ns C m->H' C=none->C≠X.env.locals->(X.s₀.heap.objs.size<=C)->(∀x c,X.env.cells.lookup x=some c->c≠C)->(∀p∈X.pn++pins,p.1≠C)->Q (.ref D) H'->RR (.ref D) C (.ok .next) s') :
  wpAny (model X.prog X.w) X.A (newList []) (λacc s3=>wpAny (model X.prog X.w) X.A (newFunctionEnv scope X.env.globals (qF X.env.cells scope.names []) [] X.env.qual none .none (some X.env)) (λcenv s4 =>
   codeAny (model X.prog X.w) X.A (.compStart (.ListComp elt [⟨tg,iter,ifs,0⟩] scope pos) 0 (.ref it) acc {cenv with scope:=relabel scope X.env}) (RR acc cenv.locals) s4) E s3) E s:=by
 obtain⟨W,⟨m0,w0⟩,turn⟩:=h s.heap.objs.size I.fresh;refine abo ?_;have I3:=I.Jo (its:=[]) (ys:=[]) (t':=s.toks) .nil (aaX _)
 have hcell:∀y∈scope.names,y.2≠NameKind.cell:=λy hy e=>by
  have:=acm.mp B.cell y hy;rw[e]at this;exact absurd this (by decide)
 refine wpAny_newFunctionEnv hcell (by intro y hy;simp at hy) (λh1 Oy Oz=>?_) B.kind;dsimp only at Oy Oz ⊢;generalize VH:s.heap.push {cls:=.type "list",dict:=none,data:=.seq ([]:List Value).toArray}=h2 at Oy Oz ⊢
 have I3':Inv X pins σ (upd H s.heap.objs.size (.lst [])) {s with heap:=h2}:=by
  have z:({s with heap:=s.heap.push {cls:=.type "list",data:=.seq ([]:List Value).toArray},toks:=s.toks}:Shared)={s with heap:=h2}:=by rw[← VH]
  rw[← z];exact I3
 have sz:h2.objs.size=s.heap.objs.size + 1:=by rw[← VH,abq]
 have VI:∀b o,s.heap.get? b=some o->h2.get? b=some o:=λb o e=>by rw[← VH];exact aaa _ e
 have ME:∀b o,h2.get? b=some o->h1.get? b=some o:=λb o e=>Oz.extBut b o (aam (aah e)) (aaa _ e)
 have there:∀b∈fp,b < s.heap.objs.size:=λb hb=>by obtain⟨o,e,_⟩:=T.obj _ _ st b hb;exact aah e
 have VJ:∀b∈fp,nO X pins (upd H s.heap.objs.size (.lst [])) b:=λb hb=>⟨by rw[uN (aam (there b hb))];exact(hf b hb).1,(hf b hb).2⟩
 have UT:h1.Ns h2.objs.size (λ_=>none):=by simpa using Oy
 have I4:=CJ (tk:=s.toks + ([]:List (Str×Value)).length) (own:=own) (N:=N) (ix:=ix) B I3' rfl VJ (λb hb=>aal (there b hb) (by show s.heap.objs.size<=h2.objs.size;rw[sz];exact acE _)) UT ME;have vS:tn 0 h1:=T.keep _ _ _ st λb _ o e=>ME b o (VI b o e)
 have Bc:(X.mI N scope h2.objs.size fp {s with heap:=h2} (upd H s.heap.objs.size (.lst []))).calm=true:=B.calm;obtain⟨pg,pif,pe⟩:=hin h2.objs.size {s with heap:=h2} (upd H s.heap.objs.size (.lst []))
 have fpb:∀{H':Hp},(∀b∈fp,H' b=none)->∀b∈fp,nO (X.mI N scope h2.objs.size fp {s with heap:=h2} (upd H s.heap.objs.size (.lst []))) [] H' b:=λhz b hb =>
  ⟨hz b hb,aam (aal (there b hb) (by show s.heap.objs.size<=h2.objs.size;rw[sz];exact acE _)),I4.ok.exfs b hb,.inl hb,λx c e=>(I4.ok.exf b hb).2 x c e,(λp hp=>nomatch hp)⟩
 have loop:∀s3:Shared,s3={s with heap:=h1,toks:=s.toks + ([]:List (Str×Value)).length} ->
   codeAny (model X.prog X.w) X.A (.compLoop (.ListComp elt [⟨tg,iter,ifs,0⟩] scope pos) 0 (.ref it) (.ref s.heap.objs.size) (compEnvC scope (qF X.env.cells scope.names []) h2.objs.size X.env)) (RR (.ref s.heap.objs.size) h2.objs.size) s3:=by
  rintro s3 rfl;refine xV (λn s'=>∃i ys H',Inv (X.mI N scope h2.objs.size fp {s with heap:=h2} (upd H s.heap.objs.size (.lst []))) [] (eR own ix σ) H' s'/\tn i s'.heap/\(∀b∈fp,H' b=none)/\W i n ys H') ?_ m0
   ⟨0,[],_,I4,vS,λb hb=>(VJ b hb).1,w0⟩
  rintro n s5 ⟨i,ys,H5,I5,zw,UR,w5⟩;obtain⟨hD,t5⟩:=turn i n ys H5 w5;rcases t5 with⟨stop,qn⟩ | ⟨go,hz,Nx,hNx,step⟩
  ·refine cU (T.done (X.mI N scope h2.objs.size fp {s with heap:=h2} (upd H s.heap.objs.size (.lst []))) rfl rfl rfl Bc i [] s5 _ H5 (λ_ _=>False) I5 (fpb UR) zw stop) λr s6 ⟨hr,I6⟩=>?_
   subst hr;obtain⟨m,hm,_⟩:=I6.loc;refine fin _ _ H5 s6 m (Jx I3' VJ I6) hm I6.free ?_ ?_ (λx c e z=>?_) (λp hp z=>?_) qn
   ·have:=I3'.lt;exact aaZ this
   ·exact I3'.sz
   ·obtain⟨v,q⟩:=I3'.cell x c e;have:=q.lt;rw[z]at this;exact absurd this (aa1 _)
   ·have:=aah (I3'.pin p hp).1;rw[z]at this;exact absurd this (aa1 _)
  ·refine cU (T.item (X.mI N scope h2.objs.size fp {s with heap:=h2} (upd H s.heap.objs.size (.lst []))) rfl rfl rfl Bc i [] s5 _ H5 (λ_ _=>False) I5 (fpb UR) zw go) λr s6 ⟨u,hr,h6⟩=>?_
   subst hr;refine cU h6 λ_ s7 ⟨x,H7,I7,r7,y7,VL,Zy⟩=>?_
   have I7':=I7.pinned (fpb Zy) (T.obj _ _ VL);refine cU (pg _ s7 _ H7 x u _ I7' r7 (step x H7 y7)) λ_ s8 ⟨σ8,H8,I8,Zz,q8⟩=>?_
   refine cU (pif _ s8 σ8 H8 _ I8 q8) λb s9 ⟨H9,I9,q9⟩=>?_
   have again:∀{ys':List V} {H':Hp} {s':Shared},Inv (X.mI N scope h2.objs.size fp {s with heap:=h2} (upd H s.heap.objs.size (.lst []))) ([]++rG fp s7.heap) σ8 H' s'->Nx ys' H' ->
     ∃m,m < n/\∃i ys H',Inv (X.mI N scope h2.objs.size fp {s with heap:=h2} (upd H s.heap.objs.size (.lst []))) [] (eR own ix σ) H' s'/\tn i s'.heap/\(∀b∈fp,H' b=none)/\W i m ys H':=by
    intro ys' H' s' I' w';obtain⟨m',hm,w'⟩:=hNx _ _ w';refine⟨m',hm,i + 1,ys',H',(I'.nQ).weak ?_ (zL Zz),T.keep _ _ _ VL λb hb o e=>(I'.pin (b,o) (aaF _ (aaF _ (jw hb e)))).1,λb hb=>?_,w'⟩
    ·rw[I'.len,← I4.len]
    ·obtain⟨o,e,d⟩:=T.obj _ _ VL b hb;exact(I'.pin (b,o) (aaF _ (aaF _ (jw hb e)))).2.1
   cases b with
   | true =>
    simp only[if_true]at q9 ⊢;refine cU (pe _ s9 σ8 H9 _ I9 q9) λv ZA ⟨y,Rl,ZC,ZD,VM,ZE⟩=>?_
    refine cU (ml _ ZA σ8 Rl (.ref _) [y] (.ref _) [v] (λ_ H'=>Nx (ys++[y]) H') ZC rfl (.cons ZD .nil) ⟨_,ys,y,rfl,rfl,VM,hz,ZE⟩) λ_ s11 ⟨_,X3,ZF,_,ZG⟩=>?_
    exact again ZF ZG
   | false =>
    simp only[Bool.false_eq_true,if_false]at q9 ⊢;exact again I9 q9
 exact codeAny_compStart_list (loop _ rfl) (T.self _ 0 _ _ _ vS (loop _ rfl))
theorem EK{elt tg iter:Expr}{ifs:List Expr}{pos:Pos}{wi:TI}{g:TG}{tt:TT}{te:TE}(own:Nat)(N:List Str)(ix:List Nat)(B:mP X own N ix scope)(hi:PI X tg iter wi)
  (hin:∀(C:Addr) (fp:List Addr) (s:Shared) (H:Hp),PG (X.mI N scope C fp s H) tg g/\Rk (X.mI N scope C fp s H) ifs tt/\PE (X.mI N scope C fp s H) elt te)
  (hs:∀x,foldedSetIterable iter X.env x=pure x:=by intro _;rfl):PE X (.ListComp elt [⟨tg,iter,ifs,0⟩] scope pos) (US own ix wi g tt te):=by
 intro pins s σ H Q I h
 have hnames:∀y∈scope.names,y.2=NameKind.local->scope.names.lookup y.1=some .local:=λy hy e=>by
  have:=List.all_eq_true.mp B.loc y hy;rw[e]at this;simpa using this
 rw[eval_ListComp];refine acn (use:=none) rfl hs (mO λy hy e=>(B.has I y hy e).2) B.kind hnames (cU (hi pins s σ H _ I h) λv s1 h1=>cU h1 λitv s2 h2=>?_);obtain⟨it,fp,tn,J,H2,e,I2,T,bJ,f2,rd⟩:=h2;subst e;refine Bq (Q:=Q) (RR:=λacc C=>compPost (model X.prog X.w) X.A X.xe none (EP X pins σ Q) acc C) B (λC s H=>hin C fp s H) I2 T bJ f2 rd ?_;intro D C H' s' m I' hn hC hL hsz hce hpi q;exact⟨m,hn,λh' sb=>⟨.ref D,H',I'.turned (t':=s'.toks) (λb o hb e=>(sb.2 b hb).trans e) hC hL (.inr hsz) hce hpi,rfl,q⟩⟩
theorem EL{i:Nat}{x:Str}{elt tg iter:Expr}{ifs:List Expr}{pos pos' spos:Pos}{wi:TI}{g:TG}{tt:TT}{te:TE}(hN:X.N.Nodup)(hxi:X.N[i]?=some x)(hx:Loc X.env.scope x)(own:Nat)(N:List Str)(ix:List Nat)(B:mP X own N ix scope)(hi:PI X tg iter wi)
  (hin:∀(C:Addr) (fp:List Addr) (s:Shared) (H:Hp),PG (X.mI N scope C fp s H) tg g/\Rk (X.mI N scope C fp s H) ifs tt/\PE (X.mI N scope C fp s H) elt te)
  (hsw:swapsWith (.ListComp elt [⟨tg,iter,ifs,0⟩] scope pos) (some (.Name x pos')) spos.line X.env=pure true:=by rfl) (hs:∀x,foldedSetIterable iter X.env x=pure x:=by intro _;rfl)
  (hfn:X.fn x=true∨X.env.scope.names.lookup x=some .local:=by first | exact .inl rfl | exact .inr rfl):PS X (.Assign [.Name x pos'] (.ListComp elt [⟨tg,iter,ifs,0⟩] scope pos) spos) (Jg (US own ix wi g tt te) (gH i)):=by
 intro pins s σ H D0 I h
 have hnames:∀y∈scope.names,y.2=NameKind.local->scope.names.lookup y.1=some .local:=λy hy e=>by
  have:=List.all_eq_true.mp B.loc y hy;rw[e]at this;simpa using this
 rw[exec_Assign_Name_used _ _ _ _ hsw];refine aae (abO (aae ?_));show wpAny _ X.A (do let _ ← comprehension (.ListComp elt [⟨tg,iter,ifs,0⟩] scope pos) scope X.env _ (newList []) false (eval iter X.env) (some (assign (.Name x pos') X.env))) _ _ s;refine aae (cU (acn (use:=some (assign (.Name x pos') X.env)) (Q:=λ_ s'=>SP X pins D0 .next s') rfl hs (mO λy hy e=>(B.has I y hy e).2) B.kind hnames (cU (hi pins s σ H _ I h) λv s1 h1=>cU h1 λitv s2 h2=>?_)) λ_ s' hq=>aar (aar hq));obtain⟨it,fp,tn,J,H2,e,I2,T,bJ,f2,rd⟩:=h2;subst e;refine Bq (Q:=λv H'=>gH i v σ H' D0.nx) (RR:=λacc C=>compPost (model X.prog X.w) X.A X.xe (some (assign (.Name x pos') X.env)) (λ_ s'=>SP X pins D0 .next s') acc C) B (λC s H=>hin C fp s H) I2 T bJ f2 rd ?_;intro D C H' s' m I' hn hC hL hsz hce hpi q;show wpAny _ X.A (assign (.Name x pos') X.env (.ref D)) _ _ s';refine wpAny_assign_Name (pd I' hN hxi hx (v:=.ref D) rfl (λs'' I'' ⟨a,sb,ha⟩=>?_) hfn);refine⟨m,hn.sameBut sb ?_,λh' sb'=>⟨_,H',I''.turned (t':=s''.toks) (λb o hb e=>(sb'.2 b hb).trans e) hC hL (.inr hsz) hce hpi,q⟩⟩;rcases ha with e | e
 ·rw[e];exact hL
 ·exact ab3 (hce x a e)
end
theorem range_all(bs:List Bool):(List.range bs.length).all (λi=>(bs[i]?).getD true)=bs.all id:=by
 rw[acy,acm,acm]
 constructor
 ·intro h b hb;obtain⟨i,hi,e⟩:=List.mem_iff_getElem.mp hb;have z:=h i (acG.mpr hi);rw[cW hi,e]at z;exact z
 ·intro h i hi;have hi':=acG.mp hi;rw[cW hi'];exact h _ (abQ hi')
section
variable {X:Cx}
def VN(K:aC):List V->Hp->VK->Prop:=λxs H Q=>∃(p:Addr) (bs:List Bool),xs=[.ref p]/\cG K H p (bs.map V.bl)/\Q (.bl (bs.all id)) H
theorem EM(hc:X.calm=true):eO X (.builtin "all") (VN X.K):=by
 intro pins s σ H xs us Q I r h;obtain⟨p,bs,rfl,hS,q⟩:=h;obtain⟨u,rfl,ru⟩:=vals1 r;cases ru;obtain⟨its,rv,pl,hz⟩:=I.list hS
 have hlen:its.toArray.size=bs.length:=by
  have:=rv.length;simp at this;simp[this]
 have hlt:p < s.heap.objs.size:=by obtain⟨o,n,e,_⟩:=pl;exact aah e
 refine call_all_walk (abK pl.isList ?_);refine⟨s.heap.objs.size,_,_,its.toArray.size,_,_,λi=>(bs[i]?).getD true,rfl,Walks.list (show X.A.in1.handled=none from I.ok.hd hc) _ _ (aam hlt) its.toArray,⟨⟨_,aas _ rfl,rfl,rfl⟩,pl.isList.push _⟩,?_,λh' tk k=>?_⟩
 ·intro i v s' Q' E' hv hq
  have hi:i < bs.length:=by
   rw[← hlen];exact(aca.mp hv).1
  obtain⟨u',hu',ru'⟩:=rv.get (i:=i) (x:=.bl bs[i]) (by rw[List.getElem?_map,cW hi];rfl);have e:its[i]?=some v:=by simpa using hv
  rw[hu']at e;cases e;cases ru';have hq':Q' ((bs[i]?).getD true) s':=hq;rw[cW hi]at hq';exact abb hq'
 ·rw[hlen,range_all];exact⟨.bl _,H,I.kept (t':=tk) λb o e=>k b o (by simpa using Nat.ne_of_lt (Heap.lt_size e)) (Heap.get?_push_of_some _ e),rfl,q⟩
def MF(K:aC):R2:=λx y H Q=>∃l b xs zs,x=.ref l/\y=.ref b/\cG K H l xs/\cG K H b zs/\xs.length + zs.length<=sizeLine/\∀p,H p=none->Q (.ref p) (upd H p (.lst (xs++zs)))
theorem Br:i7 X (binaryOp .Add) (MF X.K):=by
 intro pins s σ H x y v u Q I rx ry h;obtain⟨l,b,xs,zs,rfl,rfl,hH,hB,hz,q⟩:=h;cases rx;cases ry;obtain⟨its,r,⟨⟨c1,d1,a1,Bs⟩,n,e,rfl,rfl,rfl⟩,z⟩:=I.list hH;obtain⟨vL,r2,⟨⟨c2,d2,a2,Od⟩,n2,e2,rfl,rfl,rfl⟩,z2⟩:=I.list hB;have hl:=r.length;have Jq:=r2.length;refine concat_meets ⟨_,e,rfl⟩ ⟨_,e2,rfl⟩ noFill_list_add seq_list_add PySem.F.slot_list_add PySem.F.entry_list_add (PySem.F.args_list_add_2 _ _)
  (list_addW l b its.toArray vL.toArray n n2 none none Bs Od (by rw[aaL,aaL];omega)) ⟨e,e2,?_⟩
 rw[show its.toArray++vL.toArray=(its++vL).toArray by simp];exact⟨.ref _,_,I.Jo (t':=s.toks) (r.append r2) (by rw[List.length_append];omega),rfl,q _ I.fresh⟩
def MG(K:aC):List V->Hp->VK->Prop:=λxs H Q=>∃(p:Addr) (ns:List Int),xs=[.ref p]/\cG K H p (ns.map V.int)/\0 < ns.length/\∀m:Int,m∈ns->(∀a∈ns,a<=m)->Q (.int m) H
theorem CK(hc:X.calm=true):eO X (.builtin "max") (MG X.K):=by
 intro pins s σ H xs us Q I r h;obtain⟨p,ns,rfl,hS,hne,q⟩:=h;obtain⟨u,rfl,ru⟩:=vals1 r;cases ru;obtain⟨its,rv,pl,hz⟩:=I.list hS;have hi:IntsAre its ns:=intsAre_of rv;obtain⟨zs,e⟩:=hi.allInts.items;have hns:ns=zs.toList.map (·.1):=by rw[← hi.numsOf,← nums_intItems,← e]
 have hz':zs.size=ns.length:=by rw[hns];simp
 have hl:=pl.isList;rw[e]at hl;refine max_intList (I.ok.hd hc) hl (by omega) λv h' tk hv hk=>?_
 obtain⟨t,rfl⟩:=intItems_at hv;have ab:=argBest_gt (numAt zs) (zs.size - 1);refine⟨.int _,H,I.kept hk,⟨t,rfl⟩,q _ ?_ λa ha=>?_⟩
 ·rw[hns,numAt_eq];exact getD_mem (aaT ab.1 (by rw[aac,Array.length_toList,hz'];omega))
 ·rw[hns]at ha;obtain⟨j,hj,rfl⟩:=mem_getD ha;rw[← numAt_eq];exact ab.2 j (by simp at hj;omega)
end
section
variable {X:Cx} {tg:Expr}
end
def Jz(K:aC)(w:World)(d:Addr)(kds:List (Str×PyData)):Prop :=
 (d == sysModules)=false/\∃(o:Obj) (vs:List (Str×Value)),K.lookup d=some o/\(∀P:Program,o.IsDictOf (strKind P w) vs) /\
  Paired (λa b=>a.1=b.1/\∃v,RelV v a.2/\∀H:Hp,aO K H v b.2) vs kds
def eS(kds:List (Str×PyData))(k:Str):Option PyData:=(kds.find? λkv=>decide (kv.1=k)).map (·.2)
theorem mV{K:aC}{vs:List (Str×Value)}{kds:List (Str×PyData)}(k:Str)(h:Paired (λa b=>a.1=b.1/\∃v,RelV v a.2/\∀H:Hp,aO K H v b.2) vs kds):
  (valueAt vs k=none/\eS kds k=none)∨∃u d v,valueAt vs k=some u/\eS kds k=some d/\RelV v u/\∀H:Hp,aO K H v d:=by
 induction h with
 | nil=>exact .inl ⟨rfl,rfl⟩
 | @cons a b as bs hab t ih =>
  obtain⟨e,v,h1,h2⟩:=hab;by_cases q:a.1=k
  ·refine .inr ⟨a.2,b.2,v,?_,?_,h1,h2⟩
   ·unfold valueAt;rw[List.find?_cons_of_pos (by simpa using q)];rfl
   ·unfold eS;rw[List.find?_cons_of_pos (by simpa [← e]using q)];rfl
  ·have e1:valueAt (a::as) k=valueAt as k:=by unfold valueAt;rw[List.find?_cons_of_neg (by simpa using q)]
   have e2:eS (b::bs) k=eS bs k:=by unfold eS;rw[List.find?_cons_of_neg (by simpa [← e]using q)]
   rw[e1,e2];exact ih
def EN(w:World)(e:Str×Tok×Value):DictEntry:={hash:=PyData.keyHash w.params e.1,key:=.str e.1 e.2.1,val:=e.2.2}
theorem OA{K:aC}{w:World}{d:Addr}{ep:Nat}{ent:List (Str×Tok×Value)}{kds:List (Str×PyData)}(hd:(d == sysModules)=false)
  (lk:K.lookup d=some {cls:=.type "dict",data:=.dict (ent.map (EN w)).toArray ep}) (nd:(ent.map (·.1)).Nodup)
  (h:Paired (λ(e:Str×Tok×Value) (kd:Str×PyData)=>e.1=kd.1/\∃v,RelV v e.2.2/\∀H:Hp,aO K H v kd.2) ent kds):Jz K w d kds:=by
 refine⟨hd,_,ent.map (λe=>(e.1,e.2.2)),lk,λP=>⟨_,ep,⟨rfl,rfl,rfl⟩,rfl,?_,?_,?_⟩,?_⟩
 ·intro e he;simp at he;obtain⟨a,b,c,_,rfl⟩:=he;exact⟨a,strKind_is _ _ _ _,rfl⟩
 ·show Pairs _ (ent.map (EN w)) _;clear h nd lk
  induction ent with
  | nil=>exact .nil
  | cons e r ih=>exact .cons (acL _ _ _ _) rfl ih
 ·rw[List.map_map];exact nd
 ·clear lk nd
  induction h with
  | nil=>exact .nil
  | cons a t ih=>exact .cons a ih
theorem JA{K:aC}{r:Addr}{its:List Value}{ds:List PyData}(lk:K.lookup r=some {cls:=.type "tuple",data:=.seq its.toArray 0})(hz:its.length<=sizeLine)
  (h:Paired (λu d=>∃v,RelV v u/\∀H:Hp,aO K H v d) its ds):∃v,RelV v (.ref r)/\∀H:Hp,aO K H v (.tuple ds):=by
 have key:∃xs:List V,Vals xs its/\∀H:Hp,aP K H xs ds:=by
  clear lk hz
  induction h with
  | nil=>exact⟨[],.nil,λH=>aP.nil⟩
  | cons a t ih =>
   obtain⟨v,h1,h2⟩:=a;obtain⟨xs,g1,g2⟩:=ih;exact⟨v::xs,.cons h1 g1,λH=>aP.cons (h2 H) (g2 H)⟩
 obtain⟨xs,h1,h2⟩:=key;exact⟨.ref r,rfl,λH=>.iQ (.inr ⟨_,its.toArray,0,lk,rfl,rfl,by simpa using hz,h1⟩) (h2 H)⟩
theorem rj{K:aC}{r:Addr}{d:PyData}(h:∃v,RelV v (.ref r)/\∀H:Hp,aO K H v d):∀H:Hp,aO K H (.ref r) d:=by
 obtain⟨v,h1,h2⟩:=h;intro H;cases v<;>simp[RelV]at h1
 subst h1;exact h2 H
theorem Bt{K:aC}{x:Str}{t:Tok}:∃v,RelV v (.str x t)/\∀H:Hp,aO K H v (.str x):=⟨.str x,⟨t,rfl⟩,λ_=>.str x⟩
theorem Bu{K:aC}{i:Int}{t:Tok}:∃v,RelV v (.int i t)/\∀H:Hp,aO K H v (.int i):=⟨.int i,⟨t,rfl⟩,λ_=>.int i⟩
section
variable {X:Cx}
theorem Jz.at{K:aC}{pins:List (Addr×Obj)}{σ:St}{H:Hp}{s:Shared}{w:World}{d:Addr}{kds:List (Str×PyData)}(hK:X.K=K)(I:Inv X pins σ H s)(h:Jz K w d kds):
  (d == sysModules)=false/\∃vs,(∀P,s.heap.DictOf (strKind P w) d vs)/\Paired (λa b=>a.1=b.1/\∃v,RelV v a.2/\∀H:Hp,aO K H v b.2) vs kds:=by
 obtain⟨h0,o,vs,lk,hd,hp⟩:=h;subst hK;exact⟨h0,vs,λP=>Heap.dictOf_iff.mpr ⟨o,I.nK d o lk,hd P⟩,hp⟩
def VO(K:aC)(w:World)(neg:Bool):R2:=λx y H Q=>∃d kds k,y=.ref d/\x=.str k/\Jz K w d kds/\Q (.bl (if neg then !(eS kds k).isSome else(eS kds k).isSome)) H
theorem OB:i7 X (compareOp .In) (VO X.K X.w false):=by
 intro pins s σ H x y v u Q I rx ry h;obtain⟨d,kds,k,rfl,rfl,hd,q⟩:=h;cases ry;obtain⟨t,rfl⟩:=rx;obtain⟨h0,vs,hm,hp⟩:=hd.at rfl I;refine wpAny_in_of (acL X.prog X.w k t) h0 (hm X.prog).mapOf ⟨.bl _,H,I.tok _,rfl,?_⟩
 have e:(valueAt vs k).isSome=(eS kds k).isSome:=by
  rcases mV k hp with⟨a,b⟩ | ⟨_,_,_,a,b,_⟩<;>rw[a,b]<;>rfl
 rw[e];exact q
def VP(K:aC)(w:World):R2:=λx y H Q=>∃d kds k dt,x=.ref d/\y=.str k/\Jz K w d kds/\eS kds k=some dt/\∀v:V,(∀H:Hp,aO K H v dt)->Q v H
theorem EO:IE X (VP X.K X.w):=by
 intro value slice pins s σ H x y v u Q I rx ry h hs;obtain⟨d,kds,k,dt,rfl,rfl,hd,hg,q⟩:=h;cases rx;obtain⟨t,rfl⟩:=ry;obtain⟨h0,vs,hm,hp⟩:=hd.at rfl I;rcases mV k hp with⟨a,b⟩ | ⟨u,e,z,a,b,c1,c2⟩
 ·rw[b]at hg;cases hg
 ·rw[b]at hg;cases hg;exact abL (x:=u) (hm X.prog).mapOf.typeIs slot_dict_getitem.lookup
   (wpAny_getItem_of (Q:=λr s'=>r=u/\EP X pins σ Q r s') (acL X.prog X.w k t) (hm X.prog).mapOf a ⟨rfl,⟨z,H,I.tok _,c1,q z c2⟩⟩) hs
def Sf(K:aC)(w:World)(to:TE)(t:TA):TE:=λσ H Q=>to σ H λx H1=>∃d kds,x=.ref d/\Jz K w d kds/\t σ H1 λxs H2=>∃k z,xs=[.str k,z]/\(eS kds k=none->Q z H2) /\
 ∀dt,eS kds k=some dt->∀v:V,(∀H:Hp,aO K H v dt)->Q v H2
variable {o e:Expr} {es:List Expr} {to:TE} {t:TA} {apos cpos:Pos}
theorem JB(ho:PE X o to)(ha:PA X (e::es) t)
  (hbase:attributeBase o "get" X.env (eval o X.env)=eval o X.env:=by rfl)
  (hfew:((backTo cpos (starEach (e::es) X.env)).all (λx=>!x.1)&&(backToKw cpos (keywordEach [] X.env)).all (λx=>x.1.isSome)
   && decide ((e::es).length + ([]:List Keyword).length + (if ([]:List Keyword).isEmpty then 0 else 1) < 30))=true:=by rfl)
  (hline:(apos.endLine == cpos.line)=true:=by rfl) (hs:starEach (e::es) X.env=(false,eval e X.env)::starEach es X.env:=by rfl) (hplain:(backTo cpos (starEach es X.env)).any (·.1)=false:=by rfl) :
  PE X (.Call (.Attribute o "get" apos) (e::es) [] cpos) (Sf X.K X.w to t):=by
 intro pins s σ H Q I h;refine wpAny_Call_method_late hbase hfew hline rfl (cU (ho pins s σ H _ I h) λv s1 ⟨x,H1,I1,r1,d,kds,ex,hd,q1⟩=>?_);subst ex;cases r1;obtain⟨h0,vs,hm,hp⟩:=hd.at rfl I1;refine⟨"dict","dict.get",PySem.F.plainAttrs_dict,acH,PySem.F.type_dict_get,(hm X.prog).mapOf.typeIs,λb eb=>?_,?_⟩
 ·cases eb;obtain⟨ob,_,_,g1,g2,_⟩:=hm X.prog;exact⟨ob,g1,g2.2.1⟩
 have hA:=ha cpos pins s1 σ H1 _ I1 q1;rw[hs]at hA ⊢;refine Calls.callWith_builtin (by show(false||(backTo cpos (starEach es X.env)).any (·.1))=false;rw[hplain]<;>rfl) (Calls.evalArgs_plain ?_)
 refine cU hA λus s2 ⟨ws,H2,I2,r2,k,z,ez,q2,q3⟩=>?_
 subst ez;obtain⟨u1,u2,rfl,JC,Sg⟩:=vals2 r2;obtain⟨tk,rfl⟩:=JC;obtain⟨h0,vs,hm,hp⟩:=hd.at rfl I2;refine call_meetsIn acH (hm X.prog).mapOf.typeIs PySem.F.entry_dict_get (PySem.F.args_dict_get_3 _ _ _) (meets_dict_get_default (strKind X.prog X.w) d (acL X.prog X.w k tk) h0 u2) ⟨_,(hm X.prog).mapOf,?_⟩;rcases mV k hp with⟨a,b⟩ | ⟨u,dt,v,a,b,c1,c2⟩
 ·rw[a];exact⟨z,H2,I2.tok _,Sg,q2 b⟩
 ·rw[a];exact⟨v,H2,I2.tok _,c1,q3 dt b v c2⟩
end
theorem Inv.Bv{X:Cx}{pins:List (Addr×Obj)}{σ:List (Option V)}{H:Hp}{s:Shared}{h':Heap}{fp:List Addr}{a:Addr}{o:HO}{t':Nat}(I:Inv X pins σ H s)(hf:∀b∈fp,nO X pins H b)
  (k:∀b u,b∉fp->s.heap.get? b=some u->h'.get? b=some u) (hp:s.heap.objs.size<=a) (new:dU X.prog X.w (upd H a o) h' a o):Inv X pins σ (upd H a o) {s with heap:=h',toks:=t'}:=by
 have hn:=I.hok.fresh hp;have nfp:∀b u,H b=some u->b∉fp:=λb u e z=>by rw[(hf b z).1]at e;cases e
 refine I.step (g':=s.gens) (d':=s.drawn) (ch:=fp) (λb hb=>⟨(hf b hb).2.2.2.1,(hf b hb).2.1,(hf b hb).2.2.2.2.1,(hf b hb).2.2.2.2.2⟩) (λb o _ _ hc e _=>k b o hc e) (λb o _ _ hc e _=>⟨o.slots,k b o hc e⟩)
  (λb o hc e n=>by rw[uN (aam (aal (aah e) hp))];exact n) (λb o hc e=>⟨o,k b o hc e⟩) (λb xs e=>by rw[uN (nN e hn)];exact e) (λb u xs e=>by rw[uN (nN e hn)];exact e)
  (λb ps e=>⟨#[],by rw[uN (nN e hn),e];simp⟩) (λm hm=>?_) (λb u e=>?_) I.bare
 ·obtain⟨o,es,ep,ho,r⟩:=hm;exact⟨o,es,ep,k _ o (λz=>(hf _ z).2.1 rfl) ho,r⟩
 ·by_cases hb:b=a
  ·subst hb;rw[uS]at e;cases e;exact new
  ·rw[uN hb]at e;refine(I.hok b u e).tQ (λc v hc q=>k c v ?_ q) (λc q=>by rw[uN (nN q hn)];exact q) λc xs q=>by rw[uN (nN q hn)];exact q
   rcases hc with z | z
   ·rw[z];exact nfp b u e
   ·exact nfp c _ z
theorem Inv.Bw{X:Cx}{pins:List (Addr×Obj)}{σ:List (Option V)}{H:Hp}{s:Shared}{h':Heap}{fp:List Addr}{t':Nat}(I:Inv X pins σ H s)(hf:∀b∈fp,nO X pins H b)
  (k:∀b u,b∉fp->s.heap.get? b=some u->h'.get? b=some u):Inv X pins σ H {s with heap:=h',toks:=t'}:=by
 have nfp:∀b u,H b=some u->b∉fp:=λb u e z=>by rw[(hf b z).1]at e;cases e
 refine I.step (g':=s.gens) (d':=s.drawn) (ch:=fp) (λb hb=>⟨(hf b hb).2.2.2.1,(hf b hb).2.1,(hf b hb).2.2.2.2.1,(hf b hb).2.2.2.2.2⟩) (λb o _ _ hc e _=>k b o hc e) (λb o _ _ hc e _=>⟨o.slots,k b o hc e⟩)
  (λ_ _ _ _ n=>n) (λb o hc e=>⟨o,k b o hc e⟩) (λ_ _ e=>e) (λ_ _ _ e=>e) (λb ps e=>⟨#[],by rw[e];simp⟩) (λm hm=>?_) (λb u e=>?_) I.bare
 ·obtain⟨o,es,ep,ho,r⟩:=hm;exact⟨o,es,ep,k _ o (λz=>(hf _ z).2.1 rfl) ho,r⟩
 ·refine(I.hok b u e).tQ (λc v hc q=>k c v ?_ q) (λ_ q=>q) λ_ _ q=>q
  rcases hc with z | z
  ·rw[z];exact nfp b u e
  ·exact nfp c _ z
def ja(q:Bool)(h:Heap)(a:Addr)(its:Array Value):Prop:=match q with | true=>h.IsList a its | false=>h.IsTuple a its
def fi(q:Bool)(h:Heap)(it a:Addr)(i:Nat):Prop:=match q with | true=>h.IsListIter it a i | false=>h.IsTupleIter it a i
def Si(q:Bool):String:=match q with | true=>"list_iterator" | false=>"tuple_iterator"
theorem ja.at{q:Bool}{h h':Heap}{a:Addr}{its:Array Value}(x:ja q h a its)(e:∀o,h.get? a=some o->h'.get? a=some o):ja q h' a its:=by
 cases q<;>(obtain⟨o,ho,r⟩:=x;exact⟨o,e _ ho,r⟩)
theorem fi.at{q:Bool}{h h':Heap}{it a:Addr}{i:Nat}(x:fi q h it a i)(e:∀o,h.get? it=some o->h'.get? it=some o):fi q h' it a i:=by
 cases q<;>(obtain⟨o,ho,r⟩:=x;exact⟨o,e _ ho,r⟩)
theorem fi.obj{q:Bool}{h:Heap}{it a:Addr}{i:Nat}(x:fi q h it a i):∃o,h.get? it=some o/\∀v,o.data≠.cell v:=by
 cases q<;>(obtain⟨o,ho,c,d⟩:=x;exact⟨o,ho,λv z=>by rw[d]at z;cases z⟩)
section
variable {prog:Program} {w:World} {A:Around} {E:Value->Shared->Prop} {s:Shared}
theorem ER{it t:Addr}{i:Nat}{its:Array Value}{x:Value}{Q:Value->Shared->Prop}(hit:s.heap.IsTupleIter it t i)(ht:s.heap.IsTuple t its)(hx:its[i]?=some x)
  (hQ:∀h',h'.IsTupleIter it t (i + 1)->Heap.SameBut it s.heap h'->Q x {s with heap:=h'}):wpAny (model prog w) A (Builtin.SmallTypes.nextOf (.ref it)) Q E s:=by
 obtain⟨o,g1,g2,g3⟩:=id hit;obtain⟨ot,g4,_,nt,g5⟩:=ht;unfold Builtin.SmallTypes.nextOf;refine wpAny_bind (wpAny_callSpecial?_slot (name:=Str.ofString "__next__") hit.typeIs F.slot_tuple_iterator_next (wpAny_call_entry F.slot_tuple_iterator_next hit.typeIs F.entry_tuple_iterator_next ?_ (F.args_tuple_iterator_next_1 _)));show wpAny _ _ (field (.ref it) 0 >>= _) _ _ s;refine wpAny_bind (wpAny_field g1 g3 (x:=.ref t) rfl ?_);show wpAny _ _ (if (Value.ref t == Value.none)=true then _ else _) _ _ s;rw[if_neg (show ¬ ((Value.ref t == Value.none)=true)from Bool.false_ne_true)];show wpAny _ _ (field (.ref it) 1 >>= _) _ _ s;refine wpAny_bind (wpAny_field g1 g3 (x:=.int i 0) rfl ?_);show wpAny _ _ (seqItems? (.ref t) >>= _) _ _ s;refine wpAny_bind (wpAny_seqItems g4 g5 ?_);simp only[Int.toNat_natCast,hx];refine wpAny_bind (wpAny_setField g1 g3 (by simp) (wpAny_pure ⟨x,rfl,wpAny_pure (hQ _ ?_ (Heap.SameBut.update ..))⟩));exact⟨_,Heap.get?_update_self _ g1 (Obj.isFreed_of_fields (Obj.data_mapFields g3 _)),(Obj.cls_mapFields ..).trans g2,by rw[Obj.data_mapFields g3];simp[rawInt]⟩
theorem JD{it t:Addr}{i:Nat}{its:Array Value}{Q:Value->Shared->Prop}(hh:A.handled=none)(hit:s.heap.IsTupleIter it t i)(ht:s.heap.IsTuple t its)(hx:its[i]?=none)
  (hE:∀h' e,Heap.ExtBut it s.heap h'->(∃o,h'.get? e=some o/\o.cls=.type "StopIteration")->E (.ref e) {s with heap:=h'}):wpAny (model prog w) A (Builtin.SmallTypes.nextOf (.ref it)) Q E s:=by
 obtain⟨o,g1,g2,g3⟩:=id hit;obtain⟨ot,g4,_,nt,g5⟩:=ht;unfold Builtin.SmallTypes.nextOf;refine wpAny_bind (wpAny_callSpecial?_slot (name:=Str.ofString "__next__") hit.typeIs F.slot_tuple_iterator_next (wpAny_call_entry F.slot_tuple_iterator_next hit.typeIs F.entry_tuple_iterator_next ?_ (F.args_tuple_iterator_next_1 _)));show wpAny _ _ (field (.ref it) 0 >>= _) _ _ s;refine wpAny_bind (wpAny_field g1 g3 (x:=.ref t) rfl ?_);show wpAny _ _ (if (Value.ref t == Value.none)=true then _ else _) _ _ s;rw[if_neg (show ¬ ((Value.ref t == Value.none)=true)from Bool.false_ne_true)];show wpAny _ _ (field (.ref it) 1 >>= _) _ _ s;refine wpAny_bind (wpAny_field g1 g3 (x:=.int i 0) rfl ?_);show wpAny _ _ (seqItems? (.ref t) >>= _) _ _ s;refine wpAny_bind (wpAny_seqItems g4 g5 ?_);simp only[Int.toNat_natCast,hx];refine wpAny_bind (wpAny_rule (wpAny_bind (wpAny_setField g1 g3 (by simp) ?_)));show wpAny _ _ (newExc (.type "StopIteration") [] >>= _) _ _ _;refine wpAny_bind ?_;simp only[newExc,newTuple];refine wpAny_bind (wpAny_newObj_type ?_ (by size_fits));refine wpAny_bind (m:=firstArgMember _ _) (wpAny_of_eq (a:=Value.none) (by first | rfl | (simp only[firstArgMember];rfl)) ?_);refine wpAny_newObj_type ?_ (by size_fits);simp only[raiseNew];refine wpAny_bind (wpAny_handled ?_)
 first | rw[show A.in1.handled=none from hh] | rw[hh]
 refine aae (aar (wpAny_throw ?_));exact hE _ _ (((Heap.SameBut.update ..).extBut.push _).push _) ⟨_,aas _ rfl,rfl⟩
theorem vT{q:Bool}{it t:Addr}{i:Nat}{its:Array Value}{x:Value}{Q:Value->Shared->Prop}(hit:fi q s.heap it t i)(ht:ja q s.heap t its)(hx:its[i]?=some x)
  (hQ:∀h',fi q h' it t (i + 1)->Heap.SameBut it s.heap h'->Q x {s with heap:=h'}):wpAny (model prog w) A (Builtin.SmallTypes.nextOf (.ref it)) Q E s:=by
 cases q with
 | true=>exact wpAny_nextOf_list_item hit ht hx hQ
 | false=>exact ER hit ht hx hQ
theorem ES{q:Bool}{it t:Addr}{i:Nat}{its:Array Value}{Q:Value->Shared->Prop}(hh:A.handled=none)(hit:fi q s.heap it t i)(ht:ja q s.heap t its)(hx:its[i]?=none)
  (hE:∀h' e,Heap.ExtBut it s.heap h'->(∃o,h'.get? e=some o/\o.cls=.type "StopIteration")->E (.ref e) {s with heap:=h'}):wpAny (model prog w) A (Builtin.SmallTypes.nextOf (.ref it)) Q E s:=by
 cases q with
 | true=>exact wpAny_nextOf_list_end hh hit ht hx hE
 | false=>exact JD hh hit ht hx hE
variable {q1 q2:Bool} {z TI TO i1 i2 l1 l2:Addr} {k1 k2:Nat} {xs ys:Array Value} {x y a b:Value}
theorem CL{Q:Option Value->Shared->Prop}(D:ZipApart z TI TO i1 i2 l1 l2)(hz:IsZip s.heap z TI TO .none)(hTI:IsPair s.heap TI (.ref i1) (.ref i2))(hTO:IsPair s.heap TO a b)
  (h1:fi q1 s.heap i1 l1 k1) (h2:fi q2 s.heap i2 l2 k2) (ET:ja q1 s.heap l1 xs) (Jq:ja q2 s.heap l2 ys) (hx:xs[k1]?=some x) (hy:ys[k2]?=some y)
  (hQ:∀h',IsZip h' z TI TO (rawInt s.heap.objs.size)->IsPair h' TO x y->fi q1 h' i1 l1 (k1 + 1)->fi q2 h' i2 l2 (k2 + 1)->IsPair h' s.heap.objs.size x y ->
   (∀c o,c≠z->c≠TO->c≠i1->c≠i2->s.heap.get? c=some o->h'.get? c=some o)->Q (some (.ref s.heap.objs.size)) {s with heap:=h'}):wpAny (model prog w) A (pyNext (.ref z)) Q E s:=by
 have hT:s.TypeIs (.ref z) "zip":=⟨_,hz,rfl⟩;unfold pyNext;refine wpAny_bind (wpAny_attempt (wpAny_callSpecial?_slot (name:=Str.ofString "__next__") hT F.slot_zip_next (wpAny_call_entry F.slot_zip_next hT F.entry_zip_next ?_ (F.args_zip_next_1 _))));show wpAny _ _ (field (.ref z) 2 >>= _) _ _ _;refine wpAny_bind (wpAny_field hz rfl (x:=.bool false) rfl ?_);show wpAny _ _ (field (.ref z) 3 >>= _) _ _ _;refine wpAny_bind (wpAny_field hz rfl (x:=.ref TI) rfl (wpAny_bind (wpAny_seqItems hTI rfl ?_)));show wpAny _ _ (Builtin.SmallTypes.ownedTupleIsFree (.ref z) >>= _) _ _ _;refine wpAny_bind ?_;unfold Builtin.SmallTypes.ownedTupleIsFree;refine wpAny_bind (wpAny_field hz rfl (x:=.none) rfl (wpAny_pure ?_));simp only[if_true];refine wpAny_bind (wpAny_rule (wpAny_bind (wpAny_field hz rfl (x:=.ref TO) rfl (wpAny_bind (wpAny_setField_rec hz (by simp) λu1 MI b1=>?_)))))
 replace MI:IsZip u1 z TI TO .ellipsis:=MI
 refine wpAny_bind ?_;simp only[List.zipIdx_cons,List.zipIdx_nil,List.forIn_cons,List.forIn_nil];refine wpAny_bind (wpAny_bind (wpAny_onRaise ?_));show wpAny _ _ (Builtin.SmallTypes.nextOf (.ref i1) >>= _) _ _ _;refine wpAny_bind (vT (h1.at λo e=>b1.extBut _ o D.i1z e) (ET.at λo e=>b1.extBut _ o D.l1z e) hx λu2 X4 b2=>wpAny_pure ?_);have EU:IsPair u2 TO a b:=b2.extBut _ _ D.TOi1 (b1.extBut _ _ D.TOz hTO);refine wpAny_bind (wpAny_seqItems EU rfl (wpAny_bind (wpAny_updateSeq_pair EU λu3 JE b3=>?_)))
 replace JE:IsPair u3 TO x b:=JE
 refine aae (wpAny_letGo (aar (aae (aae (wpAny_onRaise ?_)))));show wpAny _ _ (Builtin.SmallTypes.nextOf (.ref i2) >>= _) _ _ _;refine aae (vT (h2.at λo e=>b3.extBut _ o D.TOi2.symm (b2.extBut _ o D.i12.symm (b1.extBut _ o D.i2z e))) (Jq.at λo e=>b3.extBut _ o D.l2TO (b2.extBut _ o D.l2i1 (b1.extBut _ o D.l2z e))) hy λu4 ZH b4=>aar ?_);have Sj:IsPair u4 TO x b:=b4.extBut _ _ D.TOi2 JE;refine aae (wpAny_seqItems Sj rfl (aae (wpAny_updateSeq_pair Sj λu5 JF b5=>?_)))
 replace JF:IsPair u5 TO x y:=JF
 refine aae (wpAny_letGo (aar (aar ?_)));refine aae (wpAny_seqItems JF rfl (aae (wpAny_newTuple ?_)));have hsz:u5.objs.size=s.heap.objs.size:=by rw[b5.1,b4.1,b3.1,b2.1,b1.1]
 have X5:IsZip u5 z TI TO .ellipsis:=b5.extBut _ _ D.TOz.symm (b4.extBut _ _ D.i2z.symm (b3.extBut _ _ D.TOz.symm (b2.extBut _ _ D.i1z.symm MI)));have IF:∀c o,c≠z->c≠TO->c≠i1->c≠i2->s.heap.get? c=some o->u5.get? c=some o:=λc o c1 c2 c3 c4 e=>b5.extBut _ _ c2 (b4.extBut _ _ c4 (b3.extBut _ _ c2 (b2.extBut _ _ c3 (b1.extBut _ _ c1 e))))
 have ZI:fi q1 u5 i1 l1 (k1 + 1):=X4.at λo e=>b5.extBut _ o D.TOi1.symm (b4.extBut _ o D.i12 (b3.extBut _ o D.TOi1.symm e))
 have ZJ:fi q2 u5 i2 l2 (k2 + 1):=ZH.at λo e=>b5.extBut _ o D.TOi2.symm e
 have hzl:z < u5.objs.size:=Heap.lt_size X5;show wpAny _ _ (Builtin.SmallTypes.ownedTupleHandOut (.ref z) (.ref u5.objs.size) >>= _) _ _ _;refine wpAny_bind ?_;unfold Builtin.SmallTypes.ownedTupleHandOut;have ZK:IsZip (u5.push {cls:=.type "tuple",data:=.seq #[x,y]}) z TI TO .ellipsis:=Heap.get?_push_of_some _ X5;refine wpAny_bind (wpAny_setField_rec ZK (by simp) λu7 VQ b7=>?_)
 replace VQ:IsZip u7 z TI TO (rawInt u5.objs.size):=VQ
 refine wpAny_setField_rec VQ (by simp) λu8 UU b8=>?_
 replace UU:IsZip u8 z TI TO (rawInt u5.objs.size):=UU
 have up:∀c o,c≠z->u5.get? c=some o->u8.get? c=some o:=λc o c1 e=>b8.extBut _ _ c1 (b7.extBut _ _ c1 (aaa _ e))
 have UW:IsPair u8 u5.objs.size x y:=b8.extBut _ _ (aaZ hzl) (b7.extBut _ _ (aaZ hzl) (aas _ rfl));rw[hsz]at UU UW;refine aar ⟨_,rfl,aar ?_⟩;show Q (some (.ref u5.objs.size)) _;rw[hsz];exact hQ u8 UU (up _ _ D.TOz JF) (ZI.at λo e=>up _ o D.i1z e) (ZJ.at λo e=>up _ o D.i2z e) UW λc o c1 c2 c3 c4 e=>up c o c1 (IF c o c1 c2 c3 c4 e)
theorem EV{Q:Option Value->Shared->Prop}(hh:A.handled=none)(D:ZipApart z TI TO i1 i2 l1 l2)(hz:IsZip s.heap z TI TO .none)(hTI:IsPair s.heap TI (.ref i1) (.ref i2))(hTO:IsPair s.heap TO a b)
  (h1:fi q1 s.heap i1 l1 k1) (h2:fi q2 s.heap i2 l2 k2) (ET:ja q1 s.heap l1 xs) (Jq:ja q2 s.heap l2 ys) (hend:xs[k1]?=none∨ys[k2]?=none)
  (hQ:∀h',(∀c o,c≠z->c≠TO->c≠i1->c≠i2->s.heap.get? c=some o->h'.get? c=some o)->Q none {s with heap:=h'}):wpAny (model prog w) A (pyNext (.ref z)) Q E s:=by
 have hT:s.TypeIs (.ref z) "zip":=⟨_,hz,rfl⟩;have fin:∀(h':Heap) (e:Addr),(∀c o,c≠z->c≠TO->c≠i1->c≠i2->s.heap.get? c=some o->h'.get? c=some o)->(∃o,h'.get? e=some o/\o.cls=.type "StopIteration") ->
   wpAny (model prog w) A (do let b ← isInstance (.ref e) (.type "StopIteration");if b=true then pure none else throw (.ref e)) Q E {s with heap:=h'}:=λh' e hk ⟨o,ho,hc⟩ =>
  aae (wpAny_isInstance (T:="StopIteration") (b:=true) ⟨o,ho,hc⟩ isSubtype_stop (aar (hQ _ hk)))
 unfold pyNext;refine wpAny_bind (wpAny_attempt (wpAny_callSpecial?_slot (name:=Str.ofString "__next__") hT F.slot_zip_next (wpAny_call_entry F.slot_zip_next hT F.entry_zip_next ?_ (F.args_zip_next_1 _))));show wpAny _ _ (field (.ref z) 2 >>= _) _ _ _;refine wpAny_bind (wpAny_field hz rfl (x:=.bool false) rfl ?_);show wpAny _ _ (field (.ref z) 3 >>= _) _ _ _;refine wpAny_bind (wpAny_field hz rfl (x:=.ref TI) rfl (wpAny_bind (wpAny_seqItems hTI rfl ?_)));show wpAny _ _ (Builtin.SmallTypes.ownedTupleIsFree (.ref z) >>= _) _ _ _;refine wpAny_bind ?_;unfold Builtin.SmallTypes.ownedTupleIsFree;refine wpAny_bind (wpAny_field hz rfl (x:=.none) rfl (wpAny_pure ?_));simp only[if_true];refine wpAny_bind (wpAny_rule (wpAny_bind (wpAny_field hz rfl (x:=.ref TO) rfl (wpAny_bind (wpAny_setField_rec hz (by simp) λu1 MI b1=>?_)))))
 replace MI:IsZip u1 z TI TO .ellipsis:=MI
 refine wpAny_bind ?_;simp only[List.zipIdx_cons,List.zipIdx_nil,List.forIn_cons,List.forIn_nil];refine wpAny_bind (wpAny_bind (wpAny_onRaise ?_));show wpAny _ _ (Builtin.SmallTypes.nextOf (.ref i1) >>= _) _ _ _
 cases hx:xs[k1]? with
 | none =>
  refine wpAny_bind (ES hh (h1.at λo e=>b1.extBut _ o D.i1z e) (ET.at λo e=>b1.extBut _ o D.l1z e) hx λu2 e b2 he=>?_);obtain⟨oe,hoe,hce⟩:=he;have JG:IsZip u2 z TI TO .ellipsis:=b2 _ _ D.i1z.symm MI;have hez:e≠z:=λx=>by subst x;rw[JG]at hoe;cases hoe;simp at hce
  exact wpAny_setField_rec JG (by simp) λu3 _ b3=>fin u3 e (λc o c1 _ c3 _ x=>b3.extBut _ _ c1 (b2 _ _ c3 (b1.extBut _ _ c1 x))) ⟨oe,b3.extBut _ _ hez hoe,hce⟩
 | some x =>
  have hy:ys[k2]?=none:=by rcases hend with h | h;rw[hx]at h;cases h;exact h
  refine wpAny_bind (vT (h1.at λo e=>b1.extBut _ o D.i1z e) (ET.at λo e=>b1.extBut _ o D.l1z e) hx λu2 X4 b2=>wpAny_pure ?_);have EU:IsPair u2 TO a b:=b2.extBut _ _ D.TOi1 (b1.extBut _ _ D.TOz hTO);refine wpAny_bind (wpAny_seqItems EU rfl (wpAny_bind (wpAny_updateSeq_pair EU λu3 JE b3=>?_)));refine wpAny_bind (wpAny_letGo (wpAny_pure (wpAny_bind (wpAny_bind (wpAny_onRaise ?_)))));show wpAny _ _ (Builtin.SmallTypes.nextOf (.ref i2) >>= _) _ _ _;refine wpAny_bind (ES hh (h2.at λo e=>b3.extBut _ o D.TOi2.symm (b2.extBut _ o D.i12.symm (b1.extBut _ o D.i2z e))) (Jq.at λo e=>b3.extBut _ o D.l2TO (b2.extBut _ o D.l2i1 (b1.extBut _ o D.l2z e))) hy λu4 e b4 he=>?_);obtain⟨oe,hoe,hce⟩:=he;have X6:IsZip u4 z TI TO .ellipsis:=b4 _ _ D.i2z.symm (b3.extBut _ _ D.TOz.symm (b2.extBut _ _ D.i1z.symm MI));have hez:e≠z:=λx=>by subst x;rw[X6]at hoe;cases hoe;simp at hce
  exact wpAny_setField_rec X6 (by simp) λu5 _ b5=>fin u5 e (λc o c1 c2 c3 c4 x=>b5.extBut _ _ c1 (b4 _ _ c4 (b3.extBut _ _ c2 (b2.extBut _ _ c3 (b1.extBut _ _ c1 x))))) ⟨oe,b5.extBut _ _ hez hoe,hce⟩
theorem xW{q:Bool}{l:Addr}{its:Array Value}{Q:Value->Shared->Prop}(hl:ja q s.heap l its)(hQ:Q (.ref s.heap.objs.size) {s with heap:=s.heap.push {cls:=.type (Si q),data:=.fields #[.ref l,.int 0 0]}}):
  wpAny (model prog w) A (pyIter (.ref l)) Q E s:=by
 cases q with
 | true=>exact abK hl hQ
 | false=>exact wpAny_pyIter_tuple hl hQ
theorem MJ{q:Bool}{h:Heap}{it l:Addr}(e:h.get? it=some {cls:=.type (Si q),data:=.fields #[.ref l,.int 0 0]}):fi q h it l 0:=by
 cases q<;>exact⟨_,e,rfl,rfl⟩
end
def UX(q1:Bool)(h:Heap)(l1:Addr):Heap:=h.push {cls:=.type (Si q1),data:=.fields #[.ref l1,.int 0 0]}
def Sk(q1 q2:Bool)(h:Heap)(l1 l2:Addr):Heap:=(UX q1 h l1).push {cls:=.type (Si q2),data:=.fields #[.ref l2,.int 0 0]}
def Sl(q1 q2:Bool)(h:Heap)(l1 l2:Addr):Heap:=(Sk q1 q2 h l1 l2).push {cls:=.type "tuple",data:=.seq #[.ref h.objs.size,.ref (UX q1 h l1).objs.size]}
def Sm(q1 q2:Bool)(h:Heap)(l1 l2:Addr):Heap:=(Sl q1 q2 h l1 l2).push {cls:=.type "tuple",data:=.seq #[.none,.none]}
def Rm(q1 q2:Bool)(h:Heap)(l1 l2:Addr):Heap:=(Sm q1 q2 h l1 l2).push {cls:=.type "zip",data:=.fields #[.none,.bool false,.bool false,.ref (Sk q1 q2 h l1 l2).objs.size,.ref (Sl q1 q2 h l1 l2).objs.size]}
theorem zM(q1 q2:Bool)(l1 l2:Addr)(xs ys:Array Value):
  Meets (Builtin.«zip.__new__» ⟨[.type "zip",.ref l1,.ref l2],[]⟩) (λ_ R s=>ja q1 s.heap l1 xs/\ja q2 s.heap l2 ys/\R (.ok (.ret (.ref (Sm q1 q2 s.heap l1 l2).objs.size))) {s with heap:=Rm q1 q2 s.heap l1 l2}) :=
 .of_wp λprog w A R s h=>by
  obtain⟨hp,g,d,tk,os⟩:=s;obtain⟨ET,Jq,h⟩:=h;have hsub:=sub_zip;have ZL:ja q1 (Shared.heap ⟨hp,g,d,tk,os⟩) l1 xs:=ET;have ZM:ja q2 (Shared.heap ⟨hp.push {cls:=.type (Si q1),data:=.fields #[.ref l1,.int 0 0]},g,d,tk,os⟩) l2 ys:=ja.at Jq λo e=>aaa _ e
  wp_walk using xW ZL,xW ZM
  exact⟨_,rfl,h⟩
section
variable {prog:Program} {w:World} {A:Around} {E:Value->Shared->Prop} {s:Shared} {q1 q2:Bool}
theorem uK{l1 l2:Addr}{xs ys:Array Value}{Q:Value->Shared->Prop}(ET:ja q1 s.heap l1 xs)(Jq:ja q2 s.heap l2 ys)
  (h:∀h',IsZip h' (s.heap.objs.size + 4) (s.heap.objs.size + 2) (s.heap.objs.size + 3) .none->IsPair h' (s.heap.objs.size + 2) (.ref s.heap.objs.size) (.ref (s.heap.objs.size + 1)) ->
   IsPair h' (s.heap.objs.size + 3) .none .none->fi q1 h' s.heap.objs.size l1 0->fi q2 h' (s.heap.objs.size + 1) l2 0->(∀c o,s.heap.get? c=some o->h'.get? c=some o)->Q (.ref (s.heap.objs.size + 4)) {s with heap:=h'}) :
  wpAny (model prog w) A (call (.type "zip") [.ref l1,.ref l2]) Q E s:=by
 refine callType_new F.called_zip (by decide) (F.typeCall_zip_2 _ _) (F.newCall_zip_2 _ _) (λobj=>F.args_object_init_3 obj _ _) F.entry_zip_new (zM q1 q2 l1 l2 xs ys) ⟨ET,Jq,?_⟩;have z1:(UX q1 s.heap l1).objs.size=s.heap.objs.size + 1:=Heap.size_push ..;have z2:(Sk q1 q2 s.heap l1 l2).objs.size=s.heap.objs.size + 2:=by unfold Sk;rw[Heap.size_push,z1]
 have z3:(Sl q1 q2 s.heap l1 l2).objs.size=s.heap.objs.size + 3:=by unfold Sl;rw[Heap.size_push,z2]
 have z4:(Sm q1 q2 s.heap l1 l2).objs.size=s.heap.objs.size + 4:=by unfold Sm;rw[Heap.size_push,z3]
 have g5:(Rm q1 q2 s.heap l1 l2).get? (Sm q1 q2 s.heap l1 l2).objs.size=some _:=aas _ rfl;have g4:(Rm q1 q2 s.heap l1 l2).get? (Sl q1 q2 s.heap l1 l2).objs.size=some _:=aaa _ (aas _ rfl);have g3:(Rm q1 q2 s.heap l1 l2).get? (Sk q1 q2 s.heap l1 l2).objs.size=some _:=aaa _ (aaa _ (aas _ rfl));have g2:(Rm q1 q2 s.heap l1 l2).get? (UX q1 s.heap l1).objs.size=some _:=aaa _ (aaa _ (aaa _ (aas _ rfl)));have g1:(Rm q1 q2 s.heap l1 l2).get? s.heap.objs.size=some _:=aaa _ (aaa _ (aaa _ (aaa _ (aas _ rfl))));show _/\_;rw[z2,z3,z4]at g5;rw[z1,z2]at g3;rw[z3]at g4;rw[z1]at g2;rw[z4];exact⟨⟨_,g5,rfl⟩,h _ g5 g3 g4 (MJ g1) (MJ g2) λc o x=>aaa _ (aaa _ (aaa _ (aaa _ (aaa _ x))))⟩
end
def rk(q:Bool)(K:aC)(H:Hp)(a:Addr)(xs:List V):Prop:=match q with | true=>cG K H a xs | false=>bz K H a xs
theorem rk.heap{X:Cx}{pins:List (Addr×Obj)}{σ:St}{H:Hp}{s:Shared}{q:Bool}{a:Addr}{xs:List V}(I:Inv X pins σ H s)(h:rk q X.K H a xs):∃its:List Value,Vals xs its/\ja q s.heap a its.toArray:=by
 cases q with
 | true=>obtain⟨its,r,p,_⟩:=I.list h;exact⟨its,r,p.isList⟩
 | false=>obtain⟨its,r,p,_⟩:=I.tuple h;exact⟨its,r,p⟩
theorem ja.lt{q:Bool}{h:Heap}{a:Addr}{its:Array Value}(x:ja q h a its):a < h.objs.size:=by
 cases q<;>(obtain⟨o,ho,r⟩:=x;exact aah ho)
theorem fi.lt{q:Bool}{h:Heap}{it a:Addr}{i:Nat}(x:fi q h it a i):it < h.objs.size:=by
 obtain⟨o,ho,_⟩:=x.obj;exact aah ho
def UY(q1 q2:Bool)(K:aC)(l1 l2:Addr)(xs ys:List V):It :=
 ⟨λi H=>i < xs.length/\i < ys.length/\rk q1 K H l1 xs/\rk q2 K H l2 ys,
  λi H x H'=>∃T u v,H T=none/\x=.ref T/\H'=upd H T (.tup [u,v])/\xs[i]?=some u/\ys[i]?=some v,
  λi H=>(xs.length<=i∨ys.length<=i)/\rk q1 K H l1 xs/\rk q2 K H l2 ys⟩
theorem xX{P:Program}{w:World}{K:aC}{elts:List Expr}{kx}{pos:Pos}{q1 q2:Bool}{z TI TO i1 i2 l1 l2:Addr}(xs ys:List V)(D:ZipApart z TI TO i1 i2 l1 l2):
  Turn P w K (.Tuple elts kx pos) (UY q1 q2 K l1 l2 xs ys) [z,TI,TO,i1,i2] z (λi h=>IsZip h z TI TO .none/\IsPair h TI (.ref i1) (.ref i2)/\(∃a b,IsPair h TO a b)/\fi q1 h i1 l1 i/\fi q2 h i2 l2 i) where
 mem:=by simp
 obj:=λi h st b hb=>by
  obtain⟨hz,hTI,⟨a,b',hTO⟩,h1,h2⟩:=st;simp at hb;rcases hb with e | e | e | e | e
  ·subst e;exact⟨_,hz,λv z=>by cases z⟩
  ·subst e;exact⟨_,hTI,λv z=>by cases z⟩
  ·subst e;exact⟨_,hTO,λv z=>by cases z⟩
  ·subst e;exact h1.obj
  ·subst e;exact h2.obj
 keep:=λi h h' st k=>by
  obtain⟨hz,hTI,⟨a,b',hTO⟩,h1,h2⟩:=st;exact⟨k z (by simp) _ hz,k TI (by simp) _ hTI,⟨a,b',k TO (by simp) _ hTO⟩,h1.at λo e=>k i1 (by simp) o e,h2.at λo e=>k i2 (by simp) o e⟩
 item:=by
  intro X hP hw hK hc i pins s σ H E I hf st hg;subst hP hw hK;obtain⟨g1,g2,s1,s2⟩:=hg;obtain⟨hz,hTI,⟨a,b',hTO⟩,h1,h2⟩:=st;obtain⟨us,r1,p1⟩:=s1.heap I;obtain⟨vs,r2,p2⟩:=s2.heap I;obtain⟨u,hu,ru⟩:=r1.get (cW g1);obtain⟨v,hv,rv⟩:=r2.get (cW g2);refine CL (x:=u) (y:=v) D hz hTI hTO h1 h2 p1 p2 (by simpa using hu) (by simpa using hv) λh' a1 a2 a3 a4 a5 hk=>?_
  refine⟨_,rfl,wpAny_letOwnedTupleGo_zip a1 λh'' b1 sb=>?_⟩;have nT:∀{c o},s.heap.get? c=some o->c≠s.heap.objs.size:=λe=>aam (aah e)
  have hT:IsPair h'' s.heap.objs.size u v:=sb.extBut _ _ (nT hz).symm a5
  have kk:∀c o,c∉[z,TI,TO,i1,i2]->s.heap.get? c=some o->h''.get? c=some o:=λc o hc e=>by
   simp at hc;exact sb.extBut _ _ hc.1 (hk c o hc.1 hc.2.2.1 hc.2.2.2.1 hc.2.2.2.2 e)
  refine⟨.ref s.heap.objs.size,upd H s.heap.objs.size (.tup [xs[i],ys[i]]),I.Bv hf kk (aag _) ⟨by show 2<=sizeLine;decide,[u,v],.cons ru (.cons rv .nil),_,hT,rfl,_,rfl⟩,rfl,⟨_,_,_,I.fresh,rfl,rfl,cW g1,cW g2⟩,?_,λb hb=>?_⟩
  ·exact⟨b1,sb.extBut _ _ D.TIz (hk _ _ D.TIz D.TITO D.TIi1 D.TIi2 hTI),⟨_,_,sb.extBut _ _ D.TOz a2⟩,a3.at λo e=>sb.extBut _ o D.i1z e,a4.at λo e=>sb.extBut _ o D.i2z e⟩
  ·rw[uN ?_]
   ·exact(hf b hb).1
   ·simp at hb;rcases hb with e | e | e | e | e
    ·subst e;exact nT hz
    ·subst e;exact nT hTI
    ·subst e;exact nT hTO
    ·subst e;exact aam h1.lt
    ·subst e;exact aam h2.lt
 done:=by
  intro X hP hw hK hc i pins s σ H E I hf st hg;subst hP hw hK;obtain⟨g1,s1,s2⟩:=hg;obtain⟨hz,hTI,⟨a,b',hTO⟩,h1,h2⟩:=st;obtain⟨us,r1,p1⟩:=s1.heap I;obtain⟨vs,r2,p2⟩:=s2.heap I;have e1:=r1.length;have e2:=r2.length;refine EV (I.ok.hd hc) D hz hTI hTO h1 h2 p1 p2 ?_ λh' hk=>⟨rfl,I.Bw (t':=s.toks) hf λc o hc e=>?_⟩
  ·rcases g1 with g | g
   ·exact .inl (by simp;omega)
   ·exact .inr (by simp;omega)
  ·simp at hc;exact hk c o hc.1 hc.2.2.1 hc.2.2.2.1 hc.2.2.2.2 e
 self:=λ_ _ _ _ _ st h=>aco st.1 h
section
variable {X:Cx}
def VR(q1 q2:Bool)(K:aC)(ta:TA):TI:=λσ H R=>ta σ H λvs H1=>∃l1 l2 xs ys,vs=[.ref l1,.ref l2]/\rk q1 K H1 l1 xs/\rk q2 K H1 l2 ys/\R (UY q1 q2 K l1 l2 xs ys) H1
theorem OC(q1 q2:Bool){elts:List Expr}{kx}{tpos:Pos}{a b:Expr}{ta:TA}{p pos:Pos}(hg:Gl X "zip")(hm:X.mg "zip"=none)(ha:PA X [a,b] ta)(hs:starEach [a,b] X.env=[(false,eval a X.env),(false,eval b X.env)]:=by rfl)(zp:starEach [b] X.env=[(false,eval b X.env)]:=by rfl):
  PI X (.Tuple elts kx tpos) (.Call (.Name "zip" p) [a,b] [] pos) (VR q1 q2 X.K ta):=by
 intro pins s σ H R I h;refine Call_ (ju I hg hm EG (aaK (cU (ha pos pins s σ H _ I h) λus s1 ⟨vs,H1,I1,r1,q1⟩=>?_) (by rw[hs,zp]) (by rw[zp];rfl)));obtain⟨l1,l2,xs,ys,rfl,s1',s2',q⟩:=q1;obtain⟨u1,u2,rfl,JC,Sg⟩:=vals2 r1;cases JC;cases Sg;obtain⟨VS,r1,p1⟩:=s1'.heap I1;obtain⟨ZN,r2,p2⟩:=s2'.heap I1;have n1:=p1.lt;have n2:=p2.lt;refine uK p1 p2 λh' hz hTI hTO h1 h2 kk=>?_
 refine aco hz ?_;refine⟨s1.heap.objs.size + 4,[s1.heap.objs.size + 4,s1.heap.objs.size + 2,s1.heap.objs.size + 3,s1.heap.objs.size,s1.heap.objs.size + 1],_,_,H1,rfl,I1.kept (t':=s1.toks) kk,xX xs ys ⟨?_,?_,?_,?_,?_,?_,?_,?_,?_,?_,?_,?_,?_,?_,?_,?_,?_,?_⟩,⟨hz,hTI,⟨_,_,hTO⟩,h1,h2⟩,?_,q⟩
 all_goals first | exact aam (abz (by decide) _) | exact aaZ (abz (by decide) _) | exact aam (abf (by decide)) | exact aaZ (abf (by decide)) | exact aam (aal n1 (abR _ _)) | exact aam (aal n2 (abR _ _)) | exact aam n1 | exact aam n2 | skip
 intro c hb
 have hb':s1.heap.objs.size<=c:=by
  simp at hb;rcases hb with e | e | e | e | e<;>(rw[e];first | exact Nat.le_refl _ | exact Nat.le_add_right _ _)
 exact I1.Cu hb' (I1.hok.fresh hb')
end
theorem OD{own:Nat}{ix:List Nat}{σ:St}{q1 q2:Bool}{K:aC}{l1 l2:Addr}{xs ys:List V}{g:TG}{tt:TT}{te:TE}{H1:Hp}{Q:VK}{D:Addr}(n:Nat)(Pv:Nat->List V->Hp->Prop)(hn:n<=sizeLine)(hx:n<=xs.length)(hy:n<=ys.length)(he:xs.length<=n∨ys.length<=n)
  (h0:Pv 0 [] (upd H1 D (.lst []))) (hD:∀i zs H,i<=n->Pv i zs H->H D=some (.lst zs)/\zs.length<=i/\rk q1 K H l1 xs/\rk q2 K H l2 ys)
  (hs:∀i u v zs H2 T,xs[i]?=some u->ys[i]?=some v->i < n->Pv i zs H2->H2 T=none->g (.ref T) (eR own ix σ) (upd H2 T (.tup [u,v])) λσ2 H4=>σ2.drop own=(ix.map λi=>(σ[i]?).getD none)/\tt σ2 H4 λb H5=>if b=true then te σ2 H5 λv H6=>H6 D=some (.lst zs)/\Pv (i + 1) (zs++[v]) (upd H6 D (.lst (zs++[v])))else Pv (i + 1) zs H5)
  (hd:∀zs H2,Pv n zs H2->Q (.ref D) H2) :
  VG (UY q1 q2 K l1 l2 xs ys) own ix σ g tt te D H1 Q:=by
 refine⟨λi m zs H=>m=n - i/\i<=n/\Pv i zs H,⟨n,by simp,Nat.zero_le _,h0⟩,?_⟩;rintro i m zs H2 ⟨rfl,hi,p⟩;obtain⟨p1,p2,p3,p4⟩:=hD i zs H2 hi p;refine⟨p1,?_⟩;by_cases hlt:i < n
 ·refine .inr ⟨⟨by omega,by omega,p3,p4⟩,by omega,Pv (i + 1),λys' H' p'=>⟨n - (i + 1),by omega,rfl,hlt,p'⟩,λx H3 y=>?_⟩;obtain⟨T,u,v,t1,e1,e2,t2,t3⟩:=y;subst e1 e2;exact hs i u v zs _ T t2 t3 hlt p t1
 ·have e:i=n:=by omega
  subst e;exact .inl ⟨⟨he,p3,p4⟩,hd zs H2 p⟩
theorem jA{H:Hp}{p:Addr}(h:H p=none)(o:HO):aK H (upd H p o):=λb u q=>by rw[uN (nN q h)];exact q
section
variable {prog:Program} {w:World} {A:Around} {E:Value->Shared->Prop} {s:Shared}
theorem CM{t sl:Addr}{items:Array Value}{vl vu:Value}{lo hi:Option Int}{Q:Value->Shared->Prop}(ht:IsTup s.heap t items)(hs:s.heap.IsSliceOf sl vl vu .none)(pl:IsPart vl lo)(pu:IsPart vu hi)
  (hw:HT.eh items.size 0 lo=0/\HT.eh items.size items.size hi=items.size) (h:Q (.ref t) s):wpAny (model prog w) A (getItem (.ref t) (.ref sl)) Q E s:=by
 obtain⟨os,hos,hcs,hds⟩:=id hs;have hTs:s.TypeIs (.ref sl) "slice":=⟨os,hos,hcs⟩;unfold getItem
 try with_reducible refine abx ?_
 first | refine aae (aar ?_) | skip
 refine wpAny_bind (wpAny_sequenceKey ht.typeIs (by decide) ?_);refine wpAny_bind (wpAny_callSpecial?_slot (name:=Str.ofString "__getitem__") ht.typeIs PyProof.Rows.slot_tuple_getitem (wpAny_call_entry PyProof.Rows.slot_tuple_getitem ht.typeIs entry_tuple_getitem ?_ (args_tuple_getitem _ _)));show wpAny _ _ (Builtin.Tuple.tupleItemsOf (.ref t) >>= _) _ _ s;refine wpAny_bind (tupleItemsOf_ ht (wpAny_bind (wpAny_typeOf hTs ?_)));rw[if_pos (by decide)];refine wpAny_bind (HT.i9 hs pl pu ?_);show wpAny _ _ (if (((HT.eh items.size 0 lo:Nat):Int) == 0&&(1:Int) == 1&&(HT.eh items.size items.size hi - HT.eh items.size 0 lo) == items.size)=true then _ else _) _ _ s;rw[if_pos (by rw[hw.1,hw.2];simp)];unfold Builtin.Tuple.tupleIsExact;refine wpAny_bind (wpAny_bind (wpAny_typeOf ht.typeIs (wpAny_pure ?_)));rw[if_pos (by decide)];exact wpAny_bind (wpAny_rule (wpAny_pure ⟨_,rfl,wpAny_pure h⟩))
end
section
variable {X:Cx}
def Sn(K:aC):V->Option Int->Option Int->Hp->VK->Prop:=λx lo hi H Q=>∃a xs,x=.ref a/\bz K H a xs/\∀p H',aK H H'->bz K H' p (jz xs lo hi)->Q (.ref p) H'
theorem jB:ID X (Sn X.K):=by
 intro pins s σ H x v vl vu lo hi sl Q I rx hs pl pu h;obtain⟨a,xs,rfl,hx,q⟩:=h;by_cases hw:HT.eh xs.length 0 lo=0/\HT.eh xs.length xs.length hi=xs.length
 ·cases rx;obtain⟨its,r,ht,hz⟩:=I.tuple hx;have hlen:its.toArray.size=xs.length:=by rw[aaL];exact r.length.symm
  refine⟨"tuple",_,PyProof.Rows.slot_tuple_getitem.lookup,ht.typeIs,CM ht hs pl pu (by rw[hlen];exact hw) ⟨.ref a,H,I,rfl,q a H (aK.refl _) ?_⟩⟩;have e:jz xs lo hi=xs:=by unfold jz;rw[hw.1,hw.2];simp
  rw[e];exact hx
 ·exact Og pins s σ H _ v vl vu lo hi sl Q I rx hs pl pu ⟨a,xs,rfl,hx,hw,λp hp=>q p _ (jA hp _) (bz.of uS)⟩
def MK(K:aC):R2:=λx y H Q=>∃a b xs ys,x=.ref a/\y=.ref b/\bz K H a xs/\bz K H b ys/\xs.length + ys.length<=sizeLine/\∀p H',aK H H'->bz K H' p (xs++ys)->Q (.ref p) H'
theorem mm:i7 X (binaryOp .Add) (MK X.K):=by
 intro pins s σ H x y v u Q I rx ry h;obtain⟨a,b,xs,ys,rfl,rfl,ha,hb,hz,q⟩:=h;by_cases hx:xs=[]
 ·subst hx;cases rx;cases ry;obtain⟨its,r1,p1,_⟩:=I.tuple ha;obtain⟨vL,r2,p2,_⟩:=I.tuple hb;cases r1;obtain⟨⟨c1,d1,e1,Bs⟩,ho,hc,n,hd⟩:=id p1;obtain⟨⟨c2,d2,e2,Od⟩,D9,Oe,n2,hd2⟩:=id p2;simp only at hc hd Oe hd2;subst hc hd Oe hd2;exact concat_meets ⟨_,ho,rfl⟩ ⟨_,D9,rfl⟩ noFill_tuple_add seq_tuple_add PySem.F.slot_tuple_add PySem.F.entry_tuple_add (PySem.F.args_tuple_add_2 _ _)
   (tuple_addW0 a b _ vL.toArray n n2 d1 d2 Bs Od (by simp)) ⟨ho,D9,⟨.ref b,H,I,rfl,q b H (aK.refl _) hb⟩⟩
 ·exact Jm pins s σ H _ _ v u Q I rx ry ⟨a,b,xs,ys,rfl,rfl,ha,hb,hx,hz,λe=>q a H (aK.refl _) (by rw[e,aaM];exact ha),λ_ p hp=>q p _ (jA hp _) (bz.of uS)⟩
end
structure Ea(P:Program)(w:World)(fs:List Env)(H H':Hp)(h0 B:Heap)(a:Addr)(cls a0:Value)(h:Heap):Prop where
 keep:∀b o,h0.get? b=some o->H b=none->b∉p9 fs->B.get? b=some o
 there:∀b o,h0.get? b=some o->b∉p9 fs->∃o',B.get? b=some o'
 slot:∀b o,h0.get? b=some o->b∈p9 fs->∃sl,h.get? b=some {o with slots:=sl}
 free:∀b o,h0.get? b=some o->H b=none->H' b=none
 tups:∀b xs,H b=some (.tup xs)->H' b=some (.tup xs)
 eM:∀b o u,H b=some (.mL o u)->H' b=some (.mL o u)
 tbls:∀b ps,H b=some (.tbl ps)->∃more,H' b=some (.tbl (ps++more))
 hok:nJ P w H' B
 fly:Heap.FlyingW B fs a cls a0 h
section
variable {P:Program} {w:World} {fs:List Env} {H H':Hp} {h0 B h h':Heap} {a:Addr} {cls a0:Value}
theorem Ea.un(F:Ea P w fs H H' h0 B a cls a0 h):Un (p9 fs) [] H H' h0 h where
 keep:=λb o e n hb _=>F.fly.1 b o (F.keep b o e n hb)
 slot:=λb o e _ hb _=>F.slot b o e hb
 free:=λb o e n _=>F.free b o e n
 there:=λb o e _=>by
  by_cases hb:b∈p9 fs
  ·obtain⟨sl,q⟩:=F.slot b o e hb;exact⟨_,q⟩
  ·obtain⟨o',q⟩:=F.there b o e hb;exact⟨o',F.fly.1 b o' q⟩
 tups:=F.tups
 eM:=F.eM
 tbls:=F.tbls
theorem Ea.VT(F:Ea P w fs H H' h0 B a cls a0 h):nJ P w H' h:=F.hok.kept F.fly.1
theorem Ea.new(F:Ea P w fs H H' h0 B a cls a0 h):H' a=none:=by
 cases q:H' a with
 | none=>rfl
 | some u =>
  have:=(F.hok a u q).lt;have z:=F.fly.2.1
  exact absurd z (by
   intro z
   have e:∃o,B.get? a=some o:=by
    have ok:=F.hok a u q
    cases u with
    | lst xs=>obtain⟨_,_,_,_,e⟩:=ok;exact⟨_,e⟩
    | tup xs=>obtain⟨_,_,_,o,e,_⟩:=ok;exact⟨_,e⟩
    | dK kvs=>obtain⟨_,_,_,_,o,_,_,e,_⟩:=ok;exact⟨_,e⟩
    | dT kvs=>obtain⟨_,_,_,_,o,_,_,e,_⟩:=ok;exact⟨_,e⟩
    | set S n=>obtain⟨o,_,_,_,e,_⟩:=ok;exact⟨_,e⟩
    | ins C dx fs=>obtain⟨_,_,_,e,_⟩:=ok;exact⟨_,e⟩
    | own y=>exact ok
    | xd fs=>obtain⟨_,⟨o,_,_,e,_⟩,_⟩:=ok;exact⟨_,e⟩
    | rng lo hi=>obtain⟨_,_,_,e⟩:=ok;exact⟨_,e⟩
    | mL ob u=>obtain⟨e,_⟩:=ok;exact⟨_,e⟩
    | tbl ps=>exact⟨_,ok⟩
    | met f y=>exact⟨_,ok⟩
    | ext φ=>obtain⟨_,e,_⟩:=ok;exact e
   obtain⟨o,e⟩:=e;rw[z]at e;cases e)
theorem Ea.on(F:Ea P w fs H H' h0 B a cls a0 h)(fl:Heap.FlyingW B fs a cls a0 h')(u:h.UpToSlots h'):Ea P w fs H H' h0 B a cls a0 h' :=
 ⟨F.keep,F.there,λb o e hb=>by
  obtain⟨sl,q⟩:=F.slot b o e hb;obtain⟨_,o',ho',hn⟩:=F.fly.2.2.1.mem hb;rw[q]at ho';have e1:=aax ho';obtain⟨sl',q'⟩:=u b _ q (by rw[e1];exact hn);exact⟨sl',q'⟩,F.free,F.tups,F.eM,F.tbls,F.hok,fl⟩
end
section
variable {P:Program} {w:World} {K:aC} {mg:Str->Option Value} {base:Heap} {N:List Str} {qual:Str} {scope:Scope} {f:Addr} {cd:Value} {A:Around} {outer:List Env} {s₀:Shared} {H₀:Hp} {E:XK}
theorem c7{env:Env}{l:List Env}{L b:Addr}(hf:env.frame=some L):b∈p9 (env::l)↔b=L∨b∈p9 l:=by
 unfold p9;rw[List.filterMap_cons,hf];exact List.mem_cons
end
def EW:Bool->List Value
 | true=>[.type "ValueError",.type "Exception",.type "BaseException",.type "object"]
 | false=>[.type "Exception",.type "BaseException",.type "object"]
def X7:Bool->String
 | true=>"ValueError"
 | false=>"Exception"
def OE:Bool->String
 | true=>"ValueError.__new__"
 | false=>"Exception.__new__"
def ZO:Bool->String
 | true=>"ValueError.__init__"
 | false=>"Exception.__init__"
theorem X8:∀b,PySem.ExcBaseFacts (X7 b) (OE b) (ZO b) (EW b)
 | true=>F.excBase_ValueError
 | false=>F.excBase_Exception
theorem JH(b:Bool):(EW b).contains (.type (X7 b))=true:=by cases b<;>decide
theorem EX(b:Bool):(EW b).contains (.type "BaseException")=true:=by cases b<;>decide
section
variable {X:Cx} {x:Str} {C:Addr} {E:XK} {np cpos pos:Pos}
end
def ExcAt(C a:Addr):Heap->Prop:=λh=>∃o vs,h.get? a=some o/\o.cls=.ref C/\o.data=.fields vs
theorem excMatches_K{K:aC}{M:Model}{A:Around}{E:Value->Shared->Prop}{h:Heap}{g:Array GenState}{d:Drawn}{t:Nat}{os:OsState}{a C CW:Addr}{oe:Obj}{Q:Bool->Shared->Prop}(X:K.In h)(he:h.get? a=some oe)(hcls:oe.cls=.ref C)
  (q:PySem.W.ktsIn K CW "BaseException"=true) (m:PySem.W.mroIn K C (.ref CW)=some true) (hq:Q true ⟨h,g,d,t,os⟩):wpAny M A (excMatches (.ref a) (.ref CW)) Q E ⟨h,g,d,t,os⟩:=by
 obtain⟨nm,qn,N,bs,bm,hdct,sn,sub,ab,col,dd,k0,k1,k2,k3,k5,newId,hC,hbase,_⟩:=PySem.W.kts_cls X q;have hcB:(Value.ref CW::bm).contains (.type "BaseException")=true:=by rw[List.contains_cons,hbase,Bool.or_true]
 have f:=tc_notTuple;have L:=PySem.W.looks_mroIn (M:=M) X m;unfold excMatches
 repeat (first | (with_reducible refine aaA he ?_;rw[hcls]) | with_reducible refine aaA hC ?_ | (with_reducible refine ab1 hC ?_;rw[hcB]) | with_reducible refine L.at ?_ | wp_step)
 exact hq
abbrev Cx.hand(X:Cx)(a:Addr)(E:Value->Shared->Prop):Cx:={X with A:=X.A.mark (some (.ref a)),calm:=false,xe:=E}
section
variable {X:Cx} {pins:List (Addr×Obj)} {σ:St} {H:Hp} {s:Shared}
theorem Inv.hand(I:Inv X pins σ H s)(a:Addr)(E:Value->Shared->Prop):Inv (X.hand a E) pins σ H s :=
 ⟨⟨I.ok.mod,I.ok.kind,I.ok.glob,I.ok.blt,I.ok.above,I.ok.inj,I.ok.has,I.ok.cab,(λz=>nomatch (show false=true from z)),I.ok.frames,I.ok.stk,I.ok.exf,I.ok.bs,I.ok.bsz,I.ok.noex,I.ok.exfs,I.ok.oZ,I.ok.frf⟩,I.os,I.bare,I.base,I.loc,I.cell,I.free,I.freeC,I.pin,I.hok,I.len⟩
theorem Inv.vU{a:Addr}{E:Value->Shared->Prop}(ok:X.Ok)(I:Inv (X.hand a E) pins σ H s):Inv X pins σ H s:=⟨ok,I.os,I.bare,I.base,I.loc,I.cell,I.free,I.freeC,I.pin,I.hok,I.len⟩
theorem Inv.adopt{a:Addr}{φ:Heap->Prop}(I:Inv X pins σ H s)(hn:H a=none)(h1:X.s₀.heap.get? a=none)(hL:a≠X.env.locals)(hfs:a∉X.fs)(hc:∀x c,X.env.cells.lookup x=some c->c≠a)(hp:∀p∈X.pn++pins,p.1≠a)
  (ok:φ s.heap/\(∃o,s.heap.get? a=some o)/\∀u v:Heap,φ u->(∀o,u.get? a=some o->v.get? a=some o)->φ v):Inv X pins σ (upd H a (.ext φ)) s:=by
 refine⟨I.ok,I.os,I.bare,⟨I.base.keep,I.base.slot,λb o e n hx=>?_,I.base.there,λb xs e=>?_,λb o u e=>?_,λb ps e=>?_⟩,I.loc,I.cell,?_,λx c e=>?_,λp hq=>?_,λb u e=>?_,I.len⟩
 ·rw[uN (λz=>by rw[z,h1]at e;cases e)];exact I.base.free b o e n hx
 ·have e':=I.base.tups b xs e;rw[uN (nN e' hn)];exact e'
 ·have e':=I.base.eM b o u e;rw[uN (nN e' hn)];exact e'
 ·obtain⟨m,e'⟩:=I.base.tbls b ps e;exact⟨m,by rw[uN (nN e' hn)];exact e'⟩
 ·rw[uN (ab3 hL)];exact I.free
 ·rw[uN (hc x c e)];exact I.freeC x c e
 ·obtain⟨q1,q2,q3⟩:=I.pin p hq;exact⟨q1,by rw[uN (hp p hq)];exact q2,q3⟩
 ·by_cases hb:b=a
  ·subst hb;rw[uS]at e;cases e;exact ok
  ·rw[uN hb]at e;exact(I.hok b u e).tQ (λ_ _ _ q=>q) (λc q=>by rw[uN (nN q hn)];exact q) λc xs q=>by rw[uN (nN q hn)];exact q
theorem Bx{M:Model}{A:Around}{E:Value->Shared->Prop}{i:Nat}{n:Str}{pos:Pos}{Q:Unit->Shared->Prop}(I:Inv X pins σ H s)(hN:X.N.Nodup)(hi:X.N[i]?=some n)(hk:X.env.kindOf n=some .local)
  (h:∀s',Inv X pins (σ.set i none) H s'->Q () s'):wpAny M A (do bindName X.env n .none;unbindBehindTheSuite X.env n pos) Q E s:=by
 obtain⟨m,hn,hl⟩:=id I.loc;have hcls:(X.env.scope.kind == .class||(X.env.scope.kind == .module&&X.env.locals != X.env.globals))=false:=by rw[I.ok.kind];rfl
 have hiσ:i < σ.length:=by rw[I.len];exact(bX hi).1
 obtain⟨oL,_,_,hoL,_⟩:=id hn;refine wpAny_nameGoes_keeps hk hn hcls λh' v hn' hs=>?_
 refine h _ ⟨I.ok,I.os,I.bare,⟨λb o e n hb hx=>?_,λb o e n hb hx=>?_,I.base.free,λb o e hx=>?_,I.base.tups,I.base.eM,I.base.tbls⟩,⟨_,hn',λj y v' e1 e2 e3=>?_⟩,λy c e=>?_,I.free,I.freeC,λp hp=>?_,λb ob e=>?_,by simpa using I.len⟩
 ·exact(hs.2 b (aam (aal (aah e) I.ok.above))).trans (I.base.keep b o e n hb hx)
 ·obtain⟨sl,e1⟩:=I.base.slot b o e n hb hx;exact⟨sl,(hs.2 b (aam (aal (aah e) I.ok.above))).trans e1⟩
 ·obtain⟨o',e1⟩:=I.base.there b o e hx;exact⟨o',(hs.2 b (aam (aal (aah e) I.ok.above))).trans e1⟩
 ·by_cases hj:j=i
  ·subst hj;rw[aao hiσ]at e2;cases e2
  ·rw[aat (ab3 hj)]at e2;obtain⟨u',r',q⟩:=hl j y v' e1 e2 e3;refine⟨u',r',?_⟩;rcases q with⟨k,e⟩ | ⟨k,c,e,z⟩
   ·refine .inl ⟨k,?_⟩;have:y≠n:=λe=>hj (rD hN e1 (e ▸ hi))
    simp[this,e]
   ·exact .inr ⟨k,c,e,z.sameBut hs (I.Jd y c e)⟩
 ·obtain⟨w',z⟩:=I.cell y c e;exact⟨w',z.sameBut hs (I.Jd y c e)⟩
 ·obtain⟨e,n,ne,nf,d⟩:=I.pin p hp;exact⟨(hs.2 p.1 ne).trans e,n,ne,nf,d⟩
 ·refine(I.hok b ob e).tQ (λc w' hc q=>(hs.2 c ?_).trans q) (λ_ q=>q) λ_ _ q=>q
  rintro rfl;rcases hc with rfl | hc
  ·rw[I.free]at e;cases e
  ·rw[I.free]at hc;cases hc
end
section
variable {X:Cx} {CW:Addr} {cx n:Str} {i:Nat} {b₀:Stmt} {suite:List Stmt} {np hpos pos:Pos} {tb:TS}
end
open PySem PySem.Spec PyProof.Rows PySem.W Builtin.Getset_descriptor
structure KX(K:Frag)(C:Addr):Prop where
 ga:findIn K (.ref C) "__getattribute__"=some (some (.builtin "BaseException.__getattribute__"))
 gh:findIn K (.ref C) "__getattr__"=some none
 cl:findIn K (.ref C) "__class__"=some (some (.builtin "object.__class__"))
 mb:mroIn K C (.type "BaseException")=some true
 mo:mroIn K C (.type "object")=some true
section
variable {prog:Program} {w:World} {A:Around} {E:Value->Shared->Prop} {K:Frag} {a C:Addr} {o:Obj} {h:Heap} {g:Array GenState} {d:Drawn} {t:Nat} {os:OsState}
theorem EY{R:Result->Shared->Prop}(X:K.In h)(k:KX K C)(hx:h.get? a=some o)(hc:o.cls=.ref C)(hq:R (.ok (.ret (.ref C))) ⟨h,g,d,t,os⟩):
  codeAny (model prog w) A (.call (.builtin "getset_descriptor.__get__") ⟨[.builtin "object.__class__",.ref a,.ref C],[]⟩) R ⟨h,g,d,t,os⟩:=by
 have L0:Looks (model prog w) h (typeOf (.ref a)) (.ref C):=hc ▸ (Looks.ld hx).andThen .now;have L1:=looks_mroIn (M:=model prog w) X k.mo;refine codeAny_call_builtin KF.slot_gs.plain KF.entry_gs (KF.slot_gs.check _ _ _ _ _ _ _ _ KF.type_class (KF.args_gs _ _ _) ?_);unfold Builtin.«getset_descriptor.__get__» descrGet;rw[dga_obj];refine wpAny_bind (wpAny_pure ?_);unfold descrGetter descrCheckInstance descrNameAndClass isInstance;simp only[KF.owner_class]
 repeat lk
 refine⟨Code.quiet_builtin _ (by decide +kernel),codeAny_builtin KF.entry_class ?_⟩;unfold Builtin.«object.__class__» shownTypeOf
 repeat lk
 exact hq
theorem EZ{tk:Tok}{Q:Fin->Shared->Prop}(X:K.In h)(k:KX K C)(hx:h.get? a=some o)(hc:o.cls=.ref C)(hq:Q (.done (.ret (.ref C))) ⟨h,g,d,t,os⟩):
  wpAny (model prog w) A (Builtin.«object.__getattribute__» ⟨[.ref a,.str "__class__" tk],[]⟩) Q E ⟨h,g,d,t,os⟩:=by
 have L0:Looks (model prog w) h (typeOf (.ref a)) (.ref C):=hc ▸ (Looks.ld hx).andThen .now;have L1:=abr (M:=model prog w) X k.cl;have hT5:(⟨h,g,d,t,os⟩:Shared).TypeIs (.builtin "object.__class__") "getset_descriptor":=F.typeOf_object_class;have f5:=F.typeOf_object_class;have f6:=F.slot_gs_get.lookup;have f7:=F.slot_gs_set.lookup
 repeat (any_goals (first | assumption | with_reducible refine L1.at ?_ | (with_reducible refine aaA hx ?_;rw[hc]) | wp_step))
 refine EY X k hx hc ?_
 repeat (any_goals (first | assumption | wp_step))
theorem xY{M:Model}{nameV:Value}{Q:Unit->Shared->Prop}(X:K.In h)(k:KX K C)(hx:h.get? a=some o)(hc:o.cls=.ref C)(hq:Q () ⟨h,g,d,t,os⟩):wpAny M A (checkBuiltinCall "BaseException.__getattribute__" ⟨[.ref a,nameV],[]⟩) Q E ⟨h,g,d,t,os⟩:=by
 have L1:=looks_mroIn (M:=M) X k.mb;have hk:builtinKind "BaseException.__getattribute__"=some .slot:=by decide +kernel
 have hsplit:splitId "BaseException.__getattribute__"=some ("BaseException","__getattribute__"):=by decide +kernel
 have ha:=F.args_bexc_ga (.ref a) nameV;simp only[checkBuiltinCall,hk,hsplit];refine wpAny_bind ?_;unfold isInstance
 repeat (first | (with_reducible refine aaA hx ?_;rw[hc]) | with_reducible refine L1.at ?_ | wp_step)
 exact hq
theorem JI{tk:Tok}{Q:Value->Shared->Prop}(X:K.In h)(k:KX K C)(hx:h.get? a=some o)(hc:o.cls=.ref C)(hq:Q (.ref C) ⟨h,g,d,t,os⟩):
  wpAny (model prog w) A (getAttrBy (.ref a) (.str "__class__" tk) false false) Q E ⟨h,g,d,t,os⟩:=by
 have L1:=abr (M:=model prog w) X k.ga;have L2:=abr (M:=model prog w) X k.gh;have f3:=abv.ga.bind (.ref a);have VU:(false&&onTheHeap (Value.builtin "BaseException.__getattribute__"))=false:=rfl;have VV:(Value.builtin "BaseException.__getattribute__" == Value.builtin "object.__getattribute__")=false:=by decide +kernel
 have ZP:(onTheHeap (Value.ref C)&&Value.builtin "BaseException.__getattribute__" == Value.builtin "object.__getattribute__")=false:=by rw[VV];rfl
 repeat (any_goals (first | assumption | (with_reducible refine aaA hx ?_;rw[hc]) | with_reducible refine L1.at ?_ | with_reducible refine L2.at ?_ | wp_step))
 refine abX abv.ga.plain F.entry_bexc_ga (xY X k hx hc (EZ X k hx hc ?_))
 repeat (any_goals (first | assumption | wp_step))
theorem CN{Q:Option Value->Shared->Prop}(X:K.In h)(k:KX K C)(hx:h.get? a=some o)(hc:o.cls=.ref C)(hq:Q (some (.ref C)) ⟨h,g,d,t + 1,os⟩):wpAny (model prog w) A (getAttr? (.ref a) "__class__") Q E ⟨h,g,d,t,os⟩:=by
 unfold getAttr? getAttrBy?
 repeat (any_goals (first | assumption | with_reducible apply JI X k hx hc | wp_step))
end
theorem E8{K:Frag}{a C:Addr}{cd:ClassData}(k:KX K C)(hC:clsIn K C=some cd):KitX K (.ref a) (.ref C) (ExcAt C a) where
 ty:=λ_ _ _ ⟨o,_,h1,h2,_⟩=>h2 ▸ (Looks.ld h1).andThen .now
 it:=λ_ _ X _=>by
  unfold clsIn at hC;split at hC
  ·rename_i c' d' cd' sl' ho;intro A' Q' E' s' kk q;unfold isType loadHead;exact wpAny_bind (wpAny_loadPart (kk _ _ (X _ _ ho)) (wpAny_pure q))
  ·cases hC
 ne:=λh tp dd its n sl X e=>by
  refine acb.mpr λq=>?_
  have z:=beq_iff_eq.mp q;cases z;unfold clsIn at hC;split at hC
  ·rename_i c' d' cd' sl' ho;have:=X _ _ ho;rw[e]at this;cases this
  ·cases hC
 ca:=λ{_ _ _ _ _ s} X p q=>by
  obtain⟨o,vs,h1,h2,_⟩:=p;obtain⟨h,g,d,t,os⟩:=s;exact CN X k h1 h2 q
section
variable {X:Cx}
end
def E9(_i j:Int):Prop:=j≠0/\j.natAbs < 18446744073709551616
theorem E9.ok{i j:Int}(hc:E9 i j):Builtin.divisionGoesByPylong i j=false:=by
 refine PyProof.noPylong_of_log2 ?_;have z:j.natAbs≠0:=λz=>hc.1 (Int.natAbs_eq_zero.mp z)
 exact aal ((Nat.log2_lt z).mpr (show j.natAbs < 2 ^ 64 from hc.2)) (by decide)
def jb(σ:List Str)(v:Str):List Str:=if σ.any (· == v)then σ else σ++[v]
def OG(val:Nat->Str)(i:Nat):List Str:=((List.range i).map val).foldl jb []
section
variable {prog:Program} {w:World} {A:Around} {R:Result->Shared->Prop} {I:Addr} {fp wr:List Addr} {G:Array GenState->Array GenState->Prop} {n:Nat} {P:Nat->Value->Prop} {St:Nat->Shared->Prop}
end
section
variable {prog:Program} {w:World} {A:Around} {E:Value->Shared->Prop} {s:Shared}
set_option maxHeartbeats 3200000 in
end
section
variable {X:Cx}
end
theorem rQ:∀l:List (Str×Tok),Vals ((l.map (·.1)).map V.str) (strValues l)
 | []=>.nil
 | (x,t)::r=>.cons ⟨t,rfl⟩ (rQ r)
section
variable {X:Cx}
def OH:V->List V->Hp->VK->Prop:=λv vs H Q=>∃x y:Str,v=.str x/\vs=[.str y]/\(y.length == 0)=false/\x.length<=sizeLine/\(Builtin.Str.partsBetween x (Builtin.Str.occurrences x y 0 x.length (x.length + 1)) y.length).length<=sizeLine/\(Txt.split x y).length<=sizeLine /\
 ∀p,H p=none->Q (.ref p) (upd H p (.lst ((Txt.split x y).map V.str)))
theorem Fc:X1 X "str.split" OH:=by
 intro pins s σ H v vs u us Q I rx rv h;obtain⟨x,y,rfl,rfl,hy,hx,hp,hl,q⟩:=h;obtain⟨t,rfl⟩:=rx;obtain⟨u,rfl,k,rfl⟩:=vals1 rv
 have fin:∀(l:List (Str×Tok)) (tk:Nat),l.map (·.1)=Txt.split x y->EP X pins σ Q (.ref s.heap.objs.size) {s with toks:=tk,heap:=s.heap.push {cls:=.type "list",data:=.seq (strValues l).toArray}}:=λl tk e=>by
  refine⟨.ref s.heap.objs.size,_,I.laid (t':=tk) (λb o e=>aaa _ e) (aag _) (show dU X.prog X.w _ _ _ (.lst ((Txt.split x y).map V.str))from ⟨by rw[aac];exact hl,strValues l,_,by rw[← e];exact rQ l,aas _ rfl⟩),rfl,q _ (I.hok.fresh (aag _))⟩
 cases h1:(decide (x.length < y.length)||decide (Builtin.Str.strKind x < Builtin.Str.strKind y))
 ·cases hf:(Builtin.Str.occurrences x y 0 x.length (x.length + 1)).isEmpty
  ·refine abc abm (abW _ _ _) abI (abE _ _) (meets_str_split_sep x y t k h1 hy hf hx hp) ?_;show wants (EP X pins σ Q) X.xe _ {s with toks:=_,heap:=s.heap.push {cls:=.type "list",data:=.seq (strsFrom s.toks (Builtin.Str.partsBetween x (Builtin.Str.occurrences x y 0 x.length (x.length + 1)) y.length)).toArray}};rw[strsFrom_eq];exact fin (numbered s.toks _) _ ((numbered_texts _ _).trans ((aak (ab2 h1)).trans (aak (ab2 hf))).symm)
  ·exact abc abm (abW _ _ _) abI (abE _ _) (meets_str_split_not_found x y t k h1 hy hf)
    (fin [(x,t)] _ ((aak (ab2 h1)).trans (aan hf)).symm)
 ·exact abc abm (abW _ _ _) abI (abE _ _) (meets_str_split_cannot_occur x y t k h1)
   (fin [(x,t)] _ (aan h1).symm)
end
def X9(K:aC)(l:Addr)(xs:List V):It :=
 ⟨λi H=>i < xs.length/\cG K H l xs,
  λi H x H'=>∃T v,H T=none/\x=.ref T/\H'=upd H T (.tup [.int (i:Int),v])/\xs[i]?=some v,
  λi H=>xs.length<=i/\cG K H l xs⟩
theorem CO{P:Program}{w:World}{K:aC}{elts:List Expr}{kx}{pos:Pos}{e it l:Addr}(xs:List V)(hne:e≠it):
  Turn P w K (.Tuple elts kx pos) (X9 K l xs) [e,it] e (λi h=>(∃old,IsEnum h e it i old)/\h.IsListIter it l i) where
 mem:=by simp
 obj:=λi h st b hb=>by
  obtain⟨⟨old,he⟩,h1⟩:=st;simp at hb;rcases hb with z | z
  ·subst z;exact⟨_,he,λv z=>by cases z⟩
  ·subst z;exact(show fi true h b l i from h1).obj
 keep:=λi h h' st k=>by
  obtain⟨⟨old,he⟩,h1⟩:=st;exact⟨⟨old,k e (by simp) _ he⟩,(show fi true h it l i from h1).at λo x=>k it (by simp) o x⟩
 item:=by
  intro X hP hw hK hc i pins s σ H E I hf st hg;subst hP hw hK;obtain⟨g1,s1⟩:=hg;obtain⟨⟨old,he⟩,h1⟩:=st;obtain⟨us,r1,p1,hz⟩:=I.list s1;obtain⟨u,hu,ru⟩:=r1.get (cW g1);refine wpAny_pyNext_enum_item (x:=u) he h1 p1.isList (by simpa using hu) hne λh' a1 a2 a3 a4 hk=>?_
  refine⟨_,rfl,wpAny_letOwnedTupleGo_enum a1 λh'' b1 sb=>?_⟩;have nT:∀{c o},s.heap.get? c=some o->c≠s.heap.objs.size:=λe=>aam (aah e)
  have hT:=sb.extBut _ _ (nT he).symm a3
  have kk:∀c o,c∉[e,it]->s.heap.get? c=some o->h''.get? c=some o:=λc o hc x=>by
   simp at hc;exact sb.extBut _ _ hc.1 (hk c o hc.1 hc.2 x)
  refine⟨.ref s.heap.objs.size,upd H s.heap.objs.size (.tup [.int (i:Int),xs[i]]),I.Bv hf kk (aag _) ⟨by show 2<=sizeLine;decide,[.int i s.toks,u],.cons ⟨_,rfl⟩ (.cons ru .nil),_,hT,rfl,_,rfl⟩,rfl,⟨_,_,I.fresh,rfl,rfl,cW g1⟩,?_,λb hb=>?_⟩
  ·exact⟨⟨_,b1⟩,(show fi true h' it l (i + 1)from a2).at λo x=>sb.extBut _ o hne.symm x⟩
  ·rw[uN ?_]
   ·exact(hf b hb).1
   ·simp at hb;rcases hb with z | z
    ·subst z;exact nT he
    ·subst z;exact aam (show fi true s.heap b l i from h1).lt
 done:=by
  intro X hP hw hK hc i pins s σ H E I hf st hg;subst hP hw hK;obtain⟨g1,s1⟩:=hg;obtain⟨⟨old,he⟩,h1⟩:=st;obtain⟨us,r1,p1,hz⟩:=I.list s1;have e1:=r1.length;refine wpAny_pyNext_enum_end (I.ok.hd hc) he h1 p1.isList (by simp;omega) λh' hk=>⟨rfl,I.Bw (t':=s.toks) hf λc o hc x=>?_⟩
  simp at hc;exact hk c o hc.2 x
 self:=λ_ _ _ _ _ st h=>by
  obtain⟨⟨old,he⟩,_⟩:=st;exact wpAny_pyIter_enum he h
section
variable {X:Cx}
def So(K:aC)(ta:TA):TI:=λσ H R=>ta σ H λvs H1=>∃l xs,vs=[.ref l]/\cG K H1 l xs/\R (X9 K l xs) H1
theorem JJ{elts:List Expr}{kx}{tpos:Pos}{a:Expr}{ta:TA}{p pos:Pos}(hg:Gl X "enumerate")(hm:X.mg "enumerate"=none)(ha:PA X [a] ta)(hs:starEach [a] X.env=[(false,eval a X.env)]:=by rfl):
  PI X (.Tuple elts kx tpos) (.Call (.Name "enumerate" p) [a] [] pos) (So X.K ta):=by
 intro pins s σ H R I h;refine Call_ (ju I hg hm vR (aaK (cU (ha pos pins s σ H _ I h) λus s1 ⟨vs,H1,I1,r1,q1⟩=>?_) hs rfl));obtain⟨l,xs,rfl,s1',q⟩:=q1;obtain⟨u1,rfl,JC⟩:=vals1 r1;cases JC;obtain⟨VS,r1,p1,hz⟩:=I1.list s1';refine call_enumerate_list p1.isList λh' he h1 hsz kk=>?_
 refine wpAny_pyIter_enum he ?_;refine⟨s1.heap.objs.size + 1,[s1.heap.objs.size + 1,s1.heap.objs.size],_,_,H1,rfl,I1.kept (t':=s1.toks) kk,CO xs (aaZ (Nat.lt_succ_self _)),⟨⟨_,he⟩,h1⟩,?_,q⟩;intro c hb
 have hb':s1.heap.objs.size<=c:=by
  simp at hb;rcases hb with e | e<;>(rw[e];first | exact Nat.le_refl _ | exact Nat.le_add_right _ _)
 exact I1.Cu hb' (I1.hok.fresh hb')
end
theorem jc:fillsNumberSlot (.type "tuple") "mul"=pure false :=
 PySem.fillsNumberSlot_seq (id:="tuple.__mul__") (r:=some (.builtin "tuple.__rmul__")) acp.lookup (by decide +kernel) F.slot_tuple_rmul.lookup (by decide +kernel)
theorem nV:seqRepeat? (.type "tuple")=pure (some (.builtin "tuple.__mul__")):=by
 unfold seqRepeat?;rw[PySem.seqSlot_of (T:="tuple") (name:="__mul__") (id:="tuple.__mul__") F.slot_tuple_mul.lookup (by decide +kernel),PySem.seqSlot_of (T:="tuple") (name:="__rmul__") (id:="tuple.__rmul__") F.slot_tuple_rmul.lookup (by decide +kernel)];rfl
theorem nW(a:Int)(t:Tok)(l:Addr)(items:Array Value)(n:Nat)(d:Option Addr)(sl:Array (Option Value)):
  Meets (Builtin.«int.__rmul__» ⟨[.int a t,.ref l],[]⟩) (λ_ R s=>s.heap.get? l=some {cls:=.type "tuple",dict:=d,data:=.seq items n,slots:=sl}/\R (.ok (.ret Value.notImplemented)) s) :=
 .of_wp λprog w A R s h=>by obtain⟨hp,g,dd,tk,os⟩:=s;obtain⟨hl,h⟩:=h;wp_walk;exact⟨_,rfl,h⟩
theorem xZ(l:Addr)(items:Array Value)(n:Nat)(x:Int)(u:Tok)(d:Option Addr)(sl:Array (Option Value))(h1:x=1):
  Meets (Builtin.«tuple.__mul__» ⟨[.ref l,.int x u],[]⟩) (λ_ R s=>s.heap.get? l=some {cls:=.type "tuple",dict:=d,data:=.seq items n,slots:=sl}/\R (.ok (.ret (.ref l))) s) :=
 .of_wp λprog w A R s h=>by obtain⟨hp,g,dd,tk,os⟩:=s;obtain⟨hl,h⟩:=h;subst h1;wp_walk;exact⟨_,rfl,h⟩
theorem vV(l:Addr)(items:Array Value)(n:Nat)(x:Int)(u:Tok)(d:Option Addr)(sl:Array (Option Value))(c1:(decide (x < -(2 ^ 63))||decide (x ≥ 2 ^ 63))=false)(c2:(items.isEmpty||x == 1)=false)(c3:(decide (x<=0)||items.isEmpty)=true):
  Meets (Builtin.«tuple.__mul__» ⟨[.ref l,.int x u],[]⟩) (λ_ R s=>s.heap.get? l=some {cls:=.type "tuple",dict:=d,data:=.seq items n,slots:=sl}/\R (.ok (.ret (.ref s.heap.objs.size))) {s with heap:=s.heap.push {cls:=Value.type "tuple",data:=Data.seq #[]},toks:=s.toks}) :=
 .of_wp λprog w A R s h=>by
  obtain⟨hp,g,dd,tk,os⟩:=s;obtain⟨hl,h⟩:=h
  wp_walk;refine abY (aaw (by rw[c1];decide)) ?_;wp_walk;exact⟨_,rfl,h⟩
theorem vW(l:Addr)(items:Array Value)(n:Nat)(x:Int)(u:Tok)(d:Option Addr)(sl:Array (Option Value))(c1:(decide (x < -(2 ^ 63))||decide (x ≥ 2 ^ 63))=false)(c2:(items.isEmpty||x == 1)=false)(c3:(decide (x<=0)||items.isEmpty)=false)(c4:¬ (items.size:Int) * x > (2 ^ 63 - 1) / 8)(c5:Builtin.Tuple.tupleTooMany ((items.size:Int) * x)=false)
  (hs:(List.foldl (λx1 x2=>x1++x2) #[] (List.replicate x.toNat items)).size<=sizeLine) :
  Meets (Builtin.«tuple.__mul__» ⟨[.ref l,.int x u],[]⟩) (λ_ R s=>s.heap.get? l=some {cls:=.type "tuple",dict:=d,data:=.seq items n,slots:=sl}/\R (.ok (.ret (.ref s.heap.objs.size))) {s with heap:=s.heap.push {cls:=Value.type "tuple",data:=Data.seq (List.foldl (λx1 x2=>x1++x2) #[] (List.replicate x.toNat items))},toks:=s.toks}) :=
 .of_wp λprog w A R s h=>by
  obtain⟨hp,g,dd,tk,os⟩:=s;obtain⟨hl,h⟩:=h
  wp_walk;refine abY (aaw (by rw[c1];decide)) ?_;wp_walk;refine abY (aaw c4) ?_;wp_walk;exact⟨_,rfl,h⟩
section
variable {X:Cx}
def Fd(K:aC):R2:=λx y H Q=>∃a xs k,x=.ref a/\y=.int k/\bz K H a xs/\xs≠[]/\-9223372036854775808<=k/\k < 9223372036854775808/\xs.length * k.toNat<=sizeLine/\∀p H',aK H H'->bz K H' p (List.replicate k.toNat xs).flatten->Q (.ref p) H'
theorem rl:i7 X (binaryOp .Mult) (Fd X.K):=by
 intro pins s σ H x y v u Q I rx ry h;obtain⟨a,xs,k,rfl,rfl,ha,hx,h1,h2,hz,q⟩:=h;cases rx;obtain⟨t,rfl⟩:=ry;obtain⟨its,r1,p1,hsz⟩:=I.tuple ha;obtain⟨⟨c1,d1,e1,Bs⟩,ho,hc,n,hd⟩:=id p1;simp only at hc hd;subst hc hd;have hlen:its.toArray.size=xs.length:=by rw[List.size_toArray];exact r1.length.symm
 have b1:(decide (k < -(2 ^ 63))||decide (k ≥ 2 ^ 63))=false:=by simp;omega
 have go:wpAny (model X.prog X.w) X.A (call (.builtin "tuple.__mul__") [.ref a,.int k t]) (EP X pins σ Q) X.xe s:=by
  by_cases Rn:k=1
  ·refine abc acp ⟨_,ho,rfl⟩ F.entry_tuple_mul (F.args_tuple_mul_2 _ _) (xZ a its.toArray n k t d1 Bs Rn) ⟨ho,?_⟩;refine⟨.ref a,H,I,rfl,q a H (aK.refl _) ?_⟩;subst Rn;show bz X.K H a (xs++[]);rw[aaM];exact ha
  ·have hne:¬ its.toArray.isEmpty=true:=by
    intro z;apply hx;rw[Array.isEmpty_iff_size_eq_zero,hlen]at z;exact aa8.mp z
   have b2:(its.toArray.isEmpty||k == 1)=false:=by
    refine acb.mpr ?_;show ¬ _;rw[Bool.or_eq_true];rintro(z | z)
    ·exact hne z
    ·exact Rn (by simpa using z)
   by_cases Yb:k<=0
   ·refine call_meets F.slot_tuple_mul ⟨_,ho,rfl⟩ F.entry_tuple_mul (F.args_tuple_mul_2 _ _) (vV a its.toArray n k t d1 Bs b1 b2 (by simp[Yb])) ⟨ho,?_⟩;refine⟨.ref s.heap.objs.size,_,I.laid (t':=s.toks) (o:=.tup []) (λb ob q=>Heap.get?_push_of_some _ q) (Nat.le_refl _) ⟨by simp,[],.nil,IsTup.new _ _⟩,rfl,q _ _ (jA (I.hok.fresh (Nat.le_refl _)) _) (bz.of ?_)⟩;rw[show k.toNat=0 by omega];exact uS
   ·have b3:(decide (k<=0)||its.toArray.isEmpty)=false:=by
     refine acb.mpr ?_;show ¬ _;rw[Bool.or_eq_true];rintro(z | z)
     ·exact Yb (aaH z)
     ·exact hne z
    have hprod:(its.toArray.size:Int) * k=((xs.length * k.toNat:Nat):Int):=by
     rw[hlen,Int.natCast_mul,show((k.toNat:Nat):Int)=k by omega]
    have hcap:(sizeLine:Nat)<=(2 ^ 63 - 1) / 8:=by decide
    have hfold:List.foldl (λx1 x2=>x1++x2) #[] (List.replicate k.toNat its.toArray)=(List.replicate k.toNat its).flatten.toArray:=by
     have:=foldl_rep its k.toNat [];rw[List.nil_append]at this;exact this
    have hfl:(List.replicate k.toNat its).flatten.length=k.toNat * its.length:=len_rep its k.toNat;have hitl:its.length=xs.length:=by rw[← hlen,aaL]
    refine call_meets F.slot_tuple_mul ⟨_,ho,rfl⟩ F.entry_tuple_mul (F.args_tuple_mul_2 _ _) (vW a its.toArray n k t d1 Bs b1 b2 b3 (by rw[hprod];clear hprod;generalize xs.length * k.toNat=N at hz;omega) (by unfold Builtin.Tuple.tupleTooMany;rw[hprod];clear hprod;generalize xs.length * k.toNat=N at hz;exact decide_eq_false (by omega)) (by rw[hfold,List.size_toArray,hfl,hitl,Nat.mul_comm];exact hz)) ⟨ho,?_⟩;rw[hfold];refine⟨.ref s.heap.objs.size,_,I.laid (t':=s.toks) (o:=.tup (List.replicate k.toNat xs).flatten) (λb ob q=>Heap.get?_push_of_some _ q) (Nat.le_refl _) ⟨by rw[len_rep,Nat.mul_comm];exact hz,_,r1.rep k.toNat,IsTup.new _ _⟩,rfl,q _ _ (jA (I.hok.fresh (Nat.le_refl _)) _) (bz.of uS)⟩
 exact abB (T:="tuple") (U:="int") (by decide) ⟨_,ho,rfl⟩ (λs'=>abH s' k t) jc acz abk nV acq.lookup
  (abc abk (abH s k t) acr (acd _ _) (nW k t a its.toArray n d1 Bs) ⟨ho,rfl,⟨_,ho,rfl⟩,go⟩)
end
section
variable {X:Cx}
def ML:V->Option Int->Option Int->Hp->VK->Prop:=λv lo hi H Q=>∃(x:Str),v=.str x/\x.length<=sizeLine/\Q (.str (Txt.slice x lo hi)) H
theorem JK:ID X ML:=by
 intro pins s σ H x v vl vu lo hi sl Q I rx hs pl pu h;obtain⟨x,rfl,hz,q⟩:=h;obtain⟨t,rfl⟩:=rx
 have go:∀(l u:Option (Int×Tok)),l.map (·.1)=lo->u.map (·.1)=hi->s.heap.IsSlice sl l u none->∃T id,typeLookup (.type T) "__getitem__"=pure (some (.builtin id))/\s.TypeIs (.str x t) T/\wpAny (model X.prog X.w) X.A (getItem (.str x t) (.ref sl)) (EP X pins σ Q) X.xe s:=λl u el eu hs=>by
  subst el eu;refine⟨"str",_,PySem.F.slot_str_getitem.lookup,abW _ _ _,wpAny_getItem_str_slice (l:=l) (u:=u) (st:=none) hs rfl (post_val_or_str ⟨aau (Txt.slice_le x _ _) hz,λt' k=>?_⟩)⟩;exact⟨.str _,H,I.kept (t':=k) λ_ _ e=>e,⟨t',rfl⟩,q⟩
 cases pl with
 | none =>
  cases pu with
  | none=>exact go none none rfl rfl hs
  | int j tj=>exact go none (some (j,tj)) rfl rfl hs
 | int i ti =>
  cases pu with
  | none=>exact go (some (i,ti)) none rfl rfl hs
  | int j tj=>exact go (some (i,ti)) (some (j,tj)) rfl rfl hs
end
open PySem PySem.Spec PyProof.Rows PySem.W PySem.Builtin PySem.Builtin.ObjectAttr
def rR(K:Frag)(C:Addr)(bmB:List Value)(newId:String):Bool:=match K.lookup C with
 | some ⟨.type "type",_,.cls cd,sl⟩=>(match cd.mro,sl.toList with
  | .ref C'::bm,[_,_,_,_,some (.builtin n),_]=>C' == C&&n == newId&&!cd.hasDel&&tailIn K bmB bm&&nsOkIn K cd.ns&&cd.hasDict
  | _,_=>false)
 | _=>false
theorem rn{K:Frag}{h:Heap}{C:Addr}{bmB:List Value}{newId:String}(X:K.In h)(q:rR K C bmB newId=true):
  ∃(bm:List Value) (N:Addr) (nm qn:Str) (bs:List Value) (sn:List Str) (sub:List Value) (ab:Bool) (col:Option Bool) (dd:Option Addr) (k0 k1 k2 k3 k5:Option Value) (mN:Str->Option Value),
   h.get? C=some (excClassObj nm qn C N bs bm true sn sub ab col dd k0 k1 k2 k3 k5 newId)/\h.Ns N mN/\OwnTail h bmB bm/\∃cd,clsIn K C=some cd/\cd.mro=.ref C::bm/\cd.hasDict=true:=by
 unfold rR at q;split at q
 ·rename_i dd cd sl ho;split at q
  ·rename_i C' bm k0 k1 k2 k3 n k5 hm hs;simp only[Bool.and_eq_true,beq_iff_eq,Bool.not_eq_true']at q;have hcls:clsIn K C=some cd:=by unfold clsIn;rw[ho]
   obtain⟨⟨⟨⟨⟨rfl,rfl⟩,hdel⟩,ht⟩,hok⟩,hhd⟩:=q;obtain⟨nm,bs,mro,ns,qn,hd,sn,sub,ab,col,del⟩:=cd;dsimp only at hm hdel hok hhd;subst hm hdel hhd
   have hsl:sl=#[k0,k1,k2,k3,some (.builtin n),k5]:=by
    obtain⟨l⟩:=sl;simp only at hs;rw[hs]
   subst hsl;exact⟨bm,ns,nm,qn,bs,sn,sub,ab,col,dd,k0,k1,k2,k3,k5,_,X _ _ ho,.of_isNs (PySem.W.isNs_of_in X hok),PySem.W.tail_of_in X ht,⟨_,hcls,by rfl,by rfl⟩⟩
  ·cases q
 ·cases q
section
variable {prog:Program} {w:World} {A:Around} {E:Value->Shared->Prop} {K:Frag} {h:Heap} {g:Array GenState} {d:Drawn} {t:Nat} {os:OsState}
variable {nm q:Str} {C N:Addr} {bs bm bmB:List Value} {hdct:Bool} {sn:List Str} {sub:List Value} {ab:Bool} {col:Option Bool} {dd:Option Addr} {k0 k1 k2 k3 k5:Option Value} {B Bn newId nid initId inN:String} {bmN:List Value}
def pk(C:Addr)(t:Addr):Obj:={cls:=.ref C,data:=.fields #[.ref t,.none,.none,.none,.bool false,.none]}
theorem zN(Fn:ExcBaseFacts Bn newId inN bmN)(hBn:bmB.contains (.type Bn)=true)(F:ExcBaseFacts B nid initId bmB)(T:OwnTail h bmB bm){rest:List Value}{Q:Fin->Shared->Prop}{fI:Addr}
  (hC:h.get? C=some (excClassObj nm q C N bs bm hdct sn sub ab col dd k0 k1 k2 k3 k5 newId)) (X:K.In h) (hi:findIn K (.ref C) "__init__"=some (some (.ref fI))) (hf:isFn K (.ref fI)=true)
  (hq:wpAny (model prog w) A (call (.ref fI) (.ref (h.objs.size + 1)::rest)) (λr s'=>r=.none/\Q (.done (.ret (.ref (h.objs.size + 1)))) s') E ⟨(h.push {cls:=.type "tuple",data:=.seq rest.toArray}).push (pk C h.objs.size),g,d,t,os⟩) (hrest:rest.length<=sizeLine) :
  wpAny (model prog w) A (Builtin.«type.__call__» ⟨.ref C::rest,[]⟩) Q E ⟨h,g,d,t,os⟩:=by
 repeat (first | with_reducible refine aaA hC ?_ | with_reducible refine wpAny_madeBy_exc hC ?_ | wp_step)
 refine codeAny_call_builtin_code (Code.quiet_builtin _ Fn.quiet) (wpAny_check_new_subU Fn hBn T hC ?_);refine codeAny_exc_new_subU Fn hBn F T hC ?_ hrest;show wpAny _ _ _ _ _ _;have kp:∀b o,h.get? b=some o->((h.push {cls:=.type "tuple",data:=.seq rest.toArray}).push {cls:=.ref C,data:=.fields #[.ref h.objs.size,.none,.none,.none,.bool false,.none]}).get? b=some o:=λb o e=>aaa _ (aaa _ e)
 have hC₁:=kp _ _ hC;have X₁:=X.keeps kp;have hget:((h.push {cls:=.type "tuple",data:=.seq rest.toArray}).push
   {cls:=.ref C,data:=.fields #[.ref h.objs.size,.none,.none,.none,.bool false,.none]}).get? (h.objs.size + 1)=some
   {cls:=.ref C,data:=.fields #[.ref h.objs.size,.none,.none,.none,.bool false,.none]}:=by heap_get
 have hcC:(Value.ref C::bm).contains (.ref C)=true:=by simp
 unfold isInstance
 repeat (first | with_reducible refine aaA hget ?_ | (with_reducible refine ab1 hC₁ ?_;rw[hcC]) | wp_step)
 show wpAny _ _ (typeLookup (.ref C) _) _ _ _;refine(abr (M:=model prog w) X₁ hi).at ?_;refine abx (aae ((bind_fn X₁ _ (acM.mp hf)).at ?_));refine aae (aaJ hq (λr s' hr=>?_) λ_ _ x=>x);obtain⟨rfl,hQ⟩:=hr
 wp_walk
 exact hQ
theorem CP(Fn:ExcBaseFacts Bn newId inN bmN)(hBn:bmB.contains (.type Bn)=true)(F:ExcBaseFacts B nid initId bmB)(T:OwnTail h bmB bm){rest:List Value}{Q:Value->Shared->Prop}{fI:Addr}
  (hC:h.get? C=some (excClassObj nm q C N bs bm hdct sn sub ab col dd k0 k1 k2 k3 k5 newId)) (X:K.In h) (hi:findIn K (.ref C) "__init__"=some (some (.ref fI))) (hf:isFn K (.ref fI)=true)
  (hq:wpAny (model prog w) (A.under (.builtin "type.__call__" ⟨.ref C::rest,[]⟩)) (call (.ref fI) (.ref (h.objs.size + 1)::rest)) (λr s'=>r=.none/\Q (.ref (h.objs.size + 1)) s') E ⟨(h.push {cls:=.type "tuple",data:=.seq rest.toArray}).push (pk C h.objs.size),g,d,t,os⟩) (hrest:rest.length<=sizeLine) :
  wpAny (model prog w) A (call (.ref C) rest) Q E ⟨h,g,d,t,os⟩:=by
 have f1:=tc_lookup;have f2:=tc_bind (.ref C);have hT:(⟨h,g,d,t,os⟩:Shared).TypeIs (.ref C) "type":=⟨_,hC,rfl⟩;refine acK (codeAny_of_tree ?_);show wpAny _ _ (callAny (.ref C) _) _ _ _
 repeat (any_goals (first | assumption | with_reducible refine aaA hC ?_ | wp_step))
 refine⟨rfl,?_⟩;exact codeAny_call_builtin_at (Code.quiet_builtin _ (by decide +kernel)) entry_typeCall (wpAny_check_type_call_sub hC (zN Fn hBn F T hC X hi hf hq hrest))
end
theorem x3(self:Value){h:Heap}{bm:List Value}{bx:Bool}(T:OwnTail h (EW bx) bm):refuseLoop self "__setattr__" bm=pure ():=by
 induction T with
 | base =>
  cases bx with
  | true=>exact PySem.F.store_ValueError.passes self
  | false=>exact PySem.F.store_Exception.passes self
 | own _ _ _ _ ih=>rw[refuseLoop_ref];exact ih
section
variable {prog:Program} {w:World} {A:Around} {K:Frag} {s:Shared} {x C:Addr} {R:Result->Shared->Prop}
theorem uL{ox:Obj}{od:Option Obj}{name:Str}{tk:Tok}{v:Value}{bm:List Value}{cd:ClassData}{bx:Bool}(X:K.In s.heap)(I:InstAt s.heap x ox C od)(hc:clsIn K C=some cd)(hm':cd.mro=.ref C::bm)(T:OwnTail s.heap (EW bx) bm)(hmo:mroIn K C (.type "object")=some true)(ht:findIn K (.ref C) name=some none)
  (h:wpAny (model prog w) A.in1 (storeInOwnDict (.ref x) (.ref C) (.str name tk) name v false)
   (λfin s'=>match fin with | .done f=>R (.ok f) s' | .again c'=>c'.quiet=true/\codeAny (model prog w) A c' R s') (λe s'=>R (.error e) s') s) :
  codeAny (model prog w) A (.call (.builtin "object.__setattr__") ⟨[.ref x,.str name tk,v],[]⟩) R s:=by
 have SF:=PySem.F.store_object;have sub:Looks (model prog w) s.heap (isInstance (.ref x) (.type "object")) true:=I.type.andThen (looks_mroIn X hmo);refine abX SF.slot.plain SF.entry (@check_slot (model prog w) _ _ s "object.__setattr__" "object" "__setattr__" (.ref x) [.str name tk,v] [] _ SF.kind SF.split sub (SF.args (.ref x) (.str name tk) v) ?_);have hm:Looks (model prog w) s.heap (mroOf (.ref C)) cd.mro:=(looks_clsIn X hc).andThen .now;rw[osa_eq,refuse_eq];refine aae (aae (I.type.here (aae (hm.here ?_))));rw[hm',refuseLoop_ref,x3 _ T];refine aar (aae (I.type.here (aae ((abr X ht).here (aae ?_)))));refine aar ?_;exact h
end
section
variable {prog:Program} {w:World} {A:Around} {E:Value->Shared->Prop} {h:Heap} {g:Array GenState} {d:Drawn} {t:Nat} {os:OsState}
variable {nm q:Str} {C N x:Addr} {bs bm:List Value} {sn:List Str} {sub:List Value} {ab:Bool} {col:Option Bool} {dd:Option Addr} {k0 k1 k2 k3 k5:Option Value} {newId:String} {name:Str} {v:Value}
theorem zO{tk:Tok}{o:Obj}{Q:Fin->Shared->Prop}(hC:h.get? C=some (excClassObj nm q C N bs bm true sn sub ab col dd k0 k1 k2 k3 k5 newId))(hx:h.get? x=some o)(hc:o.cls=.ref C)(hnc:∀c,o.data≠.cls c)(hdn:o.dict=none)
  (hq:∀h' tk',h'.get? x=some {cls:=o.cls,dict:=some h.objs.size,data:=o.data,slots:=o.slots}->h'.Ns1 h.objs.size (λy=>if y=name then some v else none)->(∀b ob,b≠x->h.get? b=some ob->h'.get? b=some ob)->Q (.done (.ret .none)) ⟨h',g,d,tk',os⟩) :
  wpAny (model prog w) A (storeInOwnDict (.ref x) (.ref C) (.str name tk) name v false) Q E ⟨h,g,d,t,os⟩:=by
 unfold storeInOwnDict
 repeat (first | (with_reducible refine aaA hx ?_;rw[hc]) | with_reducible refine aaA hC ?_ | wp_step)
 rw[hdn];dsimp only;rw[if_neg (by simp[typeHasDict])];split
 ·rename_i c hcd;exact absurd hcd (hnc c)
 ·have hx₁:(h.push {cls:=.type "dict",data:=.dict #[]}).get? x=some o:=aaa _ hx;have hxs:x≠h.objs.size:=aam (aah hx);refine aae (wpAny_alloc' ?_);refine aae (wpAny_update' hx₁ ?_);refine aar ?_;have hgd:((h.push {cls:=.type "dict",data:=.dict #[]}).update x λo=>{cls:=o.cls,dict:=some h.objs.size,data:=o.data,slots:=o.slots}).get? h.objs.size
    = some {cls:=.type "dict",data:=.dict #[]} :=
   (Heap.get?_update_ne _ _ _ _ hxs.symm).trans (Heap.get?_push_at rfl rfl)
  have hnd:((h.push {cls:=.type "dict",data:=.dict #[]}).update x λo=>{cls:=o.cls,dict:=some h.objs.size,data:=o.data,slots:=o.slots}).Ns h.objs.size (λ_=>none) :=
   ⟨_,#[],_,hgd,rfl,λe he=>absurd he (by simp),λ_=>rfl⟩
  show wpAny _ _ (storeInDict h.objs.size (.str name tk) name v) _ _ _;unfold storeInDict newKeyGuard;refine wpAny_bind (wpAny_pure (wpAny_bind (wpAny_nsSet1 (Heap.Ns1.of_empty hnd) λh' hn' hs=>?_)));obtain⟨oD,esD,epD,hoD,hdD,hcD⟩:=hn'.count (Within.cons name v Within.nil);refine wpAny_bind (wpAny_lookBehind hoD (by rw[hdD];exact pastItsLine_dict (Nat.le_trans hcD (by rw[List.length_cons,List.length_nil,sizeLine_eq];omega))) ?_)
  wp_walk
  have hx':h'.get? x=some {cls:=o.cls,dict:=some h.objs.size,data:=o.data,slots:=o.slots}:=by
   refine(hs.2 x hxs).trans (abS _ hx₁ ?_);have hfr:=(ab6.mp hx).2;obtain⟨oc,od,odt,osl⟩:=o;cases odt<;>first | rfl | exact hfr
  refine hq h' _ hx' hn' λb ob hbx hb=>?_
  exact(hs.2 b (aam (aah hb))).trans ((Heap.get?_update_ne _ _ _ _ hbx).trans (aaa _ hb))
theorem zP{tk:Tok}{o:Obj}{dx:Addr}{mA:Str->Option Value}{ns:List Str}{Q:Fin->Shared->Prop}(hC:h.get? C=some (excClassObj nm q C N bs bm true sn sub ab col dd k0 k1 k2 k3 k5 newId))(hx:h.get? x=some o)(hc:o.cls=.ref C)(hdx:o.dict=some dx)(hns:h.Ns1 dx mA)(hw:Within mA ns)(hl:ns.length < 1000)
  (hq:∀h' tk',h'.Ns1 dx (λy=>if y=name then some v else mA y)->(∀b ob,b≠dx->h.get? b=some ob->h'.get? b=some ob)->Q (.done (.ret .none)) ⟨h',g,d,tk',os⟩) :
  wpAny (model prog w) A (storeInOwnDict (.ref x) (.ref C) (.str name tk) name v false) Q E ⟨h,g,d,t,os⟩:=by
 unfold storeInOwnDict
 repeat (first | (with_reducible refine aaA hx ?_;rw[hc]) | with_reducible refine aaA hC ?_ | wp_step)
 rw[hdx];refine wpAny_pure ?_;show wpAny _ _ (storeInDict dx (.str name tk) name v) _ _ _;unfold storeInDict newKeyGuard;refine wpAny_bind (wpAny_pure (wpAny_bind (wpAny_nsSet1 hns λh' hn' hs=>?_)));obtain⟨oD,esD,epD,hoD,hdD,hcD⟩:=hn'.count (Within.cons name v hw);refine wpAny_bind (wpAny_lookBehind hoD (by rw[hdD];exact pastItsLine_dict (Nat.le_trans hcD (by rw[List.length_cons,sizeLine_eq];omega))) ?_)
 wp_walk
 exact hq h' _ hn' λb ob hb hb'=>(hs.2 b hb).trans hb'
end
def XP(C e:Addr)(dx:Option Addr):Heap->Prop:=λh=>∃t0,h.get? e=some {cls:=.ref C,dict:=dx,data:=.fields #[.ref t0,.none,.none,.none,.bool false,.none]}
def XD(dx:Addr)(fs:List (Str×V)):Heap->Prop:=λh=>∃mA,h.Ns1 dx mA/\(∀f,qC (fs.lookup f) (mA f))/\Within mA (fs.map (·.1))
structure KXs(K:Frag)(C:Addr):Prop where
 sa:findIn K (.ref C) "__setattr__"=some (some (.builtin "object.__setattr__"))
 ex:∃bx,rR K C (EW bx) (OE bx)=true
 mo:mroIn K C (.type "object")=some true
theorem uM{C e:Addr}{dx:Option Addr}(h1 h2:Heap)(h:XP C e dx h1)(k:∀o,h1.get? e=some o->h2.get? e=some o):XP C e dx h2:=by
 obtain⟨t0,g⟩:=h;exact⟨t0,k _ g⟩
theorem uO{dx:Addr}{fs:List (Str×V)}(h1 h2:Heap)(h:XD dx fs h1)(k:∀o,h1.get? dx=some o->h2.get? dx=some o):XD dx fs h2:=by
 obtain⟨mA,n,r⟩:=h;exact⟨mA,n.at k,r⟩
theorem Ns1.obj{h:Heap}{a:Addr}{m:Str->Option Value}(n:h.Ns1 a m):∃o,h.get? a=some o:=let ⟨o,_,_,e,_⟩:=n;⟨o,e⟩
section
variable {X:Cx} {C a:Addr} {pins:List (Addr×Obj)} {σ:St} {H:Hp} {s:Shared} {A:Around} {E:Value->Shared->Prop} {f:Str}
theorem Sq{y:V}{u:Value}{Q:Unit->Shared->Prop}(I:Inv X pins σ H s)(e:H a=some (.ext (XP C a none)))(k:KXs X.K C)(hf:findIn X.K (.ref C) f=some none)(ry:RelV y u)
  (h:∀s' dx,H dx=none->dx≠a->Inv X pins σ (upd (upd H dx (.ext (XD dx [(f,y)]))) a (.ext (XP C a (some dx)))) s'->Q () s'):wpAny (model X.prog X.w) A (setAttr (.ref a) f u) Q E s:=by
 obtain⟨⟨t0,hg⟩,_,_⟩:=I.hok a _ e;obtain⟨bx,hbx⟩:=k.ex;obtain⟨bm,N,nm,qn,bs,sn,sub,ab,col,dd,k0,k1,k2,k3,k5,mN,hC,hn,T,cd,hcd,hmro,_⟩:=rn I.nK hbx;have IA:InstAt s.heap a {cls:=.ref C,dict:=none,data:=.fields #[.ref t0,.none,.none,.none,.bool false,.none]} C none:=⟨hg,rfl,rfl,abj⟩;refine set_plain I.nK IA k.sa (uL (s:={s with toks:=s.toks + 1}) I.nK IA hcd hmro T k.mo hf ?_);obtain⟨hp,g,d,tk,os⟩:=s;have hda:hp.objs.size≠a:=aaZ (aah hg);refine zO hC hg rfl (λc z=>by cases z) rfl λh' tk' g1 n1 kp=>h _ hp.objs.size (I.hok.fresh (aag _)) hda ?_
 obtain⟨od,god⟩:=Ns1.obj n1;have hpo:(hp.push od).get? hp.objs.size=some od:=aas hp (ab6.mp god).2;have n0:(hp.push od).Ns1 hp.objs.size (λy=>if y=f then some u else none):=n1.at λo q=>by rw[god]at q;cases q;exact hpo
 have VU:XD hp.objs.size [(f,y)] (hp.push od):=⟨_,n0,λg=>by
  show qC (List.lookup g [(f,y)]) (if g=f then some u else none);by_cases q:g=f
  ·rw[if_pos q,q];simp only[List.lookup,beq_self_eq_true];exact ry
  ·rw[if_neg q];simp only[List.lookup];rw[beq_false_of_ne q];exact True.intro,λg hg=>by
  by_cases q:g=f
  ·rw[q];exact List.mem_singleton_self _
  ·exact absurd (aak q) hg⟩
 have I1:=I.laid (a:=hp.objs.size) (o:=.ext (XD hp.objs.size [(f,y)])) (h':=hp.push od) (t':=tk') (λb u q=>aaa _ q) (aag _) ⟨VU,⟨_,hpo⟩,uO⟩;have ea:upd H hp.objs.size (.ext (XD hp.objs.size [(f,y)])) a=some (.ext (XP C a none)):=by rw[uN hda.symm];exact e
 refine I1.write (x:=a) (e:=a) (t':=tk') (by rw[ea];exact abj) (.inl rfl) (λb ob hb z=>?_) ⟨_,g1⟩ ⟨⟨t0,g1⟩,⟨_,g1⟩,uM⟩;by_cases hbs:b=hp.objs.size
 ·subst hbs;have z':(hp.push od).get? hp.objs.size=some ob:=z;rw[hpo]at z';cases z';exact god
 ·have z':(hp.push od).get? b=some ob:=z;rw[Heap.get?_push_ne _ _ _ hbs]at z';exact kp b ob hb z'
theorem Sr{y:V}{u:Value}{dx:Addr}{fs:List (Str×V)}{Q:Unit->Shared->Prop}(I:Inv X pins σ H s)(e:H a=some (.ext (XP C a (some dx))))(ed:H dx=some (.ext (XD dx fs)))(hl:fs.length < 900)(k:KXs X.K C)(hf:findIn X.K (.ref C) f=some none)(ry:RelV y u)
  (h:∀s',Inv X pins σ (upd H dx (.ext (XD dx (mH f y fs)))) s'->Q () s'):wpAny (model X.prog X.w) A (setAttr (.ref a) f u) Q E s:=by
 obtain⟨⟨t0,hg⟩,_,_⟩:=I.hok a _ e;obtain⟨⟨mA,n,r,wi⟩,_,_⟩:=I.hok dx _ ed;obtain⟨bx,hbx⟩:=k.ex;obtain⟨bm,N,nm,qn,bs,sn,sub,ab,col,dd,k0,k1,k2,k3,k5,mN,hC,hn,T,cd,hcd,hmro,_⟩:=rn I.nK hbx;obtain⟨od,god⟩:=Ns1.obj n;have IA:InstAt s.heap a {cls:=.ref C,dict:=some dx,data:=.fields #[.ref t0,.none,.none,.none,.bool false,.none]} C (some od):=⟨hg,rfl,rfl,god⟩;refine set_plain I.nK IA k.sa (uL (s:={s with toks:=s.toks + 1}) I.nK IA hcd hmro T k.mo hf ?_);obtain⟨hp,g,d,tk,os⟩:=s;refine zP hC hg rfl rfl n wi (by rw[aac];omega) λh' tk' n1 kp=>h _ ?_
 obtain⟨od',god'⟩:=Ns1.obj n1;refine I.write (x:=dx) (e:=dx) (t':=tk') (by rw[ed];exact abj) (.inl rfl) (λb ob hb z=>kp b ob hb z) ⟨_,god'⟩ ⟨⟨_,n1,λg=>?_,λg hg=>?_⟩,⟨_,god'⟩,uO⟩
 ·show qC ((mH f y fs).lookup g) (if g=f then some u else mA g);rw[qa];by_cases q:g=f
  ·rw[aan q,aan q];exact ry
  ·rw[aak q,aak q];exact r g
 ·by_cases q:g=f
  ·rw[q];exact(pj f y fs).1
  ·refine(pj f y fs).2 g (wi g λz=>hg ?_);show(if g=f then some u else mA g)=none;rw[aak q];exact z
end
def ZQ(K:Frag)(ta tv:TE)(f:Str):TS:=λD σ H=>tv σ H λy H1=>ta σ H1 λx H2=>∃a C,x=.ref a/\KXs K C/\fT K C f /\
 ((H2 a=some (.ext (XP C a none))/\∀dx,H2 dx=none->dx≠a->D.nx σ (upd (upd H2 dx (.ext (XD dx [(f,y)]))) a (.ext (XP C a (some dx))))) ∨
  ∃dx fs,H2 a=some (.ext (XP C a (some dx)))/\H2 dx=some (.ext (XD dx fs))/\fs.length < 900/\D.nx σ (upd H2 dx (.ext (XD dx (mH f y fs)))))
section
variable {X:Cx} {o e value:Expr} {f:Str} {pos pos' tpos:Pos} {ta tv:TE}
theorem Fe(ha:PE X o ta)(hv:PE X value tv)(hs:swapsWith value (some (.Attribute o f pos')) pos.line X.env=pure false):PS X (.Assign [.Attribute o f pos'] value pos) (ZQ X.K ta tv f):=by
 intro pins s σ H D I h;refine plainObj_wpAny_Assign_Attribute (cU (hv pins s σ H _ I h) λu s1 ⟨y,H1,I1,ry,q⟩=>cU (ha pins s1 σ H1 _ I1 q) λov s2 ⟨x,H2,I2,rx,a,C,ex,k,n,q2⟩=>?_) hs;subst ex;obtain rfl:ov=Value.ref a:=rx;rcases q2 with⟨ea,q2⟩ | ⟨dx,fs,ea,ed,l,q2⟩
 ·exact Sq I2 ea k n ry λs3 dx hd hda I3=>⟨σ,_,I3,q2 dx hd hda⟩
 ·exact Sr I2 ea ed l k n ry λs3 I3=>⟨σ,_,I3,q2⟩
end
section
variable {prog:Program} {w:World} {A:Around} {E:Value->Shared->Prop} {K:Frag} {a C:Addr} {o:Obj} {od:Option Obj} {h:Heap} {g:Array GenState} {d:Drawn} {t:Nat} {os:OsState} {name:Str} {v:Value}
theorem VW{tk:Tok}{Q:Fin->Shared->Prop}(X:K.In h)(IA:InstAt h a o C od)(hf:findObj K C od name=some (.value v))(hq:Q (.done (.ret v)) ⟨h,g,d,t,os⟩):
  wpAny (model prog w) A (Builtin.«object.__getattribute__» ⟨[.ref a,.str name tk],[]⟩) Q E ⟨h,g,d,t,os⟩:=by
 have L0:=IA.type (M:=model prog w);have L1:=looks_find (M:=model prog w) X IA hf;refine aae (aar (aae (aar (aae (L0.at (aae (L1.at ?_)))))));exact aar hq
theorem ZR{tk:Tok}{fill expr:Bool}{Q:Value->Shared->Prop}(X:K.In h)(k:KX K C)(IA:InstAt h a o C od)(hf:findObj K C od name=some (.value v))(hh:handedIn v=true)(hq:Q v ⟨h,g,d,t,os⟩):
  wpAny (model prog w) A (getAttrBy (.ref a) (.str name tk) fill expr) Q E ⟨h,g,d,t,os⟩:=by
 have hx:=IA.at_;have hc:=IA.cls;have L1:=abr (M:=model prog w) X k.ga;have L2:=abr (M:=model prog w) X k.gh;have f3:=abv.ga.bind (.ref a);have VU:(expr&&onTheHeap (Value.builtin "BaseException.__getattribute__"))=false:=by cases expr<;>rfl
 have VV:(Value.builtin "BaseException.__getattribute__" == Value.builtin "object.__getattribute__")=false:=by decide +kernel
 have ZP:(onTheHeap (Value.ref C)&&Value.builtin "BaseException.__getattribute__" == Value.builtin "object.__getattribute__")=false:=by rw[VV];rfl
 repeat (any_goals (first | assumption | (with_reducible refine aaA hx ?_;rw[hc]) | with_reducible refine L1.at ?_ | with_reducible refine L2.at ?_ | wp_step))
 refine abX abv.ga.plain F.entry_bexc_ga (xY X k hx hc (VW X IA hf ?_));have ho:=handedOut_of hh
 repeat (any_goals (first | assumption | wp_step | (rw[ho])))
theorem Ss{expr:Bool}{Q:Value->Shared->Prop}(X:K.In h)(k:KX K C)(IA:InstAt h a o C od)(hf:findObj K C od name=some (.value v))(hh:handedIn v=true)(hq:Q v ⟨h,g,d,t + 1,os⟩):
  wpAny (model prog w) A (getAttr (.ref a) name expr) Q E ⟨h,g,d,t,os⟩:=by
 unfold getAttr;refine wpAny_bind (wpAny_mkText ?_);exact ZR X k IA hf hh hq
end
def XG(C a dx:Addr):Heap->Prop:=λh=>∃o vs,h.get? a=some o/\o.cls=.ref C/\o.dict=some dx/\o.data=.fields vs
def ZS(K:Frag)(ta:TE)(f:Str):TE:=λσ H Q=>ta σ H λx H1=>∃a C dx fs v φ,x=.ref a/\H1 a=some (.ext φ)/\(∀h,φ h->XG C a dx h)/\H1 dx=some (.ext (XD dx fs))/\KX K C/\hasDictIn K C=true/\fT K C f/\fs.lookup f=some v/\Q v H1
theorem Su{X:Cx}{e:Expr}{f:Str}{pos:Pos}{ta:TE}(he:PE X e ta)(hb:attributeBase e f X.env (eval e X.env)=eval e X.env):PE X (.Attribute e f pos) (ZS X.K ta f):=by
 intro pins s σ H Q I h;refine Ji hb (cU (he pins s σ H _ I h) λu s1 ⟨x,H1,I1,rx,a,C,dx,fs,v,φ,ex,ea,hφ,ed,k,hd,n,l,q⟩=>?_);subst ex;obtain rfl:u=Value.ref a:=rx;obtain⟨p,_,_⟩:=I1.hok a _ ea;obtain⟨⟨mA,nn,r,_⟩,_,_⟩:=I1.hok dx _ ed;obtain⟨o,vs,g1,g2,g3,g4⟩:=hφ _ p;obtain⟨od,ho,hl⟩:=CC nn;obtain⟨u',hu,ru⟩:=qC.some_of (v:=v) (o:=mA f) (by rw[← l];exact r f);have IA:InstAt s1.heap a o C (some od):=⟨g1,g2,by unfold notCls;rw[g4],by rw[g3];exact ho⟩;obtain⟨hp,g,d,t,os⟩:=s1;exact Ss I1.nK k IA (findObj_own hd n rfl (by rw[hl,hu])) (CD ru) ⟨v,H1,I1.tok _,ru,q⟩
structure Yc(K:Frag)(C f:Addr):Prop where
 ex:∃bx,rR K C (EW bx) (OE bx)=true
 init:findIn K (.ref C) "__init__"=some (some (.ref f))
 fn:isFn K (.ref f)=true
 kp:keepIn K (.ref C)=true
section
variable {X:Cx} {CX:zD} {k:Nat} {f C:Addr} {fd:FuncData} {ps:List Str} {sp:Sp} {dvs:List V} {ds:List Value} {E:XK} {x m:Str} {p pos apos:Pos} {e o:Expr} {es:List Expr} {ta:TE} {t:TA}
theorem CQ{pins:List (Addr×Obj)}{σ:St}{H:Hp}{s:Shared}{Q:VK}{us:List Value}{vs:List V}{cm:Bool}(M:Yc X.K C f)(F':bK X.prog X.w X.K X.mg X.base CX k f fd ps sp cm)(hr:dW (k + 1) X.A cm)(hb:Binds X.K fd ps ds)(hd:Vals dvs ds)
  (hx:Passes CX X E) (I:Inv X pins σ H s) (r:Vals vs us) (hz:vs.length<=sizeLine)
  (h:∀x,s.heap.objs.size<=x->H x=none->sp (.ref x::(vs++dvs)) (upd H x (.ext (XP C x none))) (λv H2=>v=.non/\Q (.ref x) H2) E) :
  wpAny (model X.prog X.w) X.A (call (.ref C) us) (EP X pins σ Q) X.xe s:=by
 obtain⟨bx,hbx⟩:=M.ex;obtain⟨bm,N,nm,qn,bs,sn,sub,ab,col,dd,k0,k1,k2,k3,k5,mN,hC,hn,T,cd,hcd,hmro,_⟩:=rn I.nK hbx;have hq:=h (s.heap.objs.size + 1) (acE _) (I.hok.fresh (acE _));obtain⟨hp,g,d,tk,os⟩:=s;have I1:=I.kept (h':=hp.push {cls:=.type "tuple",data:=.seq us.toArray}) (t':=tk) (λb u q=>aaa _ q)
 have e2:((hp.push {cls:=.type "tuple",data:=.seq us.toArray}).push (pk C hp.objs.size)).get? (hp.objs.size + 1)=some (pk C hp.objs.size):=by
  have:=aas (hp.push {cls:=.type "tuple",data:=.seq us.toArray}) (o:=pk C hp.objs.size) rfl
  rwa [abq]at this
 have I2:=I1.laid (a:=hp.objs.size + 1) (o:=.ext (XP C (hp.objs.size + 1) none)) (h':=(hp.push {cls:=.type "tuple",data:=.seq us.toArray}).push (pk C hp.objs.size)) (t':=tk) (λb u q=>aaa _ q) (acV (abq _ _)) ⟨⟨_,e2⟩,⟨_,e2⟩,uM⟩;have r2:Vals (V.ref (hp.objs.size + 1)::(vs++dvs)) (Value.ref (hp.objs.size + 1)::(us++ds)):=.cons rfl (r.append hd)
 have hl:(Value.ref (hp.objs.size + 1)::us++ds).length=ps.length:=by
  have e:=r2.length;rw[F'.len _ _ _ _ hq]at e;exact e.symm
 refine CP (bmB:=EW bx) (X8 bx) (JH bx) (X8 bx) T hC I.nK M.init M.fn ?_ (by rw[← r.length];exact hz);refine acK (aci (F'.run _ X.stack _ _ ⟨Value.ref (hp.objs.size + 1)::us,[]⟩ (Value.ref (hp.objs.size + 1)::(us++ds)) _ _ E (hr.make C us [])
  (I2.Oa.make C us []) (hb _ (Value.ref (hp.objs.size + 1)::us) I2.nK hl) r2 hq) λr s' hq'=>?_)
 cases r with
 | error e=>exact hx pins σ _ _ e s' I2 hq'
 | ok fl =>
  cases fl with
  | ret u =>
   obtain⟨v,H',I3,rv,ev,q3⟩:=I2.after hq';subst ev;exact⟨rv,⟨V.ref (hp.objs.size + 1),H',I3,rfl,q3⟩⟩
  | next=>exact False.elim hq'
  | brk=>exact False.elim hq'
  | cont=>exact False.elim hq'
def Sv(K:Frag):List V->Hp->VK->Prop:=λvs H Q=>∃a C c D b φ,vs=[.ref a,c]/\H a=some (.ext φ)/\(∀h,φ h->ExcAt C a h)/\KX K C/\hasDictIn K C=true/\RelV c D/\kitOne K (.ref C) D=some b/\Q (.bl b) H
theorem uP:eO X (.builtin "isinstance") (Sv X.K):=by
 intro pins s σ H xs us Q I r h;obtain⟨a,C,c,D,b,φ,rfl,hH,hφ,hk,hcl,rc,e,q⟩:=h;obtain⟨u,w',rfl,rx,rw'⟩:=vals2 r;cases rx
 have hD:w'=D:=by
  cases c<;>simp[RelV]at rc rw'<;>first | (rw[rw',rc]) | (obtain⟨t1,e1⟩:=rc;obtain⟨t2,e2⟩:=rw';subst e1;subst e2;exact absurd e (by simp[kitOne,kitCls]))
 subst hD;obtain⟨cd,hcd,_⟩:=any_some hcl;obtain⟨p,_,_⟩:=I.hok a _ hH;exact aa5 (E8 hk hcd) I.nK (hφ _ p) e (λz=>nomatch z) λtk=>⟨.bl b,H,I.tok tk,rfl,q⟩
end
def inner(s:Stmt):Stmt:=match s with
 | .ClassDef _ _ _ b _ _ _ _ _ _ _=>b.headD (.Pass ⟨0,0,0,0⟩)
 | _=>.Pass ⟨0,0,0,0⟩
def Ff(K:Frag)(fs:List Str):Sp:=λvs H Q _=>∃a C ys,vs=.ref a::ys/\ys.length=fs.length/\KXs K C/\(∀f∈fs,fT K C f)/\H a=some (.ext (XP C a none)) /\
 ∀dx,H dx=none->dx≠a->Q .non (upd (upd H dx (.ext (XD dx (fs.zip ys)))) a (.ext (XP C a (some dx))))
theorem OI{H:Hp}{a b:Addr}{u v u':HO}(h:b≠a):upd (upd (upd H b u) a v) b u'=upd (upd H b u') a v:=by
 funext c
 unfold upd;by_cases h1:c=b
 ·subst h1;rw[aan rfl,aak h,aan rfl]
 ·simp only[if_neg h1]
structure OJ(P:Program)(w:World)(K:Frag)(mg:Str->Option Value)(base:Heap)(C:Addr)(fs:List Str):Prop where
 s:KXs K C
 no:∀f∈fs,fT K C f
 le:fs.length<=1000
 ini:∃f fd,Yc K C f/\bK P w K mg base bP 1 f fd ("self"::fs) (Ff K fs) false/\Binds K fd ("self"::fs) []
section
variable {X:Cx} {C:Addr} {fs:List Str} {x:Str} {p pos:Pos} {e:Expr} {es:List Expr} {t:TA}
end
open PySem PySem.Spec PyProof.Rows PySem.W
def Cn(o:Obj):Prop:=∃vs,o.data=.fields vs/\vs[2]?=some .none
def Dk(h h':Heap):Prop:=∀b o,h.get? b=some o->∃o',h'.get? b=some o'/\o'.dict=o.dict/\(Cn o->Cn o')
theorem Dk.refl(h:Heap):Dk h h:=λ_ o e=>⟨o,e,rfl,id⟩
theorem Dk.trans{h1 h2 h3:Heap}(x:Dk h1 h2)(y:Dk h2 h3):Dk h1 h3:=λb o e =>
 let ⟨o1,e1,d1,c1⟩:=x b o e;let ⟨o2,e2,d2,c2⟩:=y b o1 e1;⟨o2,e2,d2.trans d1,λz=>c2 (c1 z)⟩
def KD{α:Type}(t:Sem α):Prop:=∀(M:Model) (Γ:PySem.Ctx) (Q:α->Pos->Shared->Prop) (E:Value->Pos->Shared->Prop) (p:Pos) (s:Shared),
 Sem.wp M Γ t Q E p s->Sem.wp M Γ t (λa p' s'=>Q a p' s'/\Dk s.heap s'.heap) (λe p' s'=>E e p' s'/\Dk s.heap s'.heap) p s
section
variable {α β:Type}
theorem bT(a:α):KD (pure a:Sem α):=λ_ _ _ _ _ s h=>⟨h,Dk.refl s.heap⟩
theorem dX(m:String):KD (Sem.unsupported m:Sem α):=λ_ _ _ _ _ _ h=>False.elim (by simpa using h)
theorem bj{t:Sem α}{f:α->Sem β}(h1:KD t)(h2:∀a,KD (f a)):KD (t >>= f):=by
 intro M Γ Q E p s h;rw[Sem.wp_bind']at h ⊢;refine Sem.wp_mono M Γ t (λa p1 s1 z=>?_) (λ_ _ _ z=>z) p s (h1 M Γ _ _ p s h);exact Sem.wp_mono M Γ (f a) (λ_ _ _ y=>⟨y.1,z.2.trans y.2⟩) (λ_ _ _ y=>⟨y.1,z.2.trans y.2⟩) p1 s1 (h2 a M Γ _ _ p1 s1 z.1)
theorem vX(a:Addr)(part:Option Value):KD (loadPart a part):=λM Γ Q E p s h=>by
 unfold loadPart at h ⊢;rw[Sem.wp_load]at h ⊢;obtain⟨o,e,q⟩:=h;exact⟨o,e,q,Dk.refl _⟩
theorem CS{h:Heap}{a:Addr}{f:Obj->Obj}(hf:∀o:Obj,((f o).dict=o.dict/\(Cn o->Cn (f o)))/\(o.isFreed=false->(f o).isFreed=false)):Dk h (h.update a f):=λb o e=>by
 by_cases hb:a=b
 ·subst hb;exact⟨_,abS f e ((hf o).2 (ab6.mp e).2),(hf o).1⟩
 ·exact⟨o,(abM h f hb).trans e,rfl,id⟩
theorem uQ(a:Addr)(part:Option Value){f:Obj->Obj}(hf:∀o:Obj,((f o).dict=o.dict/\(Cn o->Cn (f o)))/\(o.isFreed=false->(f o).isFreed=false)):KD (updatePart a part f):=λM Γ Q E p s h=>by
 unfold updatePart at h ⊢;rw[Sem.wp_update]at h ⊢;exact⟨h.1,h.2,CS hf⟩
theorem x5(o:Obj):KD (alloc o):=λM Γ Q E p s h=>by
 unfold alloc at h ⊢;rw[Sem.wp_alloc]at h ⊢;exact⟨h,λb ob e=>⟨ob,Heap.get?_push_of_some _ e,rfl,id⟩⟩
theorem rS:KD stack:=λM Γ Q E p s h=>⟨h,Dk.refl _⟩
end
theorem kE{α:Type}{t:Sem α}(k:KD t){M:Model}{A:Around}{E:Value->Shared->Prop}{Q:α->Shared->Prop}{s:Shared}(h:wpAny M A t Q E s):wpAny M A t (λa s'=>Q a s'/\Dk s.heap s'.heap) E s:=λΓ p hΓ =>
 Sem.wp_mono M Γ t (λ_ _ _ y=>y) (λ_ _ _ y=>y.1) p s (k M Γ _ _ p s (h Γ p hΓ))
theorem nX(v:Value)(i:Nat):KD (field v i):=by
 unfold field fieldsOf;refine bj ?_ λvs=>?_
 ·split
  ·refine bj (vX _ _) λo=>?_
   split
   ·exact bT _
   ·exact dX _
  ·exact dX _
 ·first
  | (split<;>first | exact bT _ | exact dX _)
theorem Fg(i:Nat)(x:Value)(hi:i≠2)(o:Obj):((Obj.mapFields (·.setIfInBounds i x) o).dict=o.dict/\(Cn o->Cn (Obj.mapFields (·.setIfInBounds i x) o)))/\(o.isFreed=false->(Obj.mapFields (·.setIfInBounds i x) o).isFreed=false):=by
 obtain⟨c,d,dt,sl⟩:=o;refine⟨⟨?_,λ⟨vs,e,q⟩=>⟨_,Obj.data_mapFields e _,?_⟩⟩,?_⟩
 ·cases dt<;>rfl
 ·rw[Array.getElem?_setIfInBounds_ne hi];exact q
 ·cases dt<;>exact λz=>z
theorem il(v:Value)(i:Nat)(x:Value)(hi:i≠2:=by decide):KD (setField v i x):=by
 unfold setField updateField;split
 ·refine bj (vX _ _) λo=>?_
  split
  ·split
   ·exact uQ _ _ (Fg _ _ hi)
   ·exact dX _
  ·exact dX _
 ·exact dX _
theorem jC(e:Value)(f:Option Addr):KD (setFlight e f):=by
 unfold setFlight;refine bj (nX _ _) λtb=>?_
 split
 ·exact il _ _ _
 ·exact bT _
theorem CT(env:Env)(outer:List Env):KD (behindIsImport env outer):=by
 unfold behindIsImport;split
 ·exact bT _
 ·split
  ·exact bT _
  ·exact bj (nX _ _) λ_=>bT _
theorem Fi:KD underTheClaimsCaller:=by
 unfold underTheClaimsCaller;exact bj rS λ_=>bT _
theorem JL(env:Env)(b:Bool)(l:List Env):KD (keptBack env b l):=by
 unfold keptBack;split
 ·split
  ·exact bT _
  ·exact bj Fi λ_=>bT _
 ·exact bT _
theorem x6:∀l:List Env,KD (readyFrames l)
 | []=>bT _
 | env::outer=>by
  unfold readyFrames;split
  ·refine bj (vX _ _) λo=>?_
   split
   ·exact bT _
   ·refine bj (CT _ _) λb=>bj (JL _ _ _) λv=>bj (uQ _ _ λo=>⟨⟨rfl,λz=>z⟩,λz=>by obtain⟨c,d,dt,sl⟩:=o;cases dt<;>exact z⟩) λ_=>x6 outer
  ·exact dX _
theorem rT(l:List Env):KD (frameObject l):=by
 unfold frameObject;split
 ·exact bT _
 ·exact bj (x6 _) λ_=>bT _
theorem vY:KD frameEnvs:=by
 unfold frameEnvs;exact bj rS λ_=>bT _
theorem rV(env:Env):KD (PySem.frameOf env):=by
 unfold PySem.frameOf;refine bj vY λl=>bj (rT _) λr=>?_
 split
 ·exact bT _
 ·exact dX _
theorem x8(f:Addr)(b:Bool):KD (entryPlaceOf f b):=by
 unfold entryPlaceOf;refine bj rS λl=>?_
 split
 ·exact bT _
 ·exact bT _
theorem qg(a b c d e:Value)(pl:List Value):KD (EntryCells.newEntry a b c d e pl):=by
 unfold EntryCells.newEntry newFields newObj newObjAsIs;generalize ([a,b,c,d,e]++if pl.isEmpty=true then List.replicate 6 Value.none else pl).toArray=ws;dsimp only;split
 ·exact bj (dX _) λ_=>bj (x5 _) λ_=>bT _
 ·exact bj (x5 _) λ_=>bT _
theorem By(e:Value)(env:Env):KD (noteFrame e env):=by
 unfold noteFrame;split
 ·refine bj (nX _ _) λhd=>?_
  dsimp only;split
  ·refine bj (nX _ _) λx=>?_
   split
   ·exact bT _
   ·exact bj (il _ _ _) λ_=>bj (rV _) λ_=>bj (x8 _ _) λ_=>bj (qg _ _ _ _ _ _) λ_=>il _ _ _
  ·exact bj (rV _) λ_=>bj (x8 _ _) λ_=>bj (qg _ _ _ _ _ _) λ_=>il _ _ _
 ·exact dX _
theorem rW(env:Env)(e:Value):KD (leaving env e):=bj (By e env) λ_=>jC e none
def mW(h:Heap)(a:Addr)(dd:Option Addr):Prop:=∃o,h.get? a=some o/\o.dict=dd/\(dd=none->Cn o)
theorem mW.dk{h h':Heap}{a:Addr}{dd:Option Addr}(d:mW h a dd)(k:Dk h h'):mW h' a dd :=
 let ⟨o,e,q,c⟩:=d;let ⟨o',e',q',c'⟩:=k a o e;⟨o',e',q'.trans q,λz=>c' (c z)⟩
def zq(P:Program)(w:World):zD:=λouter H s E e s'=>∃(a C t:Addr) (H':Hp) (B:Heap) (dd:Option Addr),e=.ref a/\s'.os=s.os/\AllBare s'.gens/\Ea P w outer H H' s.heap B a (.ref C) (.ref t) s'.heap/\mW s'.heap a dd/\E (.ref C) dd H'
def del(H:Hp)(a:Addr):Hp:=λb=>if b=a then none else H b
theorem Fj{H:Hp}{a:Addr}:del H a a=none:=by unfold del;rw[if_pos rfl]
theorem kF{H:Hp}{a b:Addr}(h:b≠a):del H a b=H b:=by unfold del;rw[if_neg h]
def Yd(X:Cx)(E:XK):Prop:=∀(pins:List (Addr×Obj)) (σ:St) (H:Hp) (s:Shared) (a C:Addr) (dx:Option Addr),Inv X pins σ H s->X.s₀.heap.objs.size<=a->H a=some (.ext (XP C a dx))->E (.ref C) dx (del H a)->X.xe (.ref a) s
section
variable {P:Program} {w:World} {K:aC} {mg:Str->Option Value} {base:Heap} {N:List Str} {qual:Str} {scope:Scope} {f:Addr} {cd:Value} {A:Around} {outer:List Env} {s₀:Shared} {H₀:Hp} {E:XK}
theorem OK:Yd (rL (zq P w) P w K mg base N qual scope f cd A outer s₀ H₀ E) E:=by
 intro pins σ H s a C dx I ZT hHa hE
 let env:=envOfC qual scope s₀.heap.objs.size f cd
 have hf:env.frame=some s₀.heap.objs.size:=rfl;have ZU:s₀.heap.objs.size<=a:=ZT;obtain⟨⟨t0,hg⟩,_,_⟩:=I.hok a _ hHa;have hst:=I.stack
 have nfa:a∉p9 (env::outer):=λhb=>by
  have:=I.qZ a hb;rw[this]at hHa;cases hHa
 let hid:=a::p9 (env::outer)
 have hBs:(hideAll s.heap hid).StaysIn s.heap:=λb o q=>of_hideAll _ q
 have hin:∀v∈(env::outer),∀b,v.frame=some b->b∈hid:=λv hv b hb=>aa4 _ (ab4.mpr ⟨v,hv,hb⟩)
 have hFF:s.heap.FunFrames (hideAll s.heap hid) (env::outer):=funFrames_hide hst hin;have hBa:(hideAll s.heap hid).get? a=none:=hideAll_none _ aaN;show wpAny _ _ (leaving env (.ref a)) _ _ _;have lib:=wpAny_leaving_firstW (M:=model P w) (A:=(rL (zq P w) P w K mg base N qual scope f cd A outer s₀ H₀ E).A) (E:=λ_ _=>False) (s:=s) (Q:=λ_ s'=>∃h',s'={s with heap:=h'}/\Heap.LeftW (hideAll s.heap hid) (env::outer) a (.ref C) (.ref t0) s.heap h') (I.ok.frames) hFF hf hg hBs hBa rfl rfl rfl λh' L=>⟨h',rfl,L⟩
 refine aaJ (kE (rW env (.ref a)) lib) (λ_ s' z=>?_) λ_ _ z=>z.elim
 obtain⟨⟨h2,rfl,k1,⟨_,_,k2⟩,k3,x4⟩,dk⟩:=z
 have ni:∀b o,s₀.heap.get? b=some o->b∉p9 outer->b∉hid:=λb o q nb hb=>by
  rcases aap.mp hb with z | z
  ·exact absurd (aah q) (by rw[z];exact Nat.not_lt.mpr ZU)
  ·rcases (c7 hf).mp z with z | z
   ·exact absurd (aah q) (by rw[z];exact aa1 _)
   ·exact nb z
 refine⟨a,C,t0,del H a,_,dx,rfl,I.os,I.bare,⟨λb o q n nb=>?_,λb o q nb=>?_,λb o q hb=>?_,λb o q n=>?_,λb xs q=>?_,λb o u q=>?_,λb ps q=>?_,λb u q=>?_,⟨k1,hBa,k2,k3⟩⟩,mW.dk ⟨_,hg,rfl,λ_=>⟨_,rfl,rfl⟩⟩ dk,hE⟩
 ·exact hideAll_get _ (I.base.keep b o q n nb (by intro z;cases z)) (ni b o q nb)
 ·obtain⟨o',q'⟩:=I.base.there b o q (by intro z;cases z);exact⟨o',hideAll_get _ q' (ni b o q nb)⟩
 ·obtain⟨sl,q'⟩:=I.base.slot b o q (I.ok.frf b hb) hb (by intro z;cases z);obtain⟨_,o',ho',hn⟩:=hst.mem ((c7 hf).mpr (.inr hb));rw[q']at ho';have e1:=aax ho';obtain⟨sl',q2⟩:=x4 b _ q' (by rw[e1];exact hn);exact⟨sl',q2⟩
 ·have:=I.base.free b o q n (by intro z;cases z);unfold del;split
  ·rfl
  ·exact this
 ·have:=I.base.tups b xs q;rw[kF (rC this hHa (by intro z;cases z))];exact this
 ·have:=I.base.eM b o u q;rw[kF (rC this hHa (by intro z;cases z))];exact this
 ·obtain⟨m1,e1⟩:=I.base.tbls b ps q;exact⟨m1,by rw[kF (rC e1 hHa (by intro z;cases z))];exact e1⟩
 ·have hba:b≠a:=λz=>by subst z;rw[Fj]at q;cases q
  rw[kF hba]at q
  have nf:∀c v,H c=some v->c≠a->c∉hid:=λc v q' hca hb=>by
   rcases aap.mp hb with z | z
   ·exact hca z
   ·have:=I.qZ c z;rw[this]at q';cases q'
  have no:∀c,H c=some (.own b)->c≠a:=λc q'=>rC q' hHa (by intro z;cases z)
  refine(I.hok b u q).tQ (λc v hc q'=>hideAll_get _ q' ?_) (λc q'=>by rw[kF (no c q')];exact q') λc xs q'=>by rw[kF (rC q' hHa (by intro z;cases z))];exact q'
  rcases hc with z | z
  ·rw[z];exact nf b u q hba
  ·exact nf c _ z (no c z)
theorem JM:Passes (zq P w) (rL (zq P w) P w K mg base N qual scope f cd A outer s₀ H₀ E) E:=by
 intro pins σ H s e s' I hc;obtain⟨a,C,t,H',B,dd,rfl,ho,hb,F,hdd,hE⟩:=hc
 let env:=envOfC qual scope s₀.heap.objs.size f cd
 have hf:env.frame=some s₀.heap.objs.size:=rfl;have F':Ea P w (env::outer) H H' s.heap B a (.ref C) (.ref t) s'.heap:=F;show wpAny _ _ (leaving env (.ref a)) _ _ _;have lib:=wpAny_leaves_onW (M:=model P w) (A:=(rL (zq P w) P w K mg base N qual scope f cd A outer s₀ H₀ E).A) (E:=λ_ _=>False) (s:=s')
  (Q:=λ_ s2=>∃h2,s2={s' with heap:=h2}/\Heap.FlyingW B outer a (.ref C) (.ref t) h2/\s'.heap.UpToSlots h2) (I.ok.frames) hf F'.fly λh2 x1 x4=>⟨h2,rfl,x1,x4⟩
 refine aaJ (kE (rW env (.ref a)) lib) (λ_ s2 z=>?_) λ_ _ z=>z.elim
 obtain⟨⟨h2,rfl,x1,x4⟩,dk⟩:=z
 have ni:∀b o,s₀.heap.get? b=some o->b∉p9 outer->b∉p9 (env::outer):=λb o q nb hb=>by
  rcases (c7 hf).mp hb with z | z
  ·exact absurd (aah q) (by rw[z];exact aa1 _)
  ·exact nb z
 refine⟨a,C,t,H',B,dd,rfl,ho.trans I.os,hb,⟨λb o q n nb=>?_,λb o q nb=>?_,λb o q hb=>?_,λb o q n=>?_,λb xs q=>F'.tups b xs (I.base.tups b xs q),λb o u q=>F'.eM b o u (I.base.eM b o u q),λb ps q=>?_,F'.hok,x1⟩,hdd.dk dk,hE⟩
 ·exact F'.keep b o (I.base.keep b o q n nb (by intro z;cases z)) (I.base.free b o q n (by intro z;cases z)) (ni b o q nb)
 ·obtain⟨o',q'⟩:=I.base.there b o q (by intro z;cases z);exact F'.there b o' q' (ni b o q nb)
 ·obtain⟨sl,q'⟩:=I.base.slot b o q (I.ok.frf b hb) hb (by intro z;cases z);obtain⟨Od,q2⟩:=F'.slot b _ q' ((c7 hf).mpr (.inr hb));obtain⟨_,o',ho',hn⟩:=F'.fly.2.2.1.mem ((c7 hf).mpr (.inr hb));rw[q2]at ho';have e1:=aax ho';obtain⟨sl',q3⟩:=x4 b _ q2 (by rw[e1];exact hn);exact⟨sl',q3⟩
 ·obtain⟨o',q'⟩:=I.base.there b o q (by intro z;cases z);exact F'.free b o' q' (I.base.free b o q n (by intro z;cases z))
 ·obtain⟨m1,e1⟩:=I.base.tbls b ps q;obtain⟨m2,e2⟩:=F'.tbls b _ e1;exact⟨m1++m2,by rw[e2,Array.append_assoc]⟩
theorem fe.Ye{x qual:Str}{st:Stmt}{f:Addr}{fd:FuncData}{N ps:List Str}{k:Nat}{sp:Sp}(F:fe K x qual st f fd)(S:aH N ps (dS st))(len:∀vs H Q E,sp vs H Q E->vs.length=ps.length)
  (hbody:∀(cdv:Value) (A:Around) (outer:List Env) (s:Shared) (H:Hp) (vs:List V) (Q:VK) (E:XK),dW k (A.deeper (envOfC qual (dS st) s.heap.objs.size f cdv))->sp vs H Q E ->
   ∃t,qD (rL (zq P w) P w K mg base N qual (dS st) f cdv A outer s H E) (dB st) t/\t {nx:=λ_ H'=>Q .non H',rt:=Q} (start N vs) H):bK P w K mg base (zq P w) (k + 1) f fd ps sp:=by
 obtain⟨oc,od,kV,doc,pm,an,cdv,ct,osl,rfl,lk,hcd⟩:=F.ex;exact MB lk hcd S len λA outer s H vs Q E hr hsp=>hbody cdv A outer s H vs Q E hr hsp
end
theorem OL{X:Cx}{x:Str}{k:Nat}{ps:List Str}{sp:Sp}{e:Expr}{es:List Expr}{t:TA}{p pos:Pos}{E:XK}(h:dw X.prog X.w X.K X.mg X.base (zq X.prog X.w) x k ps sp)(hx:Passes (zq X.prog X.w) X E)(hr:dW k X.A)(hg:Gl X x)(ha:PA X (e::es) t)(hdb:(x == ("__debug__" : Str))=false:=by decide)
  (he:starEach (e::es) X.env=(false,eval e X.env)::starEach es X.env:=by rfl) (hpl:(backTo pos (starEach es X.env)).any (·.1)=false:=by rfl) :
  PE X (.Call (.Name x p) (e::es) [] pos) (Bi sp [] E t):=by
 obtain⟨f,fd,F,b,kp,m⟩:=h.ex;exact Bj F hr hg m kp b .nil hx ha hdb he hpl
section
variable {M:Model} {A:Around} {E:Value->Shared->Prop} {env:Env} {nm qn:Str} {C Nc:Addr} {bs bm:List Value} {hdct:Bool} {sn:List Str} {sub:List Value} {ab:Bool} {col:Option Bool} {dd:Option Addr} {k0 k1 k2 k3 k5:Option Value} {newId:String}
theorem CU{s:Shared}{x:Sem Value}{Q:Flow->Shared->Prop}(hb:bm.contains (.type "BaseException")=true)(hh:A.handled=none)
  (h:wpAny M A x (λv s1=>∃e t0 dx,v=.ref e/\s1.heap.get? C=some (excClassObj nm qn C Nc bs bm hdct sn sub ab col dd k0 k1 k2 k3 k5 newId) /\
   s1.heap.get? e=some {cls:=.ref C,dict:=dx,data:=.fields #[.ref t0,.none,.none,.none,.bool false,.none]}/\E (.ref e) s1) E s):wpAny M A (raiseStmt env (some x) none) Q E s:=by
 have hB:(Value.ref C::bm).contains (.type "BaseException")=true:=by rw[List.contains_cons,hb,Bool.or_true]
 unfold raiseStmt;refine wpAny_bind (wpAny_mono h (λv s1 z=>?_) λ_ _ z=>z);obtain⟨e,t0,dx,rfl,gC,ge,hE⟩:=z;obtain⟨hp,g,d,tk,os⟩:=s1
 repeat (first | with_reducible refine aaA ge ?_ | (with_reducible refine ab1 gC ?_;rw[hB]) | with_reducible refine aaA gC ?_ | wp_step)
 exact wpAny_raiseNew_none hh hE
end
def JN(C:Addr)(fs:List Str)(E:XK)(t:TA):TS:=λ_ σ H=>t σ H λvs H1=>vs.length=fs.length/\∀dx H2,H1 dx=none->aK H1 H2->H2 dx=some (.ext (XD dx (fs.zip vs)))->E (.ref C) (some dx) H2
section
variable {X:Cx} {C:Addr} {fs:List Str} {x:Str} {np cpos pos:Pos} {e:Expr} {es:List Expr} {t:TA} {E:XK}
theorem CV(hz:Yd X E)(M:OJ X.prog X.w X.K X.mg X.base C fs)(hr:dW 2 X.A)(hg:Gl X x)(hm:X.mg x=some (.ref C))(hc:X.calm=true)(ha:PA X (e::es) t)(hdb:(x == ("__debug__" : Str))=false:=by decide)
  (he:starEach (e::es) X.env=(false,eval e X.env)::starEach es X.env:=by rfl) (hpl:(backTo cpos (starEach es X.env)).any (·.1)=false:=by rfl) :
  PS X (.Raise (some (.Call (.Name x np) (e::es) [] cpos)) none pos) (JN C fs E t):=by
 intro pins s σ H D I h;obtain⟨f,fd,M',F',b⟩:=M.ini;obtain⟨bx,hbx⟩:=M'.ex;obtain⟨bm,N,nm,qn,bs,sn,sub,ab,col,dd,k0,k1,k2,k3,k5,mN,hC,hn,T,_⟩:=rn I.mod.kin hbx;rw[arm_exec_Raise];refine aae (abO (CU (C:=C) (nm:=nm) (qn:=qn) (Nc:=N) (bs:=bs) (bm:=bm) (hdct:=true) (sn:=sn) (sub:=sub) (ab:=ab) (col:=col) (dd:=dd) (k0:=k0) (k1:=k1) (k2:=k2) (k3:=k3) (k5:=k5) (newId:=OE bx) (T.hasType (X:="BaseException") (b:=true) (EX bx)) (I.ok.hd hc) ?_));refine aae (aaJ (?_:wpAny (model X.prog X.w) X.A (eval (.Call (.Name x np) (e::es) [] cpos) X.env) _ X.xe s) (λv s1 z=>aae (abO (aar z))) λ_ _ z=>z);refine abi (nM I hg hm ?_ hdb);refine ab5 (h₀:=X.base) I.ok.mod.kin M'.kp (cU (ha cpos pins s σ H _ I h) λus s1 ⟨vs,H1,I1,r,hl,q⟩=>⟨I1.nK,?_⟩) he hpl;refine aaJ (CQ (dvs:=[]) M' F' hr.low b .nil MD I1 r (by rw[hl,sizeLine_eq];have:=M.le;omega) (Q:=λv H2=>∃a dx,v=.ref a/\s1.heap.objs.size<=a/\H2 a=some (.ext (XP C a (some dx)))/\E (.ref C) (some dx) (del H2 a)) λa hsz hn'=>⟨a,C,vs++[],rfl,by rw[aaM];exact hl,M.s,M.no,uS,λdx hd hda=>⟨rfl,a,dx,rfl,hsz,uS,?_⟩⟩) (λu s' z=>?_) λ_ _ z=>z
 ·rw[uN hda]at hd;refine q dx _ hd (λc o z=>?_) ?_
  ·rw[kF (nN z hn'),uN (nN z hn'),uN (nN z hd),uN (nN z hn')];exact z
  ·rw[kF hda,uN hda,uS,aaM]
 ·obtain⟨v,H2,I2,rv,a,dx,rfl,hsz,hHa,hE⟩:=z;cases rv;obtain⟨⟨t0,g0⟩,_,_⟩:=I2.hok a _ hHa;exact⟨a,t0,_,rfl,I2.bk _ _ hC,g0,hz pins σ H2 s' a C (some dx) I2 (aau I1.sz hsz) hHa hE⟩
end
def MM(C a:Addr)(dd:Option Addr):Heap->Prop:=λh=>∃o vs,h.get? a=some o/\o.cls=.ref C/\o.data=.fields vs/\o.dict=dd
theorem Bz{C a:Addr}{dd:Option Addr}(h:Heap)(p:MM C a dd h):ExcAt C a h:=let ⟨o,vs,q1,q2,q3,_⟩:=p;⟨o,vs,q1,q2,q3⟩
theorem OM{C a dx:Addr}(h:Heap)(p:MM C a (some dx) h):XG C a dx h:=let ⟨o,vs,q1,q2,q3,q4⟩:=p;⟨o,vs,q1,q2,q4,q3⟩
def Fl(K:aC)(CW:Addr)(i:Nat)(tb:TS)(D:Ends)(σ:St):XK:=λcls dd H2=>∃C,cls=.ref C/\PySem.W.mroIn K C (.ref CW)=some true /\
 ∀a,H2 a=none->tb {nx:=λσ' H'=>D.nx (σ'.set i none) H',rt:=D.rt,bk:=λσ' H'=>D.bk (σ'.set i none) H',ct:=λσ' H'=>D.ct (σ'.set i none) H'} (σ.set i (some (.ref a))) (upd H2 a (.ext (MM C a dd)))
section
variable {X:Cx} {CW:Addr} {cx n:Str} {i:Nat} {b₀:Stmt} {suite:List Stmt} {np hpos pos:Pos} {tb:TS}
theorem JO{pins:List (Addr×Obj)}{σ:St}{H:Hp}{s s1:Shared}{D:Ends}{e:Value}(hst:X.stack=X.env::X.outer)(hf:X.env.frame=some X.env.locals)(hg:Gl X cx)(hm:X.mg cx=some (.ref CW))(q:PySem.W.ktsIn X.K CW "BaseException"=true)
  (hN:X.N.Nodup) (hi:X.N[i]?=some n) (hk:X.env.kindOf n=some .local) (hs:∀a E,qD (X.hand a E) (b₀::suite) tb) (hd:(cx == ("__debug__" : Str))=false) (hex:X.ex=[])
  (I:Inv X pins σ H s) (hc:zq X.prog X.w X.stack H s (Fl X.K CW i tb D σ) e s1) :
  wpAny (model X.prog X.w) X.A (noteFrame e X.env) (λ_ s₂=>wpAny (model X.prog X.w) X.A (setFlight e none) (λ_ s₃ =>
   wpAny (model X.prog X.w) X.A (handleBy e X.env [.ExceptHandler (some (.Name cx np)) (some n) (b₀::suite) hpos]) (SP X pins D) X.xe s₃) X.xe s₂) X.xe s1:=by
 obtain⟨a,C,t,H',B,dd,rfl,ho,hb,F,hdd,C',hC',hsub,hE⟩:=hc;cases hC';have hfr:X.A.frames=some (X.env::X.outer):=by rw[← hst];exact I.ok.frames
 have F0:Ea X.prog X.w (X.env::X.outer) H H' s.heap B a (.ref C) (.ref t) s1.heap:=by rw[← hst];exact F
 have lib1:=wpAny_looks_onW (M:=model X.prog X.w) (A:=X.A) (E:=X.xe) (s:=s1) (Q:=λ_ s'=>∃h4,s'={s1 with heap:=h4}/\Heap.HeldW B (X.env::X.outer) a (.ref C) (.ref t) X.env.locals h4/\s1.heap.UpToSlots h4) hfr hf F0.fly λh4 Fm UZ=>⟨h4,rfl,Fm,UZ⟩
 refine aaJ (kE (By (.ref a) X.env) lib1) (λ_ s4 z4=>?_) λ_ _ z=>z
 obtain⟨⟨h4,rfl,Fm,UZ⟩,ZV⟩:=z4;have lib2:=wpAny_landsW (M:=model X.prog X.w) (A:=X.A) (E:=X.xe) (s:={s1 with heap:=h4}) (Q:=λ_ s'=>∃h5,s'={s1 with heap:=h5}/\Heap.FlyingW B (X.env::X.outer) a (.ref C) (.ref t) h5/\h4.UpToSlots h5) Fm λh5 Sw U0=>⟨h5,rfl,Sw,U0⟩
 refine aaJ (kE (jC (.ref a) none) lib2) (λ_ s5 z5=>?_) λ_ _ z=>z
 obtain⟨⟨h5,rfl,Sw,U0⟩,ZW⟩:=z5;have ZX:mW h5 a dd:=(hdd.dk ZV).dk ZW
 have inv:∀(h:Heap) (tk:Nat),Heap.FlyingW B (X.env::X.outer) a (.ref C) (.ref t) h->s1.heap.UpToSlots h->Inv X pins σ H' {s1 with heap:=h,toks:=tk}:=λh tk fl sm=>by
  have Fh:=F0.on fl sm;refine I.Mu (ch:=[]) ho (by rw[hst];exact Fh.un) Fh.VT hb (λb z=>nomatch z)
 have I5:=inv h5 s1.toks Sw (UZ.trans U0);obtain⟨oe,vs,g1,g2,g3,g4⟩:=Sw.first;refine wpAny_handleBy_cons (codeAny_handlers_test ?_) (by intro q;cases q);refine nM (X:=X.hand a λ_ _=>False) (I5.hand a _) hg hm ?_ hd;refine excMatches_K I5.nK g1 g2 q hsub (codeAny_handlers_suite_as ?_);have VX:∀A3:Around,wpAny (model X.prog X.w) A3 (setFlight (.ref a) none) (λ_ s'=>∃h6,s'={s1 with heap:=h6}/\Heap.FlyingW B (X.env::X.outer) a (.ref C) (.ref t) h6/\h5.UpToSlots h6) (λ_ _=>False) {s1 with heap:=h5}:=λA3=>lands_againW (s:={s1 with heap:=h5}) Sw λh6 Ro VY=>⟨h6,rfl,Ro,VY⟩
 refine aaJ (kE (jC (.ref a) none) (VX _)) (λ_ s6 z6=>?_) λ_ _ z=>z.elim
 obtain⟨⟨h6,rfl,Ro,VY⟩,ZY⟩:=z6;obtain⟨od6,ZZ,Z0,_⟩:mW h6 a dd:=ZX.dk ZY;have I6:=inv h6 s1.toks Ro ((UZ.trans U0).trans VY);obtain⟨oe,vs,g1,g2,g3,g4⟩:=Ro.first;have nH:H' a=none:=F0.new;have nB:B.get? a=none:=Ro.2.1
 have nf:a∉p9 (X.env::X.outer):=λhm=>by
  obtain⟨_,o,ho',hn'⟩:=Ro.2.2.1.mem hm;rw[g1]at ho';cases ho';exact hn' _ g3
 have hL:a≠X.env.locals:=λz=>nf ((c7 hf).mpr (.inl z))
 have hfs:a∉X.fs:=λz=>nf ((c7 hf).mpr (.inr z))
 have old:∀b o,s.heap.get? b=some o->b≠a:=λb o e z=>by
  subst z;obtain⟨o',e'⟩:=F0.there b o e nf;rw[nB]at e';cases e'
 have h1:X.s₀.heap.get? a=none:=by
  cases e:X.s₀.heap.get? a with
  | none=>rfl
  | some o =>
   obtain⟨o',e'⟩:=I.base.there a o e (by rw[hex];exact λz=>nomatch z);exact absurd rfl (old a o' e')
 have hcc:∀x c,X.env.cells.lookup x=some c->c≠a:=λx c e z=>by
  obtain⟨v,o,ho',hd'⟩:=I6.cell x c e;have D9:h6.get? c=some o:=ho';rw[z,g1]at D9;cases D9;rw[g3]at hd';cases hd'
 have hpp:∀p∈X.pn++pins,p.1≠a:=λp hp z=>by
  have:=(I.pin p hp).1;exact old _ _ this z
 have qd:oe.dict=dd:=by
  have z:h6.get? a=some oe:=g1;rw[ZZ]at z;cases z;exact Z0
 have I7:=I6.adopt (φ:=MM C a dd) nH h1 hL hfs hcc hpp ⟨⟨oe,vs,g1,g2,g3,qd⟩,⟨oe,g1⟩,λu v ⟨o,ws,q1,q2,q3,q4⟩ k=>⟨o,ws,k o q1,q2,q3,q4⟩⟩;refine pd I7 hN hi (.inl hk) (v:=.ref a) rfl (λs8 I8 _=>?_) (.inr hk);refine aaJ (hs a _ pins s8 _ _ _ (I8.hand a _) (hE a nH)) (λfl s9 h9=>?_) (λ_ _ z=>z)
 cases fl with
 | next =>
  obtain⟨σ',H9,I9,q9⟩:=h9;exact Bx (I9.vU I.ok) hN hi hk λs' I'=>⟨_,H9,I',q9⟩
 | brk =>
  obtain⟨σ',H9,I9,q9⟩:=h9;exact Bx (I9.vU I.ok) hN hi hk λs' I'=>⟨_,H9,I',q9⟩
 | cont =>
  obtain⟨σ',H9,I9,q9⟩:=h9;exact Bx (I9.vU I.ok) hN hi hk λs' I'=>⟨_,H9,I',q9⟩
 | ret u =>
  obtain⟨v,σ',H9,I9,r9,q9⟩:=h9;exact Bx (I9.vU I.ok) hN hi hk λs' I'=>⟨v,_,H9,I',r9,q9⟩
end
section
variable {κ:Type} [DecidableEq κ]
def tV(kvs:List (κ×V))(k:κ):Option V:=(kvs.find? λkv=>decide (kv.1=k)).map (·.2)
def putK(kvs:List (κ×V))(k:κ)(v:V):List (κ×V) :=
 if (kvs.any λkv=>decide (kv.1=k))=true then kvs.map (λkv=>if kv.1=k then(kv.1,v)else kv)else kvs++[(k,v)]
theorem x9{p:κ×V}{r:List (κ×V)}{k:κ}(e:p.1=k):tV (p::r) k=some p.2:=by simp[tV,List.find?_cons,e]
theorem ya{p:κ×V}{r:List (κ×V)}{k:κ}(e:¬ p.1=k):tV (p::r) k=tV r k:=by simp[tV,List.find?_cons,e]
theorem qC.uR{o:Option V}{u:Option Value}(r:qC o u):o.isSome=u.isSome:=by
 cases o with
 | none=>cases u with
  | none=>rfl
  | some _=>exact(show False from r).elim
 | some _=>cases u with
  | none=>exact(show False from r).elim
  | some _=>rfl
theorem KV.val{kvs:List (κ×V)}{vs:List (κ×Value)}(r:KV kvs vs)(k:κ):qC (tV kvs k) (valueAt vs k):=by
 unfold KV at r
 induction r with
 | nil=>exact abj
 | @cons p q ps qs h t ih =>
  obtain⟨h1,h2⟩:=h;by_cases e:p.1=k
  ·have e':q.1=k:=h1.symm.trans e;have b:valueAt (q::qs) k=some q.2:=by simp[valueAt,List.find?_cons,e']
   rw[x9 e,b];exact h2
  ·have e':¬ q.1=k:=λz=>e (h1.trans z)
   have b:valueAt (q::qs) k=valueAt qs k:=by simp[valueAt,List.find?_cons,e']
   rw[ya e,b];exact ih
end
theorem MN{P:Program}{w:World}{k:Key}{u:Value}(r:RelV (kV k) u):(eN P w).is k u=true:=by
 cases k with
 | inl i=>obtain⟨t,e⟩:=(show ∃t,u=Value.int i t from r);subst e;exact xK P w i t
 | inr x=>obtain⟨t,e⟩:=(show ∃t,u=Value.str x t from r);subst e;exact xM P w x t
theorem uT{P:Program}{w:World}:∀{ks:List Key} {us:List Value},Vals (ks.map kV) us->ItemsAre (eN P w) ks us
 | [],_,r=>by rw[acS]at r;cases r;exact .nil
 | k::ks,_,r=>by
  rw[aa7]at r
  cases r with
  | cons h t=>exact .cons (MN h) (uT t)
abbrev KT(H:Hp):List (List Key×V)->List (List Key×Addr×Value)->Prop:=Paired λp q=>p.1=q.1/\H q.2.1=some (.tup (p.1.map kV))/\RelV p.2 q.2.2
theorem KT.val{H:Hp}{kvs:List (List Key×V)}{xs:List (List Key×Addr×Value)}(r:KT H kvs xs)(k:List Key):qC (tV kvs k) ((atKey xs k).map (·.2)):=by
 induction r with
 | nil=>exact abj
 | @cons p q ps qs h t ih =>
  obtain⟨h1,_,h2⟩:=h;by_cases e:p.1=k
  ·have e':q.1=k:=h1.symm.trans e;have b:atKey (q::qs) k=some q.2:=by simp[atKey,List.find?_cons,e']
   rw[x9 e,b];exact h2
  ·have e':¬ q.1=k:=λz=>e (h1.trans z)
   have b:atKey (q::qs) k=atKey qs k:=by simp[atKey,List.find?_cons,e']
   rw[ya e,b];exact ih
section
variable {P:Program} {w:World} {H:Hp} {h:Heap} {a:Addr}
theorem MO{u:HO}(ok:nJ P w H h)(e:Rd H a u):dU P w H h a u:=e.ok ok
theorem Sx{kvs:List (Key×V)}(ok:nJ P w H h)(e:Rd H a (.dK kvs)):kvs.length<=sizeLine/\(a == sysModules)=false/\∃vs,KV kvs vs/\h.DictOf (eN P w) a vs :=
 show dU P w H h a (.dK kvs)from MO ok e
theorem Fo{ks:List Key}(ok:nJ P w H h)(e:H a=some (.tup (ks.map kV))):(tupleKind (eN P w)).is h ks a:=by
 obtain⟨_,its,r,o,h1,h2,n,h3⟩:=(show dU P w H h a (.tup (ks.map kV))from ok a _ e);exact⟨o,its.toArray,n,h1,h2,h3,by simpa using uT r⟩
theorem Sy{kvs:List (List Key×V)}(ok:nJ P w H h)(e:Rd H a (.dT kvs)):kvs.length<=sizeLine/\(a == sysModules)=false /\
  ∃xs,KT H kvs xs/\h.DictOfH (tupleKind (eN P w)) a xs:=by
 obtain⟨z,y,xs,r,o,es,ep,h1,h2,h3,h4,h5⟩:=(show dU P w H h a (.dT kvs)from MO ok e);refine⟨z,y,xs,r,o,es,ep,h1,h2,h3,h4,λx hx=>?_,h5⟩
 have all:∀{l:List (List Key×V)} {m:List (List Key×Addr×Value)},KT H l m->∀x∈m,(tupleKind (eN P w)).is h x.1 x.2.1:=by
  intro l m q
  induction q with
  | nil=>intro x hx;exact nomatch hx
  | @cons p q ps qs hq t ih =>
   intro x hx;rcases aap.mp hx with e | hx
   ·subst e;exact Fo ok (by rw[← hq.1];exact hq.2.1)
   ·exact ih x hx
 exact all r x hx
end
def Fp(H:Hp)(a:Addr)(y:V)(r:Option V):Prop :=
 (∃kvs k,Rd H a (.dK kvs)/\y=kV k/\r=tV kvs k)∨∃kvs k b,Rd H a (.dT kvs)/\y=.ref b/\H b=some (.tup (k.map kV))/\r=tV kvs k
theorem Fp.k{H:Hp}{a:Addr}{kvs:List (Key×V)}{k:Key}(e:H a=some (.dK kvs)):Fp H a (kV k) (tV kvs k):=.inl ⟨kvs,k,.inl e,rfl,rfl⟩
section
variable {X:Cx} {pins:List (Addr×Obj)} {σ:St} {H:Hp} {s:Shared} {a:Addr} {y v:V} {u r:Value} {o:Option V} {A:Around} {E:Value->Shared->Prop}
theorem JP{Q:Value->Shared->Prop}(hu:A.units + 1 < cLine)(I:Inv X pins σ H s)(g:Fp H a y o)(ry:RelV y u)(h:∀s',Inv X pins σ H s'->Q (.bool (!o.isSome)) s'):
  wpAny (model X.prog X.w) A (compareOp .NotIn u (.ref a)) Q E s:=by
 rcases g with⟨kvs,k,e,ey,l⟩ | ⟨kvs,k,b,e,ey,eb,l⟩
 ·subst ey;obtain⟨z,hd,vs,rel,dd⟩:=Sx I.hok e;refine wpAny_notIn_of (MN ry) hd dd.mapOf ?_;rw[← (rel.val k).uR,← l];exact h _ (I.tok _)
 ·subst ey;cases (show u=Value.ref b from ry);obtain⟨z,hd,xs,rel,dd⟩:=Sy I.hok e;refine wpAny_notIn_heap (tupleKind_room_in1 hu) (Fo I.hok eb) hd dd ?_;have q:=(rel.val k).uR;rw[Option.isSome_map]at q;rw[← q,← l];exact h _ (I.tok _)
end
section
variable {X:Cx} {pins:List (Addr×Obj)} {σ:St} {H:Hp} {s:Shared} {a:Addr} {kvs:List (Key×V)} {k:Key} {u:Value} {A:Around} {E:Value->Shared->Prop}
end
def JQ(ty td:TE):TE:=λσ H Q=>ty σ H λy H1=>td σ H1 λx H2=>∃a o,x=.ref a/\Fp H2 a y o/\Q (.bl (!o.isSome)) H2
section
variable {X:Cx} {o i e value:Expr} {pos pos' tpos:Pos} {td ty tv:TE}
theorem CY(hu:X.A.units + 1 < cLine)(hi:PE X i ty)(ho:PE X o td):PC X .NotIn i o (JQ ty td):=by
 intro pins s σ H Q I h;refine cU (hi pins s σ H _ I h) λiv s1 ⟨y,H1,I1,ry,q1⟩=>cU (ho pins s1 σ H1 _ I1 q1) λu s2 ⟨x,H2,I2,rx,a,ov,ex,g,q2⟩=>?_
 subst ex;obtain rfl:u=Value.ref a:=rx;exact JP hu I2 g ry λs3 I3=>⟨.bl (!ov.isSome),H2,I3,rfl,q2⟩
end
section
variable {X:Cx} {pos:Pos}
end
theorem BA(ns:List Int):∀k,k<=ns.length->preSum (λi=>(ns[i]?).getD 0) k=(ns.take k).sum
 | 0,_=>rfl
 | k + 1,h=>by
  have ih:=BA ns k (by omega);rw[preSum,ih,ace,cW (by omega),List.sum_append];show _ + ns[k]=_ + (ns[k] + 0);rw[Int.add_zero]
section
variable {X:Cx}
def MP(K:aC):List V->Hp->VK->Prop:=λxs H Q=>∃(p:Addr) (ns:List Int),xs=[.ref p]/\cG K H p (ns.map V.int)/\Q (.int ns.sum) H
theorem CZ(hc:X.calm=true):eO X (.builtin "sum") (MP X.K):=by
 intro pins s σ H xs us Q I r h;obtain⟨p,ns,rfl,hS,q⟩:=h;obtain⟨u,rfl,ru⟩:=vals1 r;cases ru;obtain⟨its,rv,pl,hz⟩:=I.list hS
 have hlen:its.toArray.size=ns.length:=by
  have:=rv.length;simp at this;simp[this]
 have hlt:p < s.heap.objs.size:=by obtain⟨o,n,e,_⟩:=pl;exact aah e
 refine call_sum_walkG (abK pl.isList ?_);refine⟨s.heap.objs.size,_,_,its.toArray.size,_,_,λi=>(ns[i]?).getD 0,rfl,Walks.list (show X.A.in1.handled=none from I.ok.hd hc) _ _ (aam hlt) its.toArray,⟨⟨_,aas _ rfl,rfl,rfl⟩,pl.isList.push _⟩,?_,?_,λh' tk t' k=>?_⟩
 ·intro b hb;have sz:(s.heap.push {cls:=.type "list_iterator",data:=.fields #[.ref p,.int 0 0]}).objs.size=s.heap.objs.size + 1:=abq ..;rcases aap.mp hb with e | e
  ·rw[e];show _ < (s.heap.push _).objs.size;rw[abq];exact Nat.lt_succ_self _
  ·rw[jr e];show _ < (s.heap.push _).objs.size;rw[abq];exact Nat.lt_succ_of_lt hlt
 ·intro i v hv
  have hi:i < ns.length:=by
   rw[← hlen];exact(aca.mp hv).1
  obtain⟨u',hu',t,ru'⟩:=rv.get (i:=i) (x:=.int ns[i]) (by rw[List.getElem?_map,cW hi];rfl);have e:its[i]?=some v:=by simpa using hv
  rw[hu']at e;cases e;show ∃t,v=Value.int ((ns[i]?).getD 0) t;rw[cW hi];exact⟨t,ru'⟩
 ·rw[hlen,BA ns _ (Nat.le_refl _),List.take_length];exact⟨.int _,H,I.kept (t':=tk) λb o e=>k b o (by simpa using Nat.ne_of_lt (Heap.lt_size e)) (Heap.get?_push_of_some _ e),⟨t',rfl⟩,q⟩
end
def ke(P:Addr->Prop)(H HX:Hp):Prop:=∀c o,¬ P c->H c=some o->HX c=some o
open Classical in
noncomputable def cutH (P:Addr->Prop) (H:Hp):Hp:=λc=>if P c then none else H c
theorem bG{P:Addr->Prop}{H:Hp}{c:Addr}{o:HO}:cutH P H c=some o↔¬ P c/\H c=some o:=by
 unfold cutH;by_cases h:P c
 ·rw[aan h];exact⟨(λz=>nomatch z),(λz=>absurd h z.1)⟩
 ·rw[aak h];exact⟨λz=>⟨h,z⟩,λz=>z.2⟩
theorem cP{P:Addr->Prop}{H:Hp}:aK (cutH P H) H:=λ_ _ e=>(bG.mp e).2
def aJ(K:aC)(P:Addr->Prop)(H:Hp)(v:V)(d:PyData):Prop:=aO K (cutH P H) v d
theorem ke.refl{P:Addr->Prop}{H:Hp}:ke P H H:=λ_ _ _ e=>e
theorem ke.of{P:Addr->Prop}{H H':Hp}(s:aK H H'):ke P H H':=λc o _ e=>s c o e
theorem ke.trans{P:Addr->Prop}{H H1 H2:Hp}(a:ke P H H1)(b:ke P H1 H2):ke P H H2:=λc o n e=>b c o n (a c o n e)
theorem aJ.now{K:aC}{P:Addr->Prop}{H:Hp}{v:V}{d:PyData}(h:aJ K P H v d):aO K H v d:=aO.same cP h
theorem gc{P P':Addr->Prop}{H H':Hp}(s:∀c o,¬ P c->H c=some o->¬ P' c/\H' c=some o):aK (cutH P H) (cutH P' H'):=λc o e=>by
 obtain⟨h1,h2⟩:=bG.mp e;exact bG.mpr (s c o h1 h2)
theorem aJ.sub{K:aC}{P P':Addr->Prop}{H:Hp}{v:V}{d:PyData}(h:aJ K P H v d)(s:∀c,P' c->P c):aJ K P' H v d:=aO.same (gc λc o n e=>⟨λz=>n (s c z),e⟩) h
theorem aJ.same{K:aC}{P:Addr->Prop}{H H':Hp}{v:V}{d:PyData}(h:aJ K P H v d)(s:aK H H'):aJ K P H' v d:=aO.same (gc λc o n e=>⟨n,s c o e⟩) h
inductive DV where
 | dat (d:PyData) | ref (k:Nat)
def jd(o:HO):Prop:=(∃xs,o=.lst xs)∨(∃C dx fs,o=.ins C dx fs)∨∃φ,o=.ext φ
structure Ob where
 lies:aC->(Addr->Prop)->Hp->List Addr->Prop
 keep:∀K P H fp P' H',lies K P H fp->(∀c,P c->∃o,H c=some o/\jd o)->(∀a∈fp,∀o,H a=some o->H' a=some o)->aK (cutH P H) (cutH P' H')->lies K P' H' fp
 mu:∀K P H fp,lies K P H fp->∀a∈fp,∃o,H a=some o/\jd o
inductive Ce where
 | live (ds:List PyData) | froz (ds:List PyData) | deep (xs:List DV) | obj (o:Ob)
@[reducible] def Ce.lv:Ce->Bool
 | .froz _=>false
 | _=>true
abbrev bQ:=List (Option DV)
abbrev aI:=List Ce
def Lv(al:List (List Addr))(st:aI):Addr->Prop:=λc=>∃(k:Nat) (fp:List Addr) (ce:Ce),al[k]?=some fp/\c∈fp/\st[k]?=some ce/\ce.lv=true
def Fb(G:Addr->Prop)(al:List (List Addr))(st:aI):Addr->Prop:=λc=>G c∨Lv al st c
def gM(K:aC)(P:Addr->Prop)(H:Hp)(al:List (List Addr))(v:V):DV->Prop
 | .dat d=>aJ K P H v d
 | .ref k=>∃a r,al[k]?=some (a::r)/\v=.ref a
def cu{α:Type}(R:V->α->Prop)(ys:List V)(xs:List α):Prop:=ys.length=xs.length/\∀(i:Nat) y x,ys[i]?=some y->xs[i]?=some x->R y x
def JR(K:aC)(P:Addr->Prop)(H:Hp)(al:List (List Addr))(fp:List Addr):Ce->Prop
 | .live xs=>∃a ys,fp=[a]/\H a=some (.lst ys)/\cu (aJ K P H) ys xs
 | .froz ds=>∃a,fp=[a]/\aJ K P H (.ref a) (.list ds)
 | .deep xs=>∃a ys,fp=[a]/\H a=some (.lst ys)/\cu (gM K P H al) ys xs
 | .obj o=>fp≠[]/\o.lies K P H fp
structure YK where
 Y:Hp->(Addr->Prop)->(Addr->Prop)->Prop
 up:∀H0 A0 G G',(∀c,G c->G' c)->Y H0 A0 G->Y H0 A0 G'
def y0:YK:=⟨λ_ _ _=>True,λ_ _ _ _ _ h=>h⟩
structure KF where
 K:aC
 y:YK
instance:CoeOut KF aC:=⟨KF.K⟩
@[reducible] def k0(K:aC):KF:=⟨K,y0⟩
@[reducible] def kf(X:Cx)(Y:YK):KF:=⟨X.K,Y⟩
structure DI(J:KF)(H0:Hp)(A0:Addr->Prop)(G:Addr->Prop)(al:List (List Addr))(H:Hp)(st:aI):Prop where
 len:al.length=st.length
 nd:al.flatten.Nodup
 ok:∀a∈al.flatten,∃o,H a=some o
 cel:∀(k:Nat) fp c,al[k]?=some fp->st[k]?=some c->JR J (Fb G al st) H al fp c
 fr:ke A0 H0 H
 nw:∀a∈al.flatten,A0 a∨H0 a=none
 gd:∀a∈al.flatten,¬ G a
 gs:∀c,G c->∃o,H c=some o/\jd o
 lk:J.y.Y H0 A0 G
def kG(K:aC)(P:Addr->Prop)(H:Hp)(al:List (List Addr))(s:St)(env:bQ):Prop:=s.length=env.length/\∀(i:Nat) dv,env[i]?=some (some dv)->∃v,s[i]?=some (some v)/\gM K P H al v dv
structure Ext(al:List (List Addr))(H:Hp)(st:aI)(al':List (List Addr))(H':Hp)(st':aI):Prop where
 keep:ke (Lv al st) H H'
 pre:∀(k:Nat) a r,al[k]?=some (a::r)->∃r',al'[k]?=some (a::r')
 nws:∀c∈al'.flatten,c∈al.flatten∨H c=none
 lv:∀c,Lv al' st' c->Lv al st c∨H c=none
theorem Ext.refl{al:List (List Addr)}{H:Hp}{st:aI}:Ext al H st al H st:=⟨.refl,λ_ _ r h=>⟨r,h⟩,λ_ h=>.inl h,λ_ h=>.inl h⟩
theorem Ext.free{al al':List (List Addr)}{H H':Hp}{st st':aI}(e:Ext al H st al' H' st'){c:Addr}(h:H' c=none)(hl:¬ Lv al st c):H c=none:=by
 cases q:H c with
 | none=>rfl
 | some o=>rw[e.keep c o hl q]at h;cases h
theorem gO{al:List (List Addr)}{k:Nat}{fp:List Addr}{a:Addr}(h:al[k]?=some fp)(ha:a∈fp):a∈al.flatten:=abw.mpr ⟨fp,aaf h,ha⟩
theorem Lv.mem{al:List (List Addr)}{st:aI}{c:Addr}(h:Lv al st c):c∈al.flatten:=by
 obtain⟨k,fp,ce,h1,h2,_⟩:=h;exact gO h1 h2
theorem kH:∀{al:List (List Addr)},al.flatten.Nodup->∀{i j:Nat} {f g:List Addr} {a:Addr},al[i]?=some f->al[j]?=some g->a∈f->a∈g->i=j
 | [],_,i,j,f,g,a,h1,_,_,_=>by simp at h1
 | x::r,nd,i,j,f,g,a,h1,h2,m1,m2=>by
  rw[aaQ,List.nodup_append]at nd
  cases i with
  | zero =>
   cases j with
   | zero=>rfl
   | succ j =>
    simp at h1 h2;subst h1;exact absurd rfl (nd.2.2 a m1 a (gO h2 m2))
  | succ i =>
   cases j with
   | zero =>
    simp at h1 h2;subst h2;exact absurd rfl (nd.2.2 a m2 a (gO h1 m1))
   | succ j =>
    simp at h1 h2;exact congrArg (· + 1) (kH nd.2.1 h1 h2 m1 m2)
section
variable {K:aC} {J:KF} {H0:Hp} {A0:Addr->Prop} {G:Addr->Prop} {al bu cy:List (List Addr)} {H H1 H2:Hp} {st aF bJ:aI}
theorem Ext.trans(I1:DI J H0 A0 G bu H1 aF)(a:Ext al H st bu H1 aF)(b:Ext bu H1 aF cy H2 bJ):Ext al H st cy H2 bJ:=by
 refine⟨λc o n e=>b.keep c o (λz=>?_) (a.keep c o n e),λk x r h=>?_,λc hc=>?_,λc hc=>?_⟩
 ·rcases a.lv c z with y | y
  ·exact n y
  ·rw[y]at e;cases e
 ·obtain⟨r1,h1⟩:=a.pre k x r h;exact b.pre k x r1 h1
 ·rcases b.nws c hc with z | z
  ·exact a.nws c z
  ·by_cases w:Lv al st c
   ·exact .inl w.mem
   ·exact .inr (a.free z w)
 ·rcases b.lv c hc with z | z
  ·exact a.lv c z
  ·by_cases w:Lv al st c
   ·exact .inl w
   ·exact .inr (a.free z w)
theorem dM{G1:Addr->Prop}(g:∀c,G1 c->G c∨H c=none)(e:Ext al H st bu H1 aF):aK (cutH (Fb G al st) H) (cutH (Fb G1 bu aF) H1):=gc λc o n q=>by
 refine⟨λz=>?_,e.keep c o (λw=>n (.inr w)) q⟩;rcases z with z | z
 ·rcases g c z with w | w
  ·exact n (.inl w)
  ·rw[w]at q;cases q
 ·rcases e.lv c z with w | w
  ·exact n (.inr w)
  ·rw[w]at q;cases q
theorem aJ.je{G1:Addr->Prop}{v:V}{d:PyData}(h:aJ K (Fb G al st) H v d)(g:∀c,G1 c->G c∨H c=none)(e:Ext al H st bu H1 aF):aJ K (Fb G1 bu aF) H1 v d:=aO.same (dM g e) h
theorem aJ.ext{v:V}{d:PyData}(h:aJ K (Fb G al st) H v d)(e:Ext al H st bu H1 aF):aJ K (Fb G bu aF) H1 v d:=h.je (λ_ z=>.inl z) e
theorem gM.d{P:Addr->Prop}{v:V}{d:PyData}(h:aJ K P H v d):gM K P H al v (.dat d):=h
theorem gM.je{G1:Addr->Prop}{v:V}{dv:DV}(h:gM K (Fb G al st) H al v dv)(g:∀c,G1 c->G c∨H c=none)(e:Ext al H st bu H1 aF):gM K (Fb G1 bu aF) H1 bu v dv:=by
 cases dv with
 | dat d=>exact aJ.je h g e
 | ref k =>
  obtain⟨a,r,h1,h2⟩:=h;obtain⟨r',h3⟩:=e.pre k a r h1;exact⟨a,r',h3,h2⟩
theorem gM.ext{v:V}{dv:DV}(h:gM K (Fb G al st) H al v dv)(e:Ext al H st bu H1 aF):gM K (Fb G bu aF) H1 bu v dv:=h.je (λ_ z=>.inl z) e
theorem cu.imp{α:Type}{R R':V->α->Prop}{ys:List V}{xs:List α}(h:cu R ys xs)(f:∀y x,R y x->R' y x):cu R' ys xs:=⟨h.1,λi y x a b=>f y x (h.2 i y x a b)⟩
theorem cu.nil{α:Type}{R:V->α->Prop}:cu R [] []:=⟨rfl,λi y x h=>by simp at h⟩
theorem cu.cons{α:Type}{R:V->α->Prop}{y:V}{x:α}{ys:List V}{xs:List α}(h:R y x)(r:cu R ys xs):cu R (y::ys) (x::xs):=⟨by simp[r.1],λi a b h1 h2=>by
 cases i with
 | zero=>simp at h1 h2;subst h1;subst h2;exact h
 | succ i=>exact r.2 i a b (by simpa using h1) (by simpa using h2)⟩
theorem cu.append{α:Type}{R:V->α->Prop}{ys zs:List V}{xs us:List α}(h:cu R ys xs)(h':cu R zs us):cu R (ys++zs) (xs++us):=by
 refine⟨by simp[h.1,h'.1],λj z u hz hu=>?_⟩;by_cases hj:j < ys.length
 ·rw[aab hj]at hz;rw[aab (by rw[← h.1];exact hj)]at hu;exact h.2 j z u hz hu
 ·rw[aaj (by omega)]at hz;rw[aaj (by rw[← h.1];omega),← h.1]at hu;exact h'.2 _ z u hz hu
theorem cu.take{α:Type}{R:V->α->Prop}{ys:List V}{xs:List α}(h:cu R ys xs)(n:Nat):cu R (ys.take n) (xs.take n):=by
 refine⟨by rw[aaG,aaG,h.1],λj y k hy hk=>?_⟩;have hj:j < (ys.take n).length:=(bX hy).1;rw[aaG]at hj;rw[abD (by omega)]at hy hk;exact h.2 _ y k hy hk
theorem cu.drop{α:Type}{R:V->α->Prop}{ys:List V}{xs:List α}(h:cu R ys xs)(n:Nat):cu R (ys.drop n) (xs.drop n):=by
 refine⟨by rw[aaW,aaW,h.1],λj y k hy hk=>?_⟩;rw[aa9]at hy hk;exact h.2 _ y k hy hk
theorem cu.set{α:Type}{R:V->α->Prop}{ys:List V}{xs:List α}{y:V}{x:α}(h:cu R ys xs)(hy:R y x)(i:Nat):cu R (ys.set i y) (xs.set i x):=by
 refine⟨by rw[aaz,aaz,h.1],λj z u hz hu=>?_⟩;rw[acf]at hz hu;by_cases hj:i=j
 ·subst hj;rw[aan rfl]at hz hu;split at hz
  ·split at hu
   ·cases hz;cases hu;exact hy
   ·cases hu
  ·cases hz
 ·rw[aak hj]at hz hu;exact h.2 j z u hz hu
theorem cu.at{α:Type}{R:V->α->Prop}{ys:List V}{xs:List α}(h:cu R ys xs){i:Nat}{x:α}(hx:xs[i]?=some x):∃y,ys[i]?=some y/\R y x:=by
 have hi:i < ys.length:=by rw[h.1];exact(bX hx).1
 exact⟨ys[i],cW hi,h.2 i _ x (cW hi) hx⟩
theorem cu.Sz{α β:Type}{R:V->β->Prop}{f:α->β}{ys:List V}{xs:List α}(h:cu R ys (xs.map f)):cu (λy x=>R y (f x)) ys xs:=by
 refine⟨by rw[h.1,aac],λi y x hy hx=>?_⟩;exact h.2 i y (f x) hy (by rw[aaq,hx];rfl)
theorem kG.je{G1:Addr->Prop}{s:St}{env:bQ}(h:kG K (Fb G al st) H al s env)(g:∀c,G1 c->G c∨H c=none)(e:Ext al H st bu H1 aF):kG K (Fb G1 bu aF) H1 bu s env:=⟨h.1,λi dv hi=>by
 obtain⟨v,h1,h2⟩:=h.2 i dv hi;exact⟨v,h1,h2.je g e⟩⟩
theorem kG.ext{s:St}{env:bQ}(h:kG K (Fb G al st) H al s env)(e:Ext al H st bu H1 aF):kG K (Fb G bu aF) H1 bu s env:=h.je (λ_ z=>.inl z) e
theorem kG.set{P:Addr->Prop}{s:St}{env:bQ}{v:V}{dv:DV}(h:kG K P H al s env)(hv:gM K P H al v dv)(i:Nat):kG K P H al (s.set i (some v)) (env.set i (some dv)):=by
 refine⟨by rw[aaz,aaz];exact h.1,λj u hu=>?_⟩;rw[acf]at hu;by_cases hj:i=j
 ·subst hj;rw[aan rfl]at hu;split at hu
  ·rename_i hl;cases hu;exact⟨v,by rw[aao (by rw[h.1];exact hl)],hv⟩
  ·cases hu
 ·rw[aak hj]at hu;obtain⟨w,h1,h2⟩:=h.2 j u hu;exact⟨w,by rw[aat hj];exact h1,h2⟩
theorem aJ.dn{P:Addr->Prop}{v:V}{ds:List PyData}(h:aJ K P H v (.list ds)):∃(a:Addr) (ys:List V),v=.ref a/\cG K H a ys/\cG K (cutH P H) a ys/\cu (aJ K P H) ys ds:=by
 have h:aO K (cutH P H) v (.list ds):=h
 cases h with
 | lst hS hl hi=>exact⟨_,_,rfl,cP.seq hS,hS,hl,hi⟩
theorem aJ.bq{P:Addr->Prop}{v:V}{ds:List PyData}(h:aJ K P H v (.tuple ds)):∃(a:Addr) (ys:List V),v=.ref a/\bz K H a ys/\bz K (cutH P H) a ys/\cu (aJ K P H) ys ds:=by
 have h:aO K (cutH P H) v (.tuple ds):=h
 cases h with
 | tup hS hl hi=>exact⟨_,_,rfl,cP.tup hS,hS,hl,hi⟩
theorem aJ.aU{P:Addr->Prop}{v:V}{i:Int}(h:aJ K P H v (.int i)):v=.int i:=by
 have h:aO K (cutH P H) v (.int i):=h;cases h;rfl
theorem aJ.c8{P:Addr->Prop}{v:V}{i:Str}(h:aJ K P H v (.str i)):v=.str i:=by
 have h:aO K (cutH P H) v (.str i):=h;cases h;rfl
theorem aJ.jf{P:Addr->Prop}{v:V}{i:Bool}(h:aJ K P H v (.bool i)):v=.bl i:=by
 have h:aO K (cutH P H) v (.bool i):=h;cases h;rfl
theorem aJ.gQ{P:Addr->Prop}{v:V}(h:aJ K P H v .none):v=.non:=by
 have h:aO K (cutH P H) v .none:=h;cases h;rfl
theorem aJ.lst{P:Addr->Prop}{a:Addr}{ys:List V}{ds:List PyData}(n:¬ P a)(h:H a=some (.lst ys))(r:cu (aJ K P H) ys ds):aJ K P H (.ref a) (.list ds):=aO.lst (cG.of (bG.mpr ⟨n,h⟩)) r.1 r.2
theorem aJ.tup{P:Addr->Prop}{a:Addr}{ys:List V}{ds:List PyData}(n:¬ P a)(h:H a=some (.tup ys))(r:cu (aJ K P H) ys ds):aJ K P H (.ref a) (.tuple ds):=aO.tup (bz.of (bG.mpr ⟨n,h⟩)) r.1 r.2
theorem Ext.same(s:aK H H1):Ext al H st al H1 st:=⟨.of s,λ_ _ r h=>⟨r,h⟩,λ_ z=>.inl z,λ_ z=>.inl z⟩
theorem Ext.new{a:Addr}{o:HO}(h:H a=none):Ext al H st al (upd H a o) st:=.same λc p e=>by rw[uN (nN e h)];exact e
theorem JR.je{G1:Addr->Prop}{fp:List Addr}{c:Ce}(h:JR K (Fb G al st) H al fp c)(g:∀c,G1 c->G c∨H c=none)(e:Ext al H st bu H1 aF)(hP:∀c,Fb G al st c->∃o,H c=some o/\jd o)(k:c.lv=true->∀a∈fp,∀o,H a=some o->H1 a=some o):JR K (Fb G1 bu aF) H1 bu fp c:=by
 cases c with
 | live xs =>
  obtain⟨a,ys,h0,h1,h2⟩:=h;exact⟨a,ys,h0,k rfl a (by rw[h0];exact aaS.mpr rfl) _ h1,h2.imp λy x z=>aJ.je z g e⟩
 | froz ds =>
  obtain⟨a,h0,h1⟩:=h;exact⟨a,h0,aJ.je h1 g e⟩
 | deep xs =>
  obtain⟨a,ys,h0,h1,h2⟩:=h;exact⟨a,ys,h0,k rfl a (by rw[h0];exact aaS.mpr rfl) _ h1,h2.imp λy x z=>gM.je z g e⟩
 | obj o=>exact⟨h.1,o.keep _ _ _ _ _ _ h.2 hP (k rfl) (dM g e)⟩
theorem JR.ext{fp:List Addr}{c:Ce}(h:JR K (Fb G al st) H al fp c)(e:Ext al H st bu H1 aF)(hP:∀c,Fb G al st c->∃o,H c=some o/\jd o)(k:c.lv=true->∀a∈fp,∀o,H a=some o->H1 a=some o):JR K (Fb G bu aF) H1 bu fp c:=h.je (λ_ z=>.inl z) e hP k
theorem DI.pq(I:DI J H0 A0 G al H st){c:Addr}(h:Fb G al st c):∃o,H c=some o/\jd o:=by
 rcases h with h | ⟨k,fp,ce,h1,h2,h3,h4⟩
 ·exact I.gs c h
 ·have z:=I.cel k fp ce h1 h3
  cases ce with
  | live xs=>obtain⟨a,ys,rfl,g,_⟩:=z;rw[jr h2];exact⟨_,g,.inl ⟨_,rfl⟩⟩
  | froz ds=>cases h4
  | deep xs=>obtain⟨a,ys,rfl,g,_⟩:=z;rw[jr h2];exact⟨_,g,.inl ⟨_,rfl⟩⟩
  | obj o=>exact o.mu _ _ _ _ z.2 c h2
theorem DI.same(I:DI J H0 A0 G al H st)(s:aK H H1):DI J H0 A0 G al H1 st:=⟨I.len,I.nd,(λa ha=>by obtain⟨o,e⟩:=I.ok a ha;exact⟨o,s _ _ e⟩),(λk a c h1 h2=>(I.cel k a c h1 h2).ext (.same s) (λc hc=>I.pq hc) λ_ a _ o e=>s _ _ e),(λc o n e=>s c o (I.fr c o n e)),I.nw,I.gd,(λc hc=>by obtain⟨o,e,m⟩:=I.gs c hc;exact⟨o,s _ _ e,m⟩),I.lk⟩
theorem DI.new(I:DI J H0 A0 G al H st){a:Addr}{o:HO}(h:H a=none):DI J H0 A0 G al (upd H a o) st:=I.same λc p e=>by rw[uN (nN e h)];exact e
theorem DI.C0(I:DI J H0 A0 G al H st){a:Addr}(h:H a=none):¬ Fb G al st a:=by
 intro z;rcases z with z | z
 ·obtain⟨o,e,_⟩:=I.gs a z;rw[h]at e;cases e
 ·obtain⟨o,e⟩:=I.ok a z.mem;rw[h]at e;cases e
theorem DI.n0(I:DI J H0 A0 G al H st){a:Addr}(h:H a=none):A0 a∨H0 a=none:=by
 cases q:H0 a with
 | none=>exact .inr rfl
 | some o =>
  by_cases w:A0 a
  ·exact .inl w
  ·rw[I.fr a o w q]at h;cases h
theorem DI.freeze(I:DI J H0 A0 G al H st){k:Nat}{fp:List Addr}{ds:List PyData}(ha:al[k]?=some fp)(hs:st[k]?=some (.live ds)):∃a,fp=[a]/\Ext al H st al H (st.set k (.froz ds))/\DI J H0 A0 G al H (st.set k (.froz ds))/\aJ J (Fb G al (st.set k (.froz ds))) H (.ref a) (.list ds):=by
 have hk:=(bX hs).1
 have E:Ext al H st al H (st.set k (.froz ds)):=⟨.refl,λ_ _ r h=>⟨r,h⟩,λ_ z=>.inl z,λc ⟨j,f,ce,h1,h2,h3,h4⟩=>by
  by_cases e:k=j
  ·subst e;rw[aao hk]at h3;cases h3;cases h4
  ·rw[aat e]at h3;exact .inl ⟨j,f,ce,h1,h2,h3,h4⟩⟩
 obtain⟨a,ys,rfl,g1,g2⟩:=I.cel k fp _ ha hs
 have na:¬ Fb G al (st.set k (.froz ds)) a:=λz=>by
  rcases z with z | ⟨j,f,ce,h1,h2,h3,h4⟩
  ·exact I.gd a (gO ha (aaS.mpr rfl)) z
  ·have:=kH I.nd ha h1 (aaS.mpr rfl) h2;subst this;rw[aao hk]at h3;cases h3;cases h4
 have F:aJ J (Fb G al (st.set k (.froz ds))) H (.ref a) (.list ds):=.lst na g1 (g2.imp λy x z=>aJ.ext z E);refine⟨a,rfl,E,⟨by rw[aaz];exact I.len,I.nd,I.ok,λj b c h1 h2=>?_,I.fr,I.nw,I.gd,I.gs,I.lk⟩,F⟩;by_cases e:k=j
 ·subst e;rw[aao hk]at h2;rw[ha]at h1;cases h1;cases h2;exact⟨a,rfl,F⟩
 ·rw[aat e]at h2;exact(I.cel j b c h1 h2).ext E (λc hc=>I.pq hc) λ_ _ _ o q=>q
theorem DI.more(I:DI J H0 A0 G al H st){fp:List Addr}{c:Ce}(fr:∀a∈fp,H a=none)(nd:fp.Nodup)(s:aK H H1)(ok:∀a∈fp,∃o,H1 a=some o)(hc:JR J (Fb G (al++[fp]) (st++[c])) H1 (al++[fp]) fp c):Ext al H st (al++[fp]) H1 (st++[c])/\DI J H0 A0 G (al++[fp]) H1 (st++[c]):=by
 have nal:∀a∈fp,a∉al.flatten:=λa ha z=>by obtain⟨o,e⟩:=I.ok a z;rw[fr a ha]at e;cases e
 have mem:∀c∈(al++[fp]).flatten,c∈al.flatten∨c∈fp:=λc hc=>by
  rw[abA,abn]at hc;exact aaE.mp hc
 have E:Ext al H st (al++[fp]) H1 (st++[c]):=⟨.of s,λk a r h=>⟨r,by rw[aab (bX h).1];exact h⟩,λc hc=>by
   rcases mem c hc with z | z
   ·exact .inl z
   ·exact .inr (fr c z),λc ⟨j,f,ce,h1,h2,h3,h4⟩=>by
  by_cases e:j < al.length
  ·rw[aab e]at h1;rw[aab (by rw[← I.len];exact e)]at h3;exact .inl ⟨j,f,ce,h1,h2,h3,h4⟩
  ·rw[aaj (by omega)]at h1;have:=aaf h1;rw[jr this]at h2;exact .inr (fr c h2)⟩
 refine⟨E,⟨by simp[I.len],?_,λc hc=>?_,λj b c' h1 h2=>?_,λc o n e=>s c o (I.fr c o n e),λc hc=>?_,λc hc=>?_,λc hc=>?_,I.lk⟩⟩
 ·rw[abA,abn,List.nodup_append];exact⟨I.nd,nd,λx hx y hy z=>nal y hy (z ▸ hx)⟩
 ·rcases mem c hc with z | z
  ·obtain⟨o,e⟩:=I.ok c z;exact⟨o,s _ _ e⟩
  ·exact ok c z
 ·by_cases e:j < al.length
  ·rw[aab e]at h1;rw[aab (by rw[← I.len];exact e)]at h2;exact(I.cel j b c' h1 h2).ext E (λc hc=>I.pq hc) λ_ _ _ o q=>s _ _ q
  ·have hj:j=al.length:=by have:=(bX h1).1;simp at this;omega
   subst hj;rw[aaj (aag _),aa0]at h1;rw[I.len,aaj (aag _),aa0]at h2;cases h1;cases h2;exact hc
 ·rcases mem c hc with z | z
  ·exact I.nw c z
  ·exact I.n0 (fr c z)
 ·rcases mem c hc with z | z
  ·exact I.gd c z
  ·exact λw=>I.C0 (fr c z) (.inl w)
 ·obtain⟨o,e,m⟩:=I.gs c hc;exact⟨o,s _ _ e,m⟩
theorem DI.cell(I:DI J H0 A0 G al H st){a:Addr}{ys:List V}{xs:List PyData}(h:H a=none)(hy:cu (aJ J (Fb G al st) H) ys xs):Ext al H st (al++[[a]]) (upd H a (.lst ys)) (st++[.live xs])/\DI J H0 A0 G (al++[[a]]) (upd H a (.lst ys)) (st++[.live xs]):=by
 have s:aK H (upd H a (.lst ys)):=λc p e=>by rw[uN (nN e h)];exact e
 refine I.more (λc hc=>by rw[jr hc];exact h) (by simp) s (λc hc=>by rw[jr hc];exact⟨_,uS⟩) ⟨a,ys,rfl,uS,hy.imp λy x z=>aO.same (gc λc o n q=>⟨λw=>?_,s _ _ q⟩) z⟩;rcases w with w | ⟨j,f,ce,h1,h2,h3,h4⟩
 ·exact n (.inl w)
 ·by_cases e:j < al.length
  ·rw[aab e]at h1;rw[aab (by rw[← I.len];exact e)]at h3;exact n (.inr ⟨j,f,ce,h1,h2,h3,h4⟩)
  ·rw[aaj (by omega)]at h1;have:=aaf h1;rw[jr this]at h2;rw[jr h2,h]at q;cases q
theorem DI.turn(I:DI J H0 A0 G al H st){k:Nat}{a:Addr}{r r':List Addr}{c c':Ce}(ha:al[k]?=some (a::r))(hs:st[k]?=some c)(hl:c.lv=true)(kp:∀b o,b∉a::r->H b=some o->H1 b=some o)(nw:∀b∈r',b∈a::r∨H b=none)(ok:∀b∈a::r',∃o,H1 b=some o)(nd:(a::r').Nodup)(na:∀b∈r',b∉a::r->H b=none)
  (hc:aK (cutH (Fb G al st) H) (cutH (Fb G (al.set k (a::r')) (st.set k c')) H1)->JR J (Fb G (al.set k (a::r')) (st.set k c')) H1 (al.set k (a::r')) (a::r') c') (mu:∀b∈a::r,∃o,H b=some o/\jd o):Ext al H st (al.set k (a::r')) H1 (st.set k c')/\DI J H0 A0 G (al.set k (a::r')) H1 (st.set k c'):=by
 have hk:=(bX hs).1;have hka:=(bX ha).1;have lvk:∀b∈a::r,Lv al st b:=λb hb=>⟨k,_,c,ha,hb,hs,hl⟩
 have mem:∀b∈(al.set k (a::r')).flatten,b∈al.flatten∨H b=none:=λb hb=>by
  obtain⟨f,hf,hbf⟩:=abw.mp hb;rcases aaU hf with z | z
  ·exact .inl (abw.mpr ⟨f,z,hbf⟩)
  ·rw[z]at hbf;rcases aap.mp hbf with y | y
   ·rw[y];exact .inl (gO ha aaN)
   ·rcases nw b y with w | w
    ·exact .inl (gO ha w)
    ·exact .inr w
 have E:Ext al H st (al.set k (a::r')) H1 (st.set k c'):=⟨λb o n e=>kp b o (λz=>n (lvk b z)) e,λj b q h=>by
   by_cases e:k=j
   ·subst e;rw[ha]at h;cases h;exact⟨r',by rw[aao hka]⟩
   ·exact⟨q,by rw[aat e];exact h⟩,mem,λb ⟨j,f,ce,h1,h2,h3,h4⟩=>by
   by_cases e:k=j
   ·subst e;rw[aao hka]at h1;cases h1;rcases aap.mp h2 with y | y
    ·rw[y];exact .inl (lvk a aaN)
    ·rcases nw b y with w | w
     ·exact .inl (lvk b w)
     ·exact .inr w
   ·rw[aat e]at h1 h3;exact .inl ⟨j,f,ce,h1,h2,h3,h4⟩⟩
 have keepOther:∀(j:Nat) f,k≠j->al[j]?=some f->∀b∈f,∀o,H b=some o->H1 b=some o:=λj f e hf b hb o q=>kp b o (λz=>e (kH I.nd ha hf z hb)) q
 have parted:∀b∈(al.set k (a::r')).flatten,b∈a::r'∨∃(j:Nat) (f:List Addr),k≠j/\al[j]?=some f/\b∈f:=λb hb=>by
  obtain⟨f,hf,hbf⟩:=abw.mp hb;obtain⟨j,hj⟩:=List.getElem?_of_mem hf;by_cases e:k=j
  ·subst e;rw[aao hka]at hj;cases hj;exact .inl hbf
  ·rw[aat e]at hj;exact .inr ⟨j,f,e,hj,hbf⟩
 refine⟨E,⟨by rw[aaz,aaz];exact I.len,?_,λb hb=>?_,λj f ce h1 h2=>?_,λb o n e=>?_,λb hb=>?_,λb hb=>?_,λb hb=>?_,I.lk⟩⟩
 ·unfold List.Nodup;rw[List.pairwise_flatten,List.pairwise_iff_getElem];have VZ:=I.nd;refine⟨λf hf=>?_,λi j hi hj hij x hx y hy=>?_⟩
  ·rcases aaU hf with z | z
   ·exact(List.pairwise_flatten.mp VZ).1 f z
   ·rw[z];exact nd
  ·intro e;subst e;have gi:=cW hi;have gj:=cW hj
   have far:∀(j:Nat) f,k≠j->al[j]?=some f->x∈f->x∈a::r'->False:=λj f e hf hxf hx'=>by
    by_cases w:x∈a::r
    ·exact e (kH VZ ha hf w hxf)
    ·rcases aap.mp hx' with z | z
     ·exact w (by rw[z];exact aaN)
     ·obtain⟨o,q⟩:=I.ok x (gO hf hxf);rw[na x z w]at q;cases q
   by_cases e1:k=i
   ·subst e1;have e2:k≠j:=by omega
    rw[aao hka]at gi;rw[aat e2]at gj;exact far j _ e2 gj hy (by rw[aax gi];exact hx)
   ·rw[aat e1]at gi;by_cases e2:k=j
    ·subst e2;rw[aao hka]at gj;exact far i _ e1 gi hx (by rw[aax gj];exact hy)
    ·rw[aat e2]at gj;exact absurd (kH VZ gi gj hx hy) (by omega)
 ·rcases parted b hb with z | ⟨j,f,e,hf,hbf⟩
  ·exact ok b z
  ·obtain⟨o,q⟩:=I.ok b (gO hf hbf);exact⟨o,keepOther j f e hf b hbf o q⟩
 ·by_cases e:k=j
  ·subst e;rw[aao hka]at h1;rw[aao hk]at h2;cases h1;cases h2;exact hc (dM (λ_ z=>.inl z) E)
  ·rw[aat e]at h1 h2;exact(I.cel j f ce h1 h2).ext E (λc hc=>I.pq hc) λ_ b hb o q=>keepOther j f e h1 b hb o q
 ·by_cases w:b∈a::r
  ·rcases I.nw b (gO ha w)with y | y
   ·exact absurd y n
   ·rw[y]at e;cases e
  ·exact kp b o w (I.fr b o n e)
 ·rcases mem b hb with z | z
  ·exact I.nw b z
  ·exact I.n0 z
 ·intro z;rcases mem b hb with w | w
  ·exact I.gd b w z
  ·exact I.C0 w (.inl z)
 ·obtain⟨o,q,m⟩:=I.gs b hb;refine⟨o,kp b o (λz=>I.gd b (gO ha z) hb) q,m⟩
theorem DI.put(I:DI J H0 A0 G al H st){k:Nat}{a:Addr}{zs xs:List PyData}{ys:List V}(ha:al[k]?=some [a])(hs:st[k]?=some (.live zs))(hy:cu (aJ J (Fb G al st) H) ys xs):Ext al H st al (upd H a (.lst ys)) (st.set k (.live xs))/\DI J H0 A0 G al (upd H a (.lst ys)) (st.set k (.live xs)):=by
 have ea:al.set k [a]=al:=by
  apply acg;intro j;by_cases e:k=j
  ·subst e;rw[aao (bX ha).1,ha]
  ·rw[aat e]
 obtain⟨b,ws,e0,g1,g2⟩:=I.cel k [a] _ ha hs;cases e0;have z:=I.turn (H1:=upd H a (.lst ys)) (r:=[]) (r':=[]) (c':=.live xs) ha hs rfl (λb o n e=>by rw[uN (λz=>n (by rw[z];exact List.mem_cons_self))];exact e) (λb hb=>nomatch hb) (λb hb=>by rw[jr hb];exact⟨_,uS⟩) (by simp) (λb hb=>nomatch hb) (λs=>⟨a,ys,rfl,uS,hy.imp λy x z=>aO.same s z⟩) (λb hb=>by rw[jr hb];exact⟨_,g1,.inl ⟨_,rfl⟩⟩);rw[ea]at z;exact z
theorem yb{k:Nat}{fp:List Addr}(ha:al[k]?=some fp):al.set k fp=al:=by
 apply acg;intro j;by_cases e:k=j
 ·subst e;rw[aao (bX ha).1,ha]
 ·rw[aat e]
theorem DI.putD(I:DI J H0 A0 G al H st){k:Nat}{a:Addr}{zs xs:List DV}{ys:List V}(ha:al[k]?=some [a])(hs:st[k]?=some (.deep zs))(hy:cu (gM J (Fb G al st) H al) ys xs):Ext al H st al (upd H a (.lst ys)) (st.set k (.deep xs))/\DI J H0 A0 G al (upd H a (.lst ys)) (st.set k (.deep xs)):=by
 obtain⟨b,ws,e0,g1,g2⟩:=I.cel k [a] _ ha hs;cases e0
 have z:=I.turn (H1:=upd H a (.lst ys)) (r:=[]) (r':=[]) (c':=.deep xs) ha hs rfl (λb o n e=>by rw[uN (λz=>n (by rw[z];exact List.mem_cons_self))];exact e) (λb hb=>nomatch hb) (λb hb=>by rw[jr hb];exact⟨_,uS⟩) (by simp) (λb hb=>nomatch hb) (λs=>⟨a,ys,rfl,uS,hy.imp λy x z=>by
    cases x with
    | dat d=>exact aO.same s z
    | ref j=>rw[yb ha];exact z⟩) (λb hb=>by rw[jr hb];exact⟨_,g1,.inl ⟨_,rfl⟩⟩)
 rw[yb ha]at z;exact z
theorem DI.Fq(I:DI J H0 A0 G al H st){p:Addr}{xs:List V}(h:bz J H p xs):bz J (cutH (Fb G al st) H) p xs:=by
 have n:∀o,H p=some o->¬ jd o->¬ Fb G al st p:=λo e m z=>by
  obtain⟨o',e',m'⟩:=I.pq z;rw[e]at e';cases e';exact m m'
 rcases h with(h | ⟨o,h⟩) | h
 ·exact .inl (.inl (bG.mpr ⟨n _ h (λm=>by rcases m with⟨ys,m⟩ | ⟨C,dx,fs,m⟩ | ⟨φ,m⟩<;>cases m),h⟩))
 ·exact .inl (.inr ⟨o,bG.mpr ⟨n _ h (λm=>by rcases m with⟨ys,m⟩ | ⟨C,dx,fs,m⟩ | ⟨φ,m⟩<;>cases m),h⟩⟩)
 ·exact .inr h
end
abbrev DC:=DV->aI->Prop
abbrev DX:=bQ->aI->DC->Prop
abbrev kI:=bQ->aI->(List DV->aI->Prop)->Prop
abbrev DT:=bQ->aI->(Bool->aI->Prop)->Prop
abbrev Rp:=DV->DV->aI->DC->Prop
abbrev V0:=List DV->aI->DC->Prop
def Kn(J:KF)(H0:Hp)(A0:Addr->Prop)(G:Addr->Prop)(al:List (List Addr))(H:Hp)(st:aI)(Q:DC)(R:VK):Prop:=∀dv st' al' v H',Ext al H st al' H' st'->DI J H0 A0 G al' H' st'->gM J (Fb G al' st') H' al' v dv->Q dv st'->R v H'
def SA(J:KF)(H0:Hp)(A0:Addr->Prop)(G:Addr->Prop)(al:List (List Addr))(H:Hp)(st:aI)(Q:Bool->aI->Prop)(R:Bool->Hp->Prop):Prop:=∀b st' al' H',Ext al H st al' H' st'->DI J H0 A0 G al' H' st'->Q b st'->R b H'
def Yg(J:KF)(H0:Hp)(A0:Addr->Prop)(G:Addr->Prop)(al:List (List Addr))(H:Hp)(st:aI)(Q:List DV->aI->Prop)(R:List V->Hp->Prop):Prop:=∀dvs st' al' vs H',Ext al H st al' H' st'->DI J H0 A0 G al' H' st'->cu (gM J (Fb G al' st') H' al') vs dvs->Q dvs st'->R vs H'
def AE(J:KF)(t:TE)(e:DX):Prop:=∀(H0:Hp) (A0:Addr->Prop) (G:Addr->Prop) (al:List (List Addr)) (H:Hp) (st:aI) (s:St) (env:bQ) (Q:DC) (R:VK),DI J H0 A0 G al H st->kG J (Fb G al st) H al s env->e env st Q->Kn J H0 A0 G al H st Q R->t s H R
def AT(J:KF)(t:TT)(e:DT):Prop:=∀(H0:Hp) (A0:Addr->Prop) (G:Addr->Prop) (al:List (List Addr)) (H:Hp) (st:aI) (s:St) (env:bQ) (Q:Bool->aI->Prop) (R:Bool->Hp->Prop),DI J H0 A0 G al H st->kG J (Fb G al st) H al s env->e env st Q->SA J H0 A0 G al H st Q R->t s H R
def AA(J:KF)(t:TA)(n:Nat)(e:kI):Prop:=∀(H0:Hp) (A0:Addr->Prop) (G:Addr->Prop) (al:List (List Addr)) (H:Hp) (st:aI) (s:St) (env:bQ) (Q:List DV->aI->Prop) (R:List V->Hp->Prop),DI J H0 A0 G al H st->kG J (Fb G al st) H al s env->e env st Q->Yg J H0 A0 G al H st (λl s=>l.length=n/\Q l s) R->t s H R
def AO(J:KF)(r:R2)(o:Rp):Prop:=∀(H0:Hp) (A0:Addr->Prop) (G:Addr->Prop) (al:List (List Addr)) (H:Hp) (st:aI) (x y:V) (dx dy:DV) (Q:DC) (R:VK),DI J H0 A0 G al H st->gM J (Fb G al st) H al x dx->gM J (Fb G al st) H al y dy->o dx dy st Q->Kn J H0 A0 G al H st Q R->r x y H R
def AB(J:KF)(r:List V->Hp->VK->Prop)(o:V0):Prop:=∀(H0:Hp) (A0:Addr->Prop) (G:Addr->Prop) (al:List (List Addr)) (H:Hp) (st:aI) (vs:List V) (ds:List DV) (Q:DC) (R:VK),DI J H0 A0 G al H st->cu (gM J (Fb G al st) H al) vs ds->o ds st Q->Kn J H0 A0 G al H st Q R->r vs H R
structure bw(X:Cx)(Y:YK)(e:Expr)(d:DX):Prop where
 h:∃t,PE X e t/\AE (kf X Y) t d
structure tP(X:Cx)(Y:YK)(e:Expr)(d:DT):Prop where
 h:∃t,PT X e t/\AT (kf X Y) t d
structure tW(X:Cx)(Y:YK)(e:Expr)(d:DT):Prop where
 h:∃t,PW X e t/\AT (kf X Y) t d
structure qG(X:Cx)(Y:YK)(es:List Expr)(n:Nat)(d:kI):Prop where
 h:∃t,PA X es t/\AA (kf X Y) t n d
section
variable {K:aC} {J:KF} {H0:Hp} {A0:Addr->Prop} {G:Addr->Prop} {al bu cy:List (List Addr)} {H H1 H2:Hp} {st aF bJ:aI} {Q:DC} {R:VK}
theorem Kn.here(k:Kn J H0 A0 G al H st Q R)(I:DI J H0 A0 G al H st){v:V}{dv:DV}(h:gM J (Fb G al st) H al v dv)(q:Q dv st):R v H:=k dv st al v H .refl I h q
theorem Kn.laid(k:Kn J H0 A0 G al H st Q R)(I:DI J H0 A0 G al H st){v:V}{dv:DV}(s:aK H H1)(h:gM J (Fb G al st) H1 al v dv)(q:Q dv st):R v H1:=k dv st al v H1 (.same s) (I.same s) h q
theorem Kn.go(k:Kn J H0 A0 G al H st Q R)(I:DI J H0 A0 G bu H1 aF)(e:Ext al H st bu H1 aF):Kn J H0 A0 G bu H1 aF Q R:=λdv st' al' v H' e' I' h q=>k dv st' al' v H' (e.trans I e') I' h q
theorem SA.go{Q:Bool->aI->Prop}{R:Bool->Hp->Prop}(k:SA J H0 A0 G al H st Q R)(I:DI J H0 A0 G bu H1 aF)(e:Ext al H st bu H1 aF):SA J H0 A0 G bu H1 aF Q R:=λdv st' al' H' e' I' q=>k dv st' al' H' (e.trans I e') I' q
theorem eT{a:Addr}{o:HO}(h:H a=none):aK H (upd H a o):=λc p e=>by rw[uN (nN e h)];exact e
end
@[reducible] def Fs(i:Nat)(env:bQ)(st:aI)(Q:DC):Prop:=match env[i]? with
 | some (some dv)=>Q dv st
 | _=>False
@[reducible] def eC(d:PyData)(_:bQ)(st:aI)(Q:DC):Prop:=Q (.dat d) st
section
variable {X:Cx} {Y:YK} {a b c e:Expr} {es:List Expr} {pos:Pos} {ea eb ec:DX}
theorem ON{J:KF}{i:Nat}:AE J (NX i) (Fs i):=λH0 A0 G al H st s env Q R I E h k=>by
 unfold Fs at h;split at h
 ·rename_i dv hd;obtain⟨v,h1,h2⟩:=E.2 i dv hd;exact⟨v,h1,k.here I h2 h⟩
 ·exact h.elim
theorem JS{J:KF}{v:V}{d:PyData}(h:∀H,aO J H v d):AE J (tC v) (eC d):=λH0 A0 G al H st s env Q R I E q k=>k.here I (.d (h _)) q
theorem ae(i:Nat){x:Str}(hN:X.N[i]?=some x:=by rfl)(hv:UO X.env.scope x:=by first | exact aad rfl | exact aby (aad rfl) | exact aby (aby rfl))(hd:(x == ("__debug__" : Str))=false:=by decide)
  (hcd:(x == ("__classdict__" : Str))=false:=by decide):bw X Y (.Name x pos) (Fs i):=⟨_,Ef hN hv hd hcd,ON⟩
theorem aq{i j}:bw X Y (.Constant (.int i) j pos) (eC (.int i)):=⟨_,pI,JS λ_=>.int i⟩
theorem nY{i j}:bw X Y (.Constant (.bool i) j pos) (eC (.bool i)):=⟨_,xN,JS λ_=>.bl i⟩
theorem c9{j}:bw X Y (.Constant .none j pos) (eC .none):=⟨_,kq,JS λ_=>.non⟩
theorem aw{i j}:bw X Y (.Constant (.str i) j pos) (eC (.str i)):=⟨_,ba,JS λ_=>.str i⟩
@[reducible] def nZ(o:Rp)(ea eb:DX)(env:bQ)(st:aI)(Q:DC):Prop:=ea env st λx aF=>eb env aF λy bJ=>o x y bJ Q
theorem BB{J:KF}{r:R2}{o:Rp}{ta tb:TE}(ho:AO J r o)(ha:AE J ta ea)(hb:AE J tb eb):AE J (RP r ta tb) (nZ o ea eb):=λH0 A0 G al H st s env Q R I E h k=>by
 refine ha H0 A0 G al H st s env _ _ I E h λx aF bu v H1 e1 I1 d1 q1=>?_
 refine hb H0 A0 G bu H1 aF s env _ _ I1 (E.ext e1) q1 λy bJ cy u H2 e2 I2 d2 q2=>?_
 exact ho H0 A0 G cy H2 bJ v u x y Q R I2 (d1.ext e2) d2 q2 (k.go I2 (e1.trans I1 e2))
theorem kJ{op:Operator}{r:R2}{o:Rp}(ho:i7 X (binaryOp op) r)(ao:AO (kf X Y) r o)(ha:bw X Y a ea)(hb:bw X Y b eb):bw X Y (.BinOp a op b pos) (nZ o ea eb):=by
 obtain⟨ta,p1,a1⟩:=ha.h;obtain⟨tb,p2,a2⟩:=hb.h;exact⟨_,df ho p1 p2,BB ao a1 a2⟩
theorem vZ{op:CmpOp}{r:R2}{o:Rp}(ho:i7 X (compareOp op) r)(ao:AO (kf X Y) r o)(ha:bw X Y a ea)(hb:bw X Y b eb)(hm:behindInMarks op b=false):bw X Y (.Compare a [op] [b] pos) (nZ o ea eb):=by
 obtain⟨ta,p1,a1⟩:=ha.h;obtain⟨tb,p2,a2⟩:=hb.h;exact⟨_,rf ho p1 p2 hm,BB ao a1 a2⟩
theorem kK{f:Value->Value->Sem Value}{r r':R2}(h:i7 X f r)(h':i7 X f r'):i7 X f (λx y H Q=>r x y H Q∨r' x y H Q):=λpins s σ H x y v u Q I rx ry q=>by
 rcases q with q | q
 ·exact h pins s σ H x y v u Q I rx ry q
 ·exact h' pins s σ H x y v u Q I rx ry q
@[reducible] def oI(C:Int->Int->Prop)(g:Int->Int->PyData)(x y:DV)(st:aI)(Q:DC):Prop:=match x,y with
 | .dat (.int i),.dat (.int j)=>C i j/\Q (.dat (g i j)) st
 | _,_=>False
@[reducible] def IG(g:Int->Int->PyData)(x y:DV)(st:aI)(Q:DC):Prop:=match x,y with
 | .dat (.int i),.dat (.int j)=>Q (.dat (g i j)) st
 | _,_=>False
theorem Ft{J:KF}{C:Int->Int->Prop}{g:Int->Int->V}{d:Int->Int->PyData}(h:∀i j H,aO J H (g i j) (d i j)):AO J (rI C g) (oI C d):=λH0 A0 G al H st x y dx dy Q R I a b q k=>by
 unfold oI at q;split at q
 ·rw[aJ.aU a,aJ.aU b];exact⟨_,_,rfl,rfl,q.1,k.here I (.d (h _ _ _)) q.2⟩
 ·exact q.elim
theorem uU{J:KF}{g:Int->Int->V}{d:Int->Int->PyData}(h:∀i j H,aO J H (g i j) (d i j)):AO J (IC g) (IG d):=λH0 A0 G al H st x y dx dy Q R I a b q k=>by
 unfold IG at q;split at q
 ·rw[aJ.aU a,aJ.aU b];exact⟨_,_,rfl,rfl,k.here I (.d (h _ _ _)) q⟩
 ·exact q.elim
end
@[reducible] def ip(st:aI):DV->Option (List PyData)
 | .dat (.list ds)=>some ds
 | .ref k=>match st[k]? with
  | some (.live ds)=>some ds
  | some (.froz ds)=>some ds
  | _=>none
 | _=>none
@[reducible] def uV(st:aI):DV->Option PyData
 | .dat d=>some d
 | .ref k=>match st[k]? with
  | some (.live ds)=>some (.list ds)
  | some (.froz ds)=>some (.list ds)
  | _=>none
section
variable {K:aC} {J:KF} {H0:Hp} {A0:Addr->Prop} {G:Addr->Prop} {al bu cy:List (List Addr)} {H H1 H2:Hp} {st aF bJ:aI} {Q:DC} {R:VK}
theorem C1{k:Nat}{ds:List PyData}(e:ip st (.ref k)=some ds):st[k]?=some (.live ds)∨st[k]?=some (.froz ds):=by
 have e:(match st[k]? with | some (.live ds)=>some ds | some (.froz ds)=>some ds | _=>none)=some ds:=e
 revert e
 cases st[k]? with
 | none=>intro e;cases e
 | some c=>cases c with
  | live xs=>intro e;cases e;exact .inl rfl
  | froz xs=>intro e;cases e;exact .inr rfl
  | deep xs=>intro e;cases e
  | obj o=>intro e;cases e
theorem C2{k:Nat}{d:PyData}(e:uV st (.ref k)=some d):∃ds,ip st (.ref k)=some ds/\d=.list ds:=by
 have e:(match st[k]? with | some (.live ds)=>some (PyData.list ds) | some (.froz ds)=>some (.list ds) | _=>none)=some d:=e;show ∃ds,(match st[k]? with | some (.live ds)=>some ds | some (.froz ds)=>some ds | _=>none)=some ds/\d=.list ds
 revert e
 cases st[k]? with
 | none=>intro e;cases e
 | some c=>cases c with
  | live xs=>intro e;cases e;exact⟨_,rfl,rfl⟩
  | froz xs=>intro e;cases e;exact⟨_,rfl,rfl⟩
  | deep xs=>intro e;cases e
  | obj o=>intro e;cases e
theorem gM.MQ(I:DI J H0 A0 G al H st){v:V}{x:DV}{ds:List PyData}(h:gM J (Fb G al st) H al v x)(e:ip st x=some ds):∃(a:Addr) (ys:List V),v=.ref a/\cG J H a ys/\cu (aJ J (Fb G al st) H) ys ds:=by
 cases x with
 | dat d =>
  cases d with
  | list xs=>cases e;obtain⟨a,ys,h1,h2,_,h3⟩:=aJ.dn h;exact⟨a,ys,h1,h2,h3⟩
  | _=>cases e
 | ref k =>
  obtain⟨a,r,h1,h2⟩:=h;rcases C1 e with hs | hs
  ·obtain⟨a',ys,e0,g1,g2⟩:=I.cel k _ _ h1 hs;cases e0;exact⟨a,ys,h2,cG.of g1,g2⟩
  ·obtain⟨a',e0,g0⟩:=I.cel k _ _ h1 hs;cases e0;obtain⟨b,ys,g1,g2,_,g3⟩:=aJ.dn g0;cases g1;exact⟨a,ys,h2,g2,g3⟩
theorem gM.U1(I:DI J H0 A0 G al H st){v:V}{x:DV}{d:PyData}(h:gM J (Fb G al st) H al v x)(e:uV st x=some d):aO J H v d:=by
 cases x with
 | dat d'=>cases e;exact aJ.now h
 | ref k =>
  obtain⟨ds,e1,rfl⟩:=C2 e;obtain⟨a,ys,rfl,h2,h3⟩:=h.MQ I e1;exact .lst h2 h3.1 λi x d a b=>(h3.2 i x d a b).now
@[reducible] def mL:DV->aI->(PyData->aI->Prop)->Prop
 | .dat d,st,Q=>Q d st
 | .ref k,st,Q=>match st[k]? with
  | some (.froz ds)=>Q (.list ds) st
  | some (.live ds)=>Q (.list ds) (st.set k (.froz ds))
  | _=>False
@[reducible] def eM:List DV->aI->(List PyData->aI->Prop)->Prop
 | [],st,Q=>Q [] st
 | x::r,st,Q=>mL x st λd aF=>eM r aF λds bJ=>Q (d::ds) bJ
theorem px(I:DI J H0 A0 G al H st){v:V}{x:DV}{Q:PyData->aI->Prop}(h:gM J (Fb G al st) H al v x)(q:mL x st Q):∃d aF,Ext al H st al H aF/\DI J H0 A0 G al H aF/\aJ J (Fb G al aF) H v d/\Q d aF:=by
 cases x with
 | dat d=>exact⟨d,st,.refl,I,h,q⟩
 | ref k =>
  obtain⟨a,r,h1,rfl⟩:=h;unfold mL at q;dsimp only at q;split at q
  ·rename_i ds hs;obtain⟨a',e0,g0⟩:=I.cel k _ _ h1 hs;cases e0;exact⟨_,st,.refl,I,g0,q⟩
  ·rename_i ds hs;obtain⟨a',e0,E,I',F⟩:=I.freeze h1 hs;cases e0;exact⟨_,_,E,I',F,q⟩
  ·exact q.elim
theorem iq:∀{xs:List DV} {st:aI} {vs:List V} {Q:List PyData->aI->Prop},DI J H0 A0 G al H st->cu (gM J (Fb G al st) H al) vs xs->eM xs st Q->∃ds aF,Ext al H st al H aF/\DI J H0 A0 G al H aF/\cu (aJ J (Fb G al aF) H) vs ds/\Q ds aF
 | [],st,vs,Q,I,h,q=>by
  have:=h.1
  cases vs with
  | nil=>exact⟨[],st,.refl,I,.nil,q⟩
  | cons v r=>simp at this
 | x::xs,st,vs,Q,I,h,q=>by
  have:=h.1
  cases vs with
  | nil=>simp at this
  | cons v r =>
   obtain⟨d,aF,E1,I1,F1,q1⟩:=px I (h.2 0 v x rfl rfl) q;have h':cu (gM J (Fb G al aF) H al) r xs:=⟨by simpa using this,λi y z a b=>(h.2 (i + 1) y z (by simpa using a) (by simpa using b)).ext E1⟩;obtain⟨ds,bJ,E2,I2,F2,q2⟩:=iq I1 h' q1;exact⟨d::ds,bJ,E1.trans I1 E2,I2,.cons (F1.ext E2) F2,q2⟩
end
section
variable {X:Cx} {Y:YK} {a b c e:Expr} {es:List Expr} {pos:Pos} {ea eb ec:DX} {K:aC} {J:KF}
@[reducible] def JT(_:bQ)(st:aI)(Q:List DV->aI->Prop):Prop:=Q [] st
@[reducible] def BC(ea:DX)(r:kI)(env:bQ)(st:aI)(Q:List DV->aI->Prop):Prop:=ea env st λx aF=>r env aF λxs bJ=>Q (x::xs) bJ
theorem OO:AA J RU 0 JT:=λH0 A0 G al H st s env Q R I E h k=>k [] st al [] H .refl I .nil ⟨rfl,h⟩
theorem JU{ta:TE}{tr:TA}{n:Nat}{r:kI}(ha:AE J ta ea)(hr:AA J tr n r):AA J (MA ta tr) (n + 1) (BC ea r):=λH0 A0 G al H st s env Q R I E h k=>by
 refine ha H0 A0 G al H st s env _ _ I E h λx aF bu v H1 e1 I1 d1 q1=>?_
 refine hr H0 A0 G bu H1 aF s env _ _ I1 (E.ext e1) q1 λxs bJ cy vs H2 e2 I2 d2 q2=>?_
 exact k (x::xs) bJ cy (v::vs) H2 (e1.trans I1 e2) I2 (.cons (d1.ext e2) d2) ⟨by simp[q2.1],q2.2⟩
theorem ah:qG X Y [] 0 JT:=⟨_,pN,OO⟩
theorem aa{n:Nat}{r:kI}(ha:bw X Y e ea)(hr:qG X Y es n r)(hs:starEach (e::es) X.env=(false,eval e X.env)::starEach es X.env:=by rfl):qG X Y (e::es) (n + 1) (BC ea r):=by
 obtain⟨ta,p1,a1⟩:=ha.h;obtain⟨tb,p2,a2⟩:=hr.h;exact⟨_,pK p1 p2 hs,JU a1 a2⟩
@[reducible] def JV(t:kI)(env:bQ)(st:aI)(Q:DC):Prop:=t env st λxs aF=>eM xs aF λds bJ=>Q (.dat (.tuple ds)) bJ
@[reducible] def JW(t:kI)(env:bQ)(st:aI)(Q:DC):Prop:=t env st λxs aF=>eM xs aF λds bJ=>Q (.dat (.list ds)) bJ
@[reducible] def BD(t:kI)(env:bQ)(st:aI)(Q:DC):Prop:=t env st λxs aF=>eM xs aF λds bJ=>Q (.ref bJ.length) (bJ++[.live ds])
theorem OP{t:TA}{n:Nat}{d:kI}(hn:n<=sizeLine)(h:AA J t n d):AE J (RV t) (JV d):=λH0 A0 G al H st s env Q R I E q k=>by
 refine h H0 A0 G al H st s env _ _ I E q λxs aF bu vs H1 e1 I1 d1 q1=>?_
 obtain⟨ds,bJ,E2,I2,F2,q2⟩:=iq I1 d1 q1.2;refine⟨by rw[d1.1,q1.1];exact hn,λp hp=>?_⟩;have k2:=k.go I2 (e1.trans I1 E2);exact k2.laid I2 (eT hp) (.d (aJ.tup (I2.C0 hp) uS (F2.imp λy x z=>z.same (eT hp)))) q2
theorem OQ{t:TA}{n:Nat}{d:kI}(hn:n<=sizeLine)(h:AA J t n d):AE J (N9 t) (JW d):=λH0 A0 G al H st s env Q R I E q k=>by
 refine h H0 A0 G al H st s env _ _ I E q λxs aF bu vs H1 e1 I1 d1 q1=>?_
 obtain⟨ds,bJ,E2,I2,F2,q2⟩:=iq I1 d1 q1.2;refine⟨by rw[d1.1,q1.1];exact hn,λp hp=>?_⟩;have k2:=k.go I2 (e1.trans I1 E2);exact k2.laid I2 (eT hp) (.d (aJ.lst (I2.C0 hp) uS (F2.imp λy x z=>z.same (eT hp)))) q2
theorem Kn.cell{H0:Hp}{A0:Addr->Prop}{G:Addr->Prop}{al:List (List Addr)}{H:Hp}{st:aI}{Q:DC}{R:VK}(k:Kn J H0 A0 G al H st Q R)(I:DI J H0 A0 G al H st){p:Addr}{ys:List V}{ds:List PyData}(hp:H p=none)(F:cu (aJ J (Fb G al st) H) ys ds)(q:Q (.ref st.length) (st++[.live ds])):R (.ref p) (upd H p (.lst ys)):=by
 obtain⟨E,I'⟩:=I.cell hp F;exact k (.ref st.length) _ _ _ _ E I' ⟨p,[],by rw[← I.len,aaj (aag _),aa0];rfl,rfl⟩ q
theorem Kn.list{H0:Hp}{A0:Addr->Prop}{G:Addr->Prop}{al:List (List Addr)}{H:Hp}{st:aI}{Q:DC}{R:VK}(k:Kn J H0 A0 G al H st Q R)(I:DI J H0 A0 G al H st){p:Addr}{ys:List V}{ds:List PyData}(hp:H p=none)(F:cu (aJ J (Fb G al st) H) ys ds)(q:Q (.dat (.list ds)) st):R (.ref p) (upd H p (.lst ys)) :=
 k.laid I (eT hp) (.d (aJ.lst (I.C0 hp) uS (F.imp λy x z=>z.same (eT hp)))) q
theorem JX{t:TA}{n:Nat}{d:kI}(hn:n<=sizeLine)(h:AA J t n d):AE J (N9 t) (BD d):=λH0 A0 G al H st s env Q R I E q k=>by
 refine h H0 A0 G al H st s env _ _ I E q λxs aF bu vs H1 e1 I1 d1 q1=>?_
 obtain⟨ds,bJ,E2,I2,F2,q2⟩:=iq I1 d1 q1.2;exact⟨by rw[d1.1,q1.1];exact hn,λp hp=>(k.go I2 (e1.trans I1 E2)).cell I2 hp F2 q2⟩
theorem au{k n:Nat}{d:kI}(h:qG X Y es n d)(hn:n<=sizeLine:=by decide):bw X Y (.Tuple es k pos) (JV d):=by
 obtain⟨t,p,a⟩:=h.h;exact⟨_,bh p,OP hn a⟩
theorem eU{n:Nat}{d:kI}(h:qG X Y es n d)(hn:n<=sizeLine:=by decide):bw X Y (.List es pos) (JW d):=by
 obtain⟨t,p,a⟩:=h.h;exact⟨_,fg p,OQ hn a⟩
theorem rp{n:Nat}{d:kI}(h:qG X Y es n d)(hn:n<=sizeLine:=by decide):bw X Y (.List es pos) (BD d):=by
 obtain⟨t,p,a⟩:=h.h;exact⟨_,fg p,JX hn a⟩
end
theorem jD{n:Nat}(h:n<=1000000):n<=sizeLine:=aau h (by decide)
section
variable {X:Cx} {Y:YK} {a b c e:Expr} {es:List Expr} {pos:Pos} {ea eb ec:DX} {K:aC} {J:KF}
@[reducible] def Fu(x y:DV)(st:aI)(Q:DC):Prop:=match x,y with
 | .dat (.int i),.dat (.int j)=>Q (.dat (.int (i + j))) st
 | .dat (.str i),.dat (.str j)=>i.length + j.length<=1000000/\Q (.dat (.str (i++j))) st
 | .dat (.tuple i),.dat (.tuple j)=>i.length + j.length<=1000000/\Q (.dat (.tuple (i++j))) st
 | x,y=>match ip st x,ip st y with
  | some i,some j=>i.length + j.length<=1000000/\Q (.dat (.list (i++j))) st
  | _,_=>False
@[reducible] def Fv(K:aC):R2:=λx y H Q=>IC (λi j=>.int (i + j)) x y H Q∨((∃i j,x=.str i/\y=.str j/\i.length + j.length<=sizeLine/\Q (.str (i++j)) H)∨(MK K x y H Q∨MF K x y H Q))
theorem JY:i7 X (binaryOp .Add) (Fv X.K):=kK vI (kK zA (kK mm Br))
theorem cu.len{α:Type}{R:V->α->Prop}{ys:List V}{xs:List α}(h:cu R ys xs):ys.length=xs.length:=h.1
theorem OR:AO J (Fv J) Fu:=λH0 A0 G al H st x y dx dy Q R I h1 h2 q k=>by
 have lists:(match ip st dx,ip st dy with
  | some i,some j=>i.length + j.length<=1000000/\Q (.dat (.list (i++j))) st
  | _,_=>False)->Fv J x y H R:=λq=>by
  split at q
  ·rename_i i j e1 e2;obtain⟨a,ys,rfl,g1,g2⟩:=h1.MQ I e1;obtain⟨b,zs,rfl,g3,g4⟩:=h2.MQ I e2;exact .inr (.inr (.inr ⟨a,b,ys,zs,rfl,rfl,g1,g3,by rw[g2.len,g4.len];exact jD q.1,λp hp=>k.list I hp (g2.append g4) q.2⟩))
  ·exact q.elim
 unfold Fu at q;split at q
 ·rw[aJ.aU h1,aJ.aU h2];exact .inl ⟨_,_,rfl,rfl,k.here I (.d (.int _)) q⟩
 ·rw[aJ.c8 h1,aJ.c8 h2];exact .inr (.inl ⟨_,_,rfl,rfl,jD q.1,k.here I (.d (.str _)) q.2⟩)
 ·obtain⟨a,ys,rfl,g1,_,g2⟩:=aJ.bq h1;obtain⟨b,zs,rfl,g3,_,g4⟩:=aJ.bq h2;refine .inr (.inr (.inl ⟨a,b,ys,zs,rfl,rfl,g1,g3,by rw[g2.len,g4.len];exact jD q.1,λp H' s hp=>k.laid I s (.d ?_) q.2⟩));have g:=(g2.append g4).imp λy x z=>z.same s
  exact aO.tup ((I.same s).Fq hp) g.1 g.2
 ·exact lists q
theorem bR(ha:bw X Y a ea)(hb:bw X Y b eb):bw X Y (.BinOp a .Add b pos) (nZ Fu ea eb):=kJ JY OR ha hb
theorem mX(ha:bw X Y a ea)(hb:bw X Y b eb):bw X Y (.BinOp a .Sub b pos) (nZ (IG λi j=>.int (i - j)) ea eb):=kJ pf (uU λ_ _ _=>.int _) ha hb
def MulOk(i j:Int):Prop:=N6 i j∨EJ i j
theorem JZ:i7 X (binaryOp .Mult) (rI MulOk λi j=>.int (i * j)):=RQ λ_ _ _ _ _ _ _ hc q=>mul_int q (by rcases hc with h | h;exact h.ok;exact h.ok)
theorem pA(ha:bw X Y a ea)(hb:bw X Y b eb):bw X Y (.BinOp a .Mult b pos) (nZ (oI MulOk λi j=>.int (i * j)) ea eb):=kJ JZ (Ft λ_ _ _=>.int _) ha hb
def MR(j:Int):Prop:=0 < j/\j < 18446744073709551616
theorem Fw:i7 X (binaryOp .FloorDiv) (rI (λ_ j=>MR j) λi j=>.int (i / j)):=RQ λi j _ _ _ _ _ hc q=>by
 have h1:(0:Int) < j:=hc.1;have h2:j < 18446744073709551616:=hc.2;exact floordiv_int (by omega) (by rw[ab9 i (by omega)];exact q) (.inl (E9.ok (i:=i) ⟨by omega,by omega⟩))
theorem ek(ha:bw X Y a ea)(hb:bw X Y b eb):bw X Y (.BinOp a .FloorDiv b pos) (nZ (oI (λ_ j=>MR j) λi j=>.int (i / j)) ea eb):=kJ Fw (Ft λ_ _ _=>.int _) ha hb
theorem bg(ha:bw X Y a ea)(hb:bw X Y b eb):bw X Y (.BinOp a .Mod b pos) (nZ (oI (λ_ j=>0 < j) λi j=>.int (i % j)) ea eb):=kJ vJ (Ft λ_ _ _=>.int _) ha hb
theorem zQ(ha:bw X Y a ea)(hb:bw X Y b eb):bw X Y (.BinOp a .LShift b pos) (nZ (oI N5 λi j=>.int (i * 2 ^ j.toNat)) ea eb):=kJ zy (Ft λ_ _ _=>.int _) ha hb
theorem Fx(ha:bw X Y a ea)(hb:bw X Y b eb):bw X Y (.BinOp a .RShift b pos) (nZ (oI (λ_ j=>0<=j) λi j=>.int (i / 2 ^ j.toNat)) ea eb):=kJ N7 (Ft λ_ _ _=>.int _) ha hb
theorem zR(ha:bw X Y a ea)(hb:bw X Y b eb):bw X Y (.BinOp a .BitAnd b pos) (nZ (IG λi j=>.int (Builtin.bitAnd i j)) ea eb):=kJ Es (uU λ_ _ _=>.int _) ha hb
theorem SE(ha:bw X Y a ea)(hb:bw X Y b eb):bw X Y (.BinOp a .BitOr b pos) (nZ (IG λi j=>.int (Builtin.bitOr i j)) ea eb):=kJ Mx (uU λ_ _ _=>.int _) ha hb
@[reducible] def OS(ea:DX)(env:bQ)(st:aI)(Q:DC):Prop:=ea env st λx aF=>match x with
 | .dat (.int i)=>Q (.dat (.int (-i))) aF
 | _=>False
theorem cQ(ha:bw X Y a ea):bw X Y (.UnaryOp .USub a pos) (OS ea):=by
 obtain⟨ta,p1,a1⟩:=ha.h;refine⟨_,Mw Eu p1,λH0 A0 G al H st s env Q R I E h k=>a1 H0 A0 G al H st s env _ _ I E h λx aF bu v H1 e1 I1 d1 q1=>?_⟩;split at q1
 ·rw[aJ.aU d1];exact⟨_,rfl,(k.go I1 e1).here I1 (.d (.int _)) q1⟩
 ·exact q1.elim
theorem SG(ha:bw X Y a ea)(hb:bw X Y b eb):bw X Y (.Compare a [.Gt] [b] pos) (nZ (IG λi j=>.bool (decide (j < i))) ea eb):=vZ Bh (uU λ_ _ _=>.bl _) ha hb (aZ _)
@[reducible] def v5(n:Bool->Bool)(x y:DV)(st:aI)(Q:DC):Prop:=match x,y with
 | .dat (.int i),.dat (.int j)=>Q (.dat (.bool (n (decide (i=j))))) st
 | .dat (.str i),.dat (.str j)=>Q (.dat (.bool (n (decide (i=j))))) st
 | x,y=>match uV st x,uV st y with
  | some i,some j=>(PySem.SeqAt.shaped i=true/\PySem.SeqAt.shaped j=true)/\Q (.dat (.bool (n (PyData.eqv i j)))) st
  | _,_=>False
@[reducible] def V1(K:aC):R2:=λx y H Q=>XX x y H Q∨Sa K x y H Q
@[reducible] def V2(K:aC):R2:=λx y H Q=>XY x y H Q∨Sb K x y H Q
theorem SI{i j:Int}:decide (V.int i=V.int j)=decide (i=j):=acs.mpr ⟨V.int.inj,λh=>by rw[h]⟩
theorem SJ{i j:Str}:decide (V.str i=V.str j)=decide (i=j):=acs.mpr ⟨V.str.inj,λh=>by rw[h]⟩
theorem MS:AO J (V1 J) (v5 id):=λH0 A0 G al H st x y dx dy Q R I h1 h2 q k=>by
 unfold v5 at q;split at q
 ·rw[aJ.aU h1,aJ.aU h2];exact .inl ⟨rfl,k.here I (.d (.bl _)) (by rw[SI];exact q)⟩
 ·rw[aJ.c8 h1,aJ.c8 h2];exact .inl ⟨rfl,k.here I (.d (.bl _)) (by rw[SJ];exact q)⟩
 ·split at q
  ·rename_i i j e1 e2;exact .inr ⟨i,j,h1.U1 I e1,h2.U1 I e2,q.1.1,q.1.2,k.here I (.d (.bl _)) q.2⟩
  ·exact q.elim
theorem SK:AO J (V2 J) (v5 not):=λH0 A0 G al H st x y dx dy Q R I h1 h2 q k=>by
 unfold v5 at q;split at q
 ·rw[aJ.aU h1,aJ.aU h2];exact .inl ⟨rfl,k.here I (.d (.bl _)) (by rw[SI];exact q)⟩
 ·rw[aJ.c8 h1,aJ.c8 h2];exact .inl ⟨rfl,k.here I (.d (.bl _)) (by rw[SJ];exact q)⟩
 ·split at q
  ·rename_i i j e1 e2;exact .inr ⟨i,j,h1.U1 I e1,h2.U1 I e2,q.1.1,q.1.2,k.here I (.d (.bl _)) q.2⟩
  ·exact q.elim
theorem BE(hu:X.A.units + 64 < cLine)(ha:bw X Y a ea)(hb:bw X Y b eb):bw X Y (.Compare a [.Eq] [b] pos) (nZ (v5 id) ea eb):=vZ (kK dh (EH hu)) MS ha hb (aZ _)
@[reducible] def BG:DV->Bool
 | .dat .none=>true
 | _=>false
@[reducible] def tX(n:Bool->Bool)(x y:DV)(st:aI)(Q:DC):Prop:=match y with
 | .dat .none=>Q (.dat (.bool (n (BG x)))) st
 | _=>False
theorem rX{H:Hp}{P:Addr->Prop}{al:List (List Addr)}{v:V}{x:DV}(h:gM K P H al v x):decide (v=.non)=BG x:=by
 cases x with
 | ref k=>obtain⟨a,r,_,rfl⟩:=h;rfl
 | dat d =>
  cases d with
  | none=>rw[aJ.gQ h];rfl
  | bool b=>rw[aJ.jf h];rfl
  | int i=>rw[aJ.aU h];rfl
  | str i=>rw[aJ.c8 h];rfl
  | list ds=>obtain⟨a,ys,rfl,_⟩:=aJ.dn h;rfl
  | tuple ds=>obtain⟨a,ys,rfl,_⟩:=aJ.bq h;rfl
  | dict kv=>have h:aO K (cutH P H) v (.dict kv):=h;cases h
theorem BH(ha:bw X Y a ea)(hb:bw X Y b eb):bw X Y (.Compare a [.IsNot] [b] pos) (nZ (tX not) ea eb):=vZ mi (λH0 A0 G al H st x y dx dy Q R I h1 h2 q k=>by
 unfold tX at q;split at q
 ·exact⟨aJ.gQ h2,k.here I (.d (.bl _)) (by rw[rX h1];exact q)⟩
 ·exact q.elim) ha hb (aZ _)
end
section
variable {X:Cx} {Y:YK} {a b c e:Expr} {es:List Expr} {pos:Pos} {ea eb ec:DX} {K:aC} {J:KF}
theorem cu.kA{α:Type}{R:V->α->Prop}{ys:List V}{xs:List α}(h:cu R ys xs){i:Int}{x:α}(hx:kA xs i=some x):∃y,L2.kA ys i=some y/\R y x:=by
 unfold L2.kA at hx ⊢;rw[h.1]
 cases q:xR xs.length i with
 | none=>rw[q]at hx;cases hx
 | some j =>
  rw[q]at hx;exact h.at hx
@[reducible] def mQ(st:aI):DV->Option (List PyData)
 | .dat (.tuple ds)=>some ds
 | x=>ip st x
theorem gM.Rq{H0:Hp}{A0:Addr->Prop}{G:Addr->Prop}{al:List (List Addr)}{H:Hp}{st:aI}(I:DI J H0 A0 G al H st){v:V}{x:DV}{ds:List PyData}(h:gM J (Fb G al st) H al v x)(e:mQ st x=some ds):∃(a:Addr) (ys:List V),v=.ref a/\(cG J H a ys∨bz J H a ys)/\cu (aJ J (Fb G al st) H) ys ds:=by
 unfold mQ at e;split at e
 ·cases e;obtain⟨a,ys,h1,h2,_,h3⟩:=aJ.bq h;exact⟨a,ys,h1,.inr h2,h3⟩
 ·obtain⟨a,ys,h1,h2,h3⟩:=h.MQ I e;exact⟨a,ys,h1,.inl h2,h3⟩
@[reducible] def SM(x y:DV)(st:aI)(Q:DC):Prop:=match x,y with
 | .dat (.str z),.dat (.int i)=>z.length<=1000000/\∃c,L2.kA z.cps.toList i=some c/\Q (.dat (.str ⟨#[c]⟩)) st
 | x,.dat (.int i)=>match mQ st x with
  | some ds=>∃d,L2.kA ds i=some d/\Q (.dat d) st
  | none=>False
 | _,_=>False
theorem SN:AO J (X2 J) SM:=λH0 A0 G al H st x y dx dy Q R I h1 h2 q k=>by
 unfold SM at q;split at q
 ·obtain⟨q1,c,q2,q3⟩:=q;rw[aJ.c8 h1,aJ.aU h2];exact .inr (.inr ⟨_,_,c,rfl,rfl,jD q1,q2,k.here I (.d (.str _)) q3⟩)
 ·split at q
  ·rename_i ds e;obtain⟨d,q1,q2⟩:=q;rw[aJ.aU h2];obtain⟨a,ys,rfl,g1,g2⟩:=h1.Rq I e;obtain⟨z,g3,g4⟩:=g2.kA q1;rcases g1 with g1 | g1
   ·exact .inl ⟨a,ys,_,z,rfl,rfl,g1,g3,k.here I (.d g4) q2⟩
   ·exact .inr (.inl ⟨a,ys,_,z,rfl,rfl,g1,g3,k.here I (.d g4) q2⟩)
  ·exact q.elim
 ·exact q.elim
theorem br(ha:bw X Y a ea)(hb:bw X Y b eb)(hs:vN b):bw X Y (.Subscript a b pos) (nZ SM ea eb):=by
 obtain⟨ta,p1,a1⟩:=ha.h;obtain⟨tb,p2,a2⟩:=hb.h;exact⟨_,aG EA p1 p2 hs,BB SN a1 a2⟩
@[reducible] def oa:PyData->Bool
 | .none=>true
 | .bool _=>true
 | .int _=>true
 | .str _=>true
 | _=>false
theorem BI{P:Addr->Prop}{H:Hp}{v:V}{d:PyData}(h:aJ K P H v d)(f:oa d=true):gJ v=true/\∀H',aO K H' v d:=by
 cases d with
 | none=>rw[aJ.gQ h];exact⟨rfl,λ_=>.non⟩
 | bool b=>rw[aJ.jf h];exact⟨rfl,λ_=>.bl b⟩
 | int i=>rw[aJ.aU h];exact⟨rfl,λ_=>.int i⟩
 | str i=>rw[aJ.c8 h];exact⟨rfl,λ_=>.str i⟩
 | _=>cases f
theorem J0{P P':Addr->Prop}{H H':Hp}{v u:V}{d d':PyData}(h:aJ K P H v d)(h':aJ K P' H' u d')(f:oa d=true)(f':oa d'=true):CG v u=PyData.eqv d d':=by
 cases d with
 | none=>rw[aJ.gQ h];cases d' with
  | none=>rw[aJ.gQ h'];rfl
  | bool b=>rw[aJ.jf h'];rfl
  | int i=>rw[aJ.aU h'];rfl
  | str i=>rw[aJ.c8 h'];rfl
  | _=>cases f'
 | bool b=>rw[aJ.jf h];cases d' with
  | none=>rw[aJ.gQ h'];rfl
  | bool b=>rw[aJ.jf h'];rfl
  | int i=>rw[aJ.aU h'];rfl
  | str i=>rw[aJ.c8 h'];rfl
  | _=>cases f'
 | int i=>rw[aJ.aU h];cases d' with
  | none=>rw[aJ.gQ h'];rfl
  | bool b=>rw[aJ.jf h'];rfl
  | int i=>rw[aJ.aU h'];rfl
  | str i=>rw[aJ.c8 h'];rfl
  | _=>cases f'
 | str i=>rw[aJ.c8 h];cases d' with
  | none=>rw[aJ.gQ h'];rfl
  | bool b=>rw[aJ.jf h'];rfl
  | int i=>rw[aJ.aU h'];rfl
  | str i=>rw[aJ.c8 h'];rfl
  | _=>cases f'
 | _=>cases f
def inD(x:PyData)(ds:List PyData):Bool:=ds.any λd=>PyData.eqv d x
theorem MT{P:Addr->Prop}{H:Hp}{v:V}{d:PyData}(h:aJ K P H v d)(f:oa d=true):∀{ys:List V} {ds:List PyData},cu (aJ K P H) ys ds->ds.all oa=true->ys.all gJ=true/\Bm v ys=inD d ds
 | [],[],_,_=>⟨rfl,rfl⟩
 | [],_::_,r,_=>by have:=r.1;simp at this
 | _::_,[],r,_=>by have:=r.1;simp at this
 | y::ys,x::ds,r,g=>by
  rw[List.all_cons,Bool.and_eq_true]at g;have r0:=r.2 0 y x rfl rfl;obtain⟨z1,z2⟩:=MT h f (ys:=ys) (ds:=ds) ⟨by simpa using r.1,λi p q a b=>r.2 (i + 1) p q (by simpa using a) (by simpa using b)⟩ g.2;unfold Bm inD at z2 ⊢;rw[List.all_cons,List.any_cons,List.any_cons,z1,z2,(BI r0 g.1).1,J0 r0 h g.1 f];exact⟨rfl,rfl⟩
@[reducible] def Rr(n:Bool->Bool)(x y:DV)(st:aI)(Q:DC):Prop:=match x with
 | .dat d=>match mQ st y with
  | some ds=>(oa d=true/\ds.all oa=true)/\Q (.dat (.bool (n (inD d ds)))) st
  | none=>False
 | _=>False
theorem MU(neg:Bool):AO J (Vy J neg) (Rr (if neg then not else id)):=λH0 A0 G al H st x y dx dy Q R I h1 h2 q k=>by
 unfold Rr at q;split at q
 ·split at q
  ·rename_i ds e;obtain⟨a,ys,rfl,g1,g2⟩:=h2.Rq I e;obtain⟨z1,z2⟩:=MT h1 q.1.1 g2 q.1.2;refine⟨a,ys,rfl,g1,(BI h1 q.1.1).1,z1,k.here I (.d (.bl _)) ?_⟩;rw[z2];cases neg<;>exact q.2
  ·exact q.elim
 ·exact q.elim
theorem SO(ha:bw X Y a ea)(hb:bw X Y b eb)(hm:behindInMarks .In b=false):bw X Y (.Compare a [.In] [b] pos) (nZ (Rr id) ea eb):=vZ gB (MU false) ha hb hm
theorem yc{x:Str}{l:List Str}:inD (.str x) (l.map PyData.str)=decide (x∈l):=by
 unfold inD;rw[List.any_map,Bool.eq_iff_iff,List.any_eq_true,decide_eq_true_iff]
 constructor
 ·rintro⟨y,h1,h2⟩;have:(y == x)=true:=h2;rw[acM]at this;exact this ▸ h1
 ·intro h;exact⟨x,h,show(x == x)=true from beq_self_eq_true x⟩
abbrev DO:=bQ->aI->(Option Int->aI->Prop)->Prop
@[reducible] def Fy(_:bQ)(st:aI)(Q:Option Int->aI->Prop):Prop:=Q none st
@[reducible] def Fz(e:DX)(env:bQ)(st:aI)(Q:Option Int->aI->Prop):Prop:=e env st λx aF=>match x with
 | .dat (.int i)=>Q (some i) aF
 | _=>False
structure U2(X:Cx)(Y:YK)(e:Option Expr)(d:DO):Prop where
 h:∃t,PO X e t/\∀(H0:Hp) (A0:Addr->Prop) (G:Addr->Prop) (al:List (List Addr)) (H:Hp) (st:aI) (s:St) (env:bQ) (Q:Option Int->aI->Prop) (R:Option Int->Hp->Prop),DI (kf X Y) H0 A0 G al H st->kG X.K (Fb G al st) H al s env->d env st Q ->
  (∀i st' al' H',Ext al H st al' H' st'->DI (kf X Y) H0 A0 G al' H' st'->Q i st'->R i H')->t s H R
theorem fw:U2 X Y none Fy:=⟨_,jx,λH0 A0 G al H st s env Q R I E q k=>k none st al H .refl I q⟩
theorem cM(ha:bw X Y a ea):U2 X Y (some a) (Fz ea):=by
 obtain⟨ta,p1,a1⟩:=ha.h;refine⟨_,jy p1,λH0 A0 G al H st s env Q R I E q k=>a1 H0 A0 G al H st s env _ _ I E q λx aF bu v H1 e1 I1 d1 q1=>?_⟩;split at q1
 ·rw[aJ.aU d1];exact⟨_,rfl,k _ _ _ _ e1 I1 q1⟩
 ·exact q1.elim
def cutD(xs:List PyData)(lo hi:Option Int):List PyData:=(xs.drop (HT.eh xs.length 0 lo)).take (HT.eh xs.length xs.length hi - HT.eh xs.length 0 lo)
theorem cu.cut{P:Addr->Prop}{H:Hp}{ys:List V}{ds:List PyData}(h:cu (aJ K P H) ys ds)(lo hi:Option Int):cu (aJ K P H) (jz ys lo hi) (cutD ds lo hi):=by
 unfold jz cutD;rw[h.1];exact(h.drop _).take _
@[reducible] def V3(ea:DX)(lo hi:DO)(env:bQ)(st:aI)(Q:DC):Prop:=ea env st λx aF=>lo env aF λl bJ=>hi env bJ λu kc=>match x with
 | .dat (.str z)=>z.length<=1000000/\Q (.dat (.str (Txt.slice z l u))) kc
 | .dat (.tuple ds)=>Q (.dat (.tuple (cutD ds l u))) kc
 | x=>match ip kc x with
  | some ds=>Q (.dat (.list (cutD ds l u))) kc
  | none=>False
theorem FA{r r':V->Option Int->Option Int->Hp->VK->Prop}(h:ID X r)(h':ID X r'):ID X (λx l u H Q=>r x l u H Q∨r' x l u H Q):=by
 unfold ID at h h' ⊢
 intros
 rename_i q;rcases q with q | q
 ·apply h<;>assumption
 ·apply h'<;>assumption
theorem V5:ID X (λx l u H Q=>ML x l u H Q∨(Sn X.K x l u H Q∨R7 X.K x l u H Q)):=FA JK (FA jB Jn)
theorem jg{lo hi:Option Expr}{l u:DO}{p2:Pos}(ha:bw X Y a ea)(hl:U2 X Y lo l)(hh:U2 X Y hi u):bw X Y (.Subscript a (.Slice lo hi none p2) pos) (V3 ea l u):=by
 obtain⟨ta,p1,a1⟩:=ha.h;obtain⟨tl,p2,a2⟩:=hl.h;obtain⟨th,p3,a3⟩:=hh.h;refine⟨_,gI V5 p1 p2 p3,λH0 A0 G al H st s env Q R I E q k=>a1 H0 A0 G al H st s env _ _ I E q λx aF bu v H1 e1 I1 d1 q1=>?_⟩;refine a2 H0 A0 G bu H1 aF s env _ _ I1 (E.ext e1) q1 λi bJ cy H2 e2 I2 q2=>?_
 have pB:=e1.trans I1 e2;refine a3 H0 A0 G cy H2 bJ s env _ _ I2 (E.ext pB) q2 λj kc U3 H3 e3 I3 q3=>?_
 have k3:=k.go I3 (pB.trans I2 e3);have d3:=(d1.ext e2).ext e3;split at q3
 ·rw[aJ.c8 d3];exact .inl ⟨_,rfl,jD q3.1,k3.here I3 (.d (.str _)) q3.2⟩
 ·obtain⟨b,ys,rfl,g1,_,g2⟩:=aJ.bq d3;refine .inr (.inl ⟨b,ys,rfl,g1,λp H' s hp=>k3.laid I3 s (.d ?_) q3⟩);have g:=(g2.cut i j).imp λy x z=>z.same s
  exact aO.tup ((I3.same s).Fq hp) g.1 g.2
 ·split at q3
  ·rename_i ds e;obtain⟨b,ys,rfl,g1,g2⟩:=d3.MQ I3 e;exact .inr (.inr ⟨b,ys,rfl,g1,λp hp=>k3.list I3 hp (g2.cut i j) q3⟩)
  ·exact q3.elim
@[reducible] def Eb(ea:DX)(env:bQ)(st:aI)(Q:Bool->aI->Prop):Prop:=ea env st λx aF=>match x with
 | .dat (.bool b)=>Q b aF
 | _=>False
@[reducible] def BJ(t u:DT)(env:bQ)(st:aI)(Q:Bool->aI->Prop):Prop:=t env st λb aF=>if b=true then u env aF Q else Q false aF
@[reducible] def J1(t u:DT)(env:bQ)(st:aI)(Q:Bool->aI->Prop):Prop:=t env st λb aF=>if b=true then Q true aF else u env aF Q
@[reducible] def FC(t:DT)(env:bQ)(st:aI)(Q:Bool->aI->Prop):Prop:=t env st λb aF=>Q (!b) aF
theorem FE{t:TE}{e:DX}(h:AE J t e):AT J (Mz t) (Eb e):=λH0 A0 G al H st s env Q R I E q k=>h H0 A0 G al H st s env _ _ I E q λx aF bu v H1 e1 I1 d1 q1=>by
 split at q1
 ·rw[aJ.jf d1];exact⟨_,rfl,k _ _ _ _ e1 I1 q1⟩
 ·exact q1.elim
theorem mY{op:CmpOp}{r:R2}{o:Rp}(ho:i7 X (compareOp op) r)(ao:AO (kf X Y) r o)(ha:bw X Y a ea)(hb:bw X Y b eb)(hm:behindInMarks op b=false):tP X Y (.Compare a [op] [b] pos) (Eb (nZ o ea eb)):=by
 obtain⟨ta,p1,a1⟩:=ha.h;obtain⟨tb,p2,a2⟩:=hb.h;exact⟨_,tR ho p1 p2 hm,FE (BB ao a1 a2)⟩
theorem mR(ha:bw X Y a ea)(hb:bw X Y b eb):tP X Y (.Compare a [.Lt] [b] pos) (Eb (nZ (IG λi j=>.bool (decide (i < j))) ea eb)):=mY My (uU λ_ _ _=>.bl _) ha hb (aZ _)
theorem qh(ha:bw X Y a ea)(hb:bw X Y b eb):tP X Y (.Compare a [.Gt] [b] pos) (Eb (nZ (IG λi j=>.bool (decide (j < i))) ea eb)):=mY Bh (uU λ_ _ _=>.bl _) ha hb (aZ _)
theorem dr(hu:X.A.units + 64 < cLine)(ha:bw X Y a ea)(hb:bw X Y b eb):tP X Y (.Compare a [.Eq] [b] pos) (Eb (nZ (v5 id) ea eb)):=mY (kK dh (EH hu)) MS ha hb (aZ _)
theorem og(hu:X.A.units + 64 < cLine)(ha:bw X Y a ea)(hb:bw X Y b eb):tP X Y (.Compare a [.NotEq] [b] pos) (Eb (nZ (v5 not) ea eb)):=mY (kK Ey (Ox hu)) SK ha hb (aZ _)
theorem kL(ha:bw X Y a ea)(hb:bw X Y b eb)(hm:behindInMarks .In b=false):tP X Y (.Compare a [.In] [b] pos) (Eb (nZ (Rr id) ea eb)):=mY gB (MU false) ha hb hm
theorem OT:AO J (λx y H Q=>y=.non/\Q (.bl (decide (x=.non))) H) (tX id):=λH0 A0 G al H st x y dx dy Q R I h1 h2 q k=>by
 unfold tX at q;split at q
 ·exact⟨aJ.gQ h2,k.here I (.d (.bl _)) (by rw[rX h1];exact q)⟩
 ·exact q.elim
theorem J2:AO J (λx y H Q=>y=.non/\Q (.bl (!decide (x=.non))) H) (tX not):=λH0 A0 G al H st x y dx dy Q R I h1 h2 q k=>by
 unfold tX at q;split at q
 ·exact⟨aJ.gQ h2,k.here I (.d (.bl _)) (by rw[rX h1];exact q)⟩
 ·exact q.elim
theorem FF(ha:bw X Y a ea)(hb:bw X Y b eb):tP X Y (.Compare a [.Is] [b] pos) (Eb (nZ (tX id) ea eb)):=mY N8 OT ha hb (aZ _)
theorem mn(ha:bw X Y a ea)(hb:bw X Y b eb):tP X Y (.Compare a [.IsNot] [b] pos) (Eb (nZ (tX not) ea eb)):=mY mi J2 ha hb (aZ _)
theorem pC(ha:bw X Y a ea)(he:∀whole,isTrue a X.env whole=(do let v ← whole;standAt a.pos;holding [v] (truthy v)):=by intro _;rfl):tP X Y a (Eb ea):=by
 obtain⟨ta,p1,a1⟩:=ha.h;exact⟨_,Eh p1 he,FE a1⟩
variable {rest:List Expr} {ta tb:DT}
theorem mZ(ha:tP X Y a ta):tP X Y (.UnaryOp .Not a pos) (FC ta):=by
 obtain⟨t,p1,a1⟩:=ha.h;exact⟨_,Ei p1,λH0 A0 G al H st s env Q R I E q k=>a1 H0 A0 G al H st s env _ _ I E q λb aF bu H1 e1 I1 q1=>k _ _ _ _ e1 I1 q1⟩
theorem iu(ha:tP X Y a ta):tW X Y (.BoolOp .And [a] pos) ta:=by
 obtain⟨t,p1,a1⟩:=ha.h;exact⟨_,pw_and1 p1,a1⟩
theorem rY(ha:tP X Y a ta):tW X Y (.BoolOp .Or [a] pos) ta:=by
 obtain⟨t,p1,a1⟩:=ha.h;exact⟨_,pw_or1 p1,a1⟩
theorem OU{t u:TT}(h1:AT J t ta)(h2:AT J u tb):AT J (RE t u) (BJ ta tb):=λH0 A0 G al H st s env Q R I E q k=>h1 H0 A0 G al H st s env _ _ I E q λb aF bu H1 e1 I1 q1=>by
 cases b with
 | true=>exact fh (h2 H0 A0 G bu H1 aF s env _ _ I1 (E.ext e1) (by rw[aan rfl]at q1;exact q1) (k.go I1 e1))
 | false=>exact eQ (k _ _ _ _ e1 I1 (by rw[aak aai]at q1;exact q1))
theorem SQ{t u:TT}(h1:AT J t ta)(h2:AT J u tb):AT J (XS t u) (J1 ta tb):=λH0 A0 G al H st s env Q R I E q k=>h1 H0 A0 G al H st s env _ _ I E q λb aF bu H1 e1 I1 q1=>by
 cases b with
 | false=>exact eQ (h2 H0 A0 G bu H1 aF s env _ _ I1 (E.ext e1) (by rw[aak aai]at q1;exact q1) (k.go I1 e1))
 | true=>exact fh (k _ _ _ _ e1 I1 (by rw[aan rfl]at q1;exact q1))
theorem iR(ha:tP X Y a ta)(hb:tW X Y (.BoolOp .And (b::rest) pos) tb):tW X Y (.BoolOp .And (a::b::rest) pos) (BJ ta tb):=by
 obtain⟨t,p1,a1⟩:=ha.h;obtain⟨u,p2,a2⟩:=hb.h;exact⟨_,pw_and p1 p2,OU a1 a2⟩
theorem uW(ha:tP X Y a ta)(hb:tW X Y (.BoolOp .Or (b::rest) pos) tb):tW X Y (.BoolOp .Or (a::b::rest) pos) (J1 ta tb):=by
 obtain⟨t,p1,a1⟩:=ha.h;obtain⟨u,p2,a2⟩:=hb.h;exact⟨_,pw_or p1 p2,SQ a1 a2⟩
theorem tW.dt(h:tW X Y a ta):tP X Y a ta:=by
 obtain⟨t,p1,a1⟩:=h.h;exact⟨_,p1.pt,a1⟩
@[reducible] def FG(ea eb:DX)(env:bQ)(st:aI)(Q:DC):Prop:=ea env st λx aF=>match x with
 | .dat (.bool b)=>if b=true then eb env aF Q else Q (.dat (.bool false)) aF
 | _=>False
@[reducible] def FH(ea:DX)(env:bQ)(st:aI)(Q:DC):Prop:=ea env st λx aF=>match x with
 | .dat (.bool b)=>Q (.dat (.bool (!b))) aF
 | _=>False
theorem FI{op}(h:bw X Y a ea):bw X Y (.BoolOp op [a] pos) ea:=by
 obtain⟨t,p1,a1⟩:=h.h;exact⟨_,Ej p1,a1⟩
theorem BK(ha:bw X Y a ea)(hb:bw X Y (.BoolOp .And (b::rest) pos) eb):bw X Y (.BoolOp .And (a::b::rest) pos) (FG ea eb):=by
 obtain⟨t,p1,a1⟩:=ha.h;obtain⟨u,p2,a2⟩:=hb.h;refine⟨_,Ek p1 p2,λH0 A0 G al H st s env Q R I E q k=>a1 H0 A0 G al H st s env _ _ I E q λx aF bu v H1 e1 I1 d1 q1=>?_⟩;split at q1
 ·rename_i b;rw[aJ.jf d1];refine⟨_,rfl,?_⟩
  cases b with
  | true=>exact fh (a2 H0 A0 G bu H1 aF s env _ _ I1 (E.ext e1) (by rw[aan rfl]at q1;exact q1) (k.go I1 e1))
  | false=>exact eQ ((k.go I1 e1).here I1 (.d (.bl _)) (by rw[aak aai]at q1;exact q1))
 ·exact q1.elim
theorem J3(ha:bw X Y a ea):bw X Y (.UnaryOp .Not a pos) (FH ea):=by
 obtain⟨t,p1,a1⟩:=ha.h;refine⟨_,NZ p1,λH0 A0 G al H st s env Q R I E q k=>a1 H0 A0 G al H st s env _ _ I E q λx aF bu v H1 e1 I1 d1 q1=>?_⟩;split at q1
 ·rw[aJ.jf d1];exact⟨_,rfl,(k.go I1 e1).here I1 (.d (.bl _)) q1⟩
 ·exact q1.elim
end
theorem qH{α:Type}{R:V->α->Prop}{vs:List V}{x:α}(h:cu R vs [x]):∃v,vs=[v]/\R v x:=by
 have:=h.1
 match vs,this,h with
 | [v],_,h=>exact⟨v,rfl,h.2 0 v x rfl rfl⟩
theorem J4{α:Type}{R:V->α->Prop}{vs:List V}{x y:α}(h:cu R vs [x,y]):∃v u,vs=[v,u]/\R v x/\R u y:=by
 have:=h.1
 match vs,this,h with
 | [v,u],_,h=>exact⟨v,u,rfl,h.2 0 v x rfl rfl,h.2 1 u y rfl rfl⟩
section
variable {X:Cx} {Y:YK} {a b c e:Expr} {es:List Expr} {pos p:Pos} {ea eb ec:DX} {K:aC} {J:KF} {x:Str} {id:String} {n:Nat} {d:kI} {r r':List V->Hp->VK->Prop} {o:V0}
@[reducible] def BL(o:V0)(d:kI)(env:bQ)(st:aI)(Q:DC):Prop:=d env st λxs aF=>o xs aF Q
theorem MV{t:TA}(ho:AB J r o)(h:AA J t n d):AE J (Vw r t) (BL o d):=λH0 A0 G al H st s env Q R I E q k=>h H0 A0 G al H st s env _ _ I E q λxs aF bu vs H1 e1 I1 d1 q1=>ho H0 A0 G bu H1 aF vs xs Q R I1 d1 q1.2 (k.go I1 e1)
theorem oh(hc:eO X (.builtin id) r)(ho:AB (kf X Y) r o)(hg:Gl X x)(hm:X.mg x=none)(hv:bootBuiltins x=some (.builtin id))(ha:qG X Y (e::es) n d)(hn:x≠"__name__":=by decide)(hdb:(x == ("__debug__" : Str))=false:=by decide)
  (he:starEach (e::es) X.env=(false,eval e X.env)::starEach es X.env:=by rfl) (hpl:(backTo pos (starEach es X.env)).any (·.1)=false:=by rfl):bw X Y (.Call (.Name x p) (e::es) [] pos) (BL o d):=by
 obtain⟨t,p1,a1⟩:=ha.h;exact⟨_,cn hc hg hm hv p1 hn hdb he hpl,MV ho a1⟩
theorem pD{T:String}(hc:eO X (.type T) r)(ho:AB (kf X Y) r o)(hg:Gl X x)(hm:X.mg x=none)(hv:bootBuiltins x=some (.type T))(ha:qG X Y (e::es) n d)(hn:x≠"__name__":=by decide)(hdb:(x == ("__debug__" : Str))=false:=by decide)
  (he:starEach (e::es) X.env=(false,eval e X.env)::starEach es X.env:=by rfl) (hpl:(backTo pos (starEach es X.env)).any (·.1)=false:=by rfl):bw X Y (.Call (.Name x p) (e::es) [] pos) (BL o d):=by
 obtain⟨t,p1,a1⟩:=ha.h;exact⟨_,i8 hc hg hm hv p1 hn hdb he hpl,MV ho a1⟩
theorem MW{f:Value}(h:eO X f r)(h':eO X f r'):eO X f (λxs H Q=>r xs H Q∨r' xs H Q):=λpins s σ H xs us Q I rv q=>by
 rcases q with q | q
 ·exact h pins s σ H xs us Q I rv q
 ·exact h' pins s σ H xs us Q I rv q
@[reducible] def FJ(xs:List DV)(st:aI)(Q:DC):Prop:=match xs with
 | [.dat (.str z)]=>z.length<=1000000/\Q (.dat (.int z.length)) st
 | [x]=>match mQ st x with
  | some ds=>Q (.dat (.int ds.length)) st
  | none=>False
 | _=>False
theorem OV:AB J (λxs H Q=>(∃p ys,xs=[.ref p]/\(cG J H p ys∨bz J H p ys)/\Q (.int ys.length) H)∨∃z,xs=[.str z]/\z.length<=sizeLine/\Q (.int z.length) H) FJ:=λH0 A0 G al H st vs ds Q R I h q k=>by
 unfold FJ at q;split at q
 ·obtain⟨v,rfl,h1⟩:=qH h;rw[aJ.c8 h1];exact .inr ⟨_,rfl,jD q.1,k.here I (.d (.int _)) q.2⟩
 ·split at q
  ·rename_i ds e;obtain⟨v,rfl,h1⟩:=qH h;obtain⟨p,ys,rfl,g1,g2⟩:=h1.Rq I e;exact .inl ⟨p,ys,rfl,g1,k.here I (.d (.int _)) (by rw[g2.len];exact q)⟩
  ·exact q.elim
 ·exact q.elim
theorem bB(hg:Gl X "len")(hm:X.mg "len"=none)(ha:qG X Y [e] n d)(he:starEach [e] X.env=(false,eval e X.env)::starEach [] X.env:=by rfl):bw X Y (.Call (.Name "len" p) [e] [] pos) (BL FJ d):=oh (MW bM vP) OV hg hm gK ha (by decide) (by decide) he rfl
@[reducible] def yd(xs:List DV)(st:aI)(Q:DC):Prop:=match xs with
 | [x]=>match mQ st x with
  | some ds=>Q (.dat (.list ds)) st
  | none=>False
 | _=>False
theorem J5:AB J (λxs H Q=>∃p ys,xs=[.ref p]/\(cG J H p ys∨bz J H p ys)/\∀l,H l=none->Q (.ref l) (upd H l (.lst ys))) yd:=λH0 A0 G al H st vs ds Q R I h q k=>by
 unfold yd at q;split at q
 ·split at q
  ·rename_i ds e;obtain⟨v,rfl,h1⟩:=qH h;obtain⟨p,ys,rfl,g1,g2⟩:=h1.Rq I e;exact⟨p,ys,rfl,g1,λl hl=>k.list I hl g2 q⟩
  ·exact q.elim
 ·exact q.elim
theorem rq(hg:Gl X "list")(hm:X.mg "list"=none)(ha:qG X Y [e] n d)(he:starEach [e] X.env=(false,eval e X.env)::starEach [] X.env:=by rfl):bw X Y (.Call (.Name "list" p) [e] [] pos) (BL yd d):=pD f9 J5 hg hm rh ha (by decide) (by decide) he rfl
@[reducible] def rZ(xs:List DV)(st:aI)(Q:DC):Prop:=match xs with
 | [x]=>match mQ st x with
  | some ds=>Q (.dat (.tuple ds)) st
  | none=>False
 | _=>False
theorem FK:AB J (λxs H Q=>∃p ys,xs=[.ref p]/\((cG J H p ys/\∀l,H l=none->Q (.ref l) (upd H l (.tup ys)))∨(bz J H p ys/\Q (.ref p) H))) rZ:=λH0 A0 G al H st vs ds Q R I h q k=>by
 unfold rZ at q;split at q
 ·split at q
  ·rename_i ds e;obtain⟨v,rfl,h1⟩:=qH h;obtain⟨p,ys,rfl,g1,g2⟩:=h1.Rq I e;refine⟨p,ys,rfl,?_⟩;rcases g1 with g1 | g1
   ·exact .inl ⟨g1,λl hl=>k.laid I (eT hl) (.d (aJ.tup (I.C0 hl) uS (g2.imp λy x z=>z.same (eT hl)))) q⟩
   ·exact .inr ⟨g1,k.here I (.d (aO.tup (I.Fq g1) g2.1 g2.2)) q⟩
  ·exact q.elim
 ·exact q.elim
theorem sf(hg:Gl X "tuple")(hm:X.mg "tuple"=none)(ha:qG X Y [e] n d)(he:starEach [e] X.env=(false,eval e X.env)::starEach [] X.env:=by rfl):bw X Y (.Call (.Name "tuple" p) [e] [] pos) (BL rZ d):=pD mM FK hg hm xT ha (by decide) (by decide) he rfl
@[reducible] def FL(xs:List DV)(st:aI)(Q:DC):Prop:=match xs with
 | [.dat (.int i),.dat (.int j)]=>Q (.dat (.int (if j < i then j else i))) st
 | _=>False
@[reducible] def FN(xs:List DV)(st:aI)(Q:DC):Prop:=match xs with
 | [.dat (.int i),.dat (.int j)]=>Q (.dat (.int (if j > i then j else i))) st
 | [x]=>match ip st x with
  | some ds=>∃ns:List Int,ds=ns.map PyData.int/\0 < ns.length/\∀m,m∈ns->(∀a∈ns,a<=m)->Q (.dat (.int m)) st
  | none=>False
 | _=>False
theorem wb{P:Addr->Prop}{H:Hp}:∀{ys:List V} {ns:List Int},cu (aJ K P H) ys (ns.map PyData.int)->ys=ns.map V.int
 | [],[],_=>rfl
 | [],_::_,h=>by have:=h.1;simp at this
 | _::_,[],h=>by have:=h.1;simp at this
 | y::ys,i::ns,h=>by
  have h0:=aJ.aU (h.2 0 y (.int i) rfl rfl);have ht:=wb (ys:=ys) (ns:=ns) ⟨by simpa using h.1,λj p q a b=>h.2 (j + 1) p q (by simpa using a) (by simpa using b)⟩;rw[h0,ht];rfl
theorem OW:AB J (λxs H Q=>∃i j,xs=[.int i,.int j]/\Q (.int (if j < i then j else i)) H) FL:=λH0 A0 G al H st vs ds Q R I h q k=>by
 unfold FL at q;split at q
 ·obtain⟨v,u,rfl,h1,h2⟩:=J4 h;rw[aJ.aU h1,aJ.aU h2];exact⟨_,_,rfl,k.here I (.d (.int _)) q⟩
 ·exact q.elim
theorem OX:AB J (λxs H Q=>(∃i j,xs=[.int i,.int j]/\Q (.int (if j > i then j else i)) H)∨MG J xs H Q) FN:=λH0 A0 G al H st vs ds Q R I h q k=>by
 unfold FN at q;split at q
 ·obtain⟨v,u,rfl,h1,h2⟩:=J4 h;rw[aJ.aU h1,aJ.aU h2];exact .inl ⟨_,_,rfl,k.here I (.d (.int _)) q⟩
 ·split at q
  ·rename_i ds e;obtain⟨ns,rfl,q1,q2⟩:=q;obtain⟨v,rfl,h1⟩:=qH h;obtain⟨p,ys,rfl,g1,g2⟩:=h1.MQ I e;rw[wb g2]at g1;exact .inr ⟨p,ns,rfl,g1,q1,λm hm ha=>k.here I (.d (.int _)) (q2 m hm ha)⟩
  ·exact q.elim
 ·exact q.elim
theorem OY(hc:X.calm=true)(hg:Gl X "min")(hm:X.mg "min"=none)(ha:qG X Y (e::es) n d)(he:starEach (e::es) X.env=(false,eval e X.env)::starEach es X.env:=by rfl)(hpl:(backTo pos (starEach es X.env)).any (·.1)=false:=by rfl):bw X Y (.Call (.Name "min" p) (e::es) [] pos) (BL FL d):=oh (CA hc) OW hg hm Ou ha (by decide) (by decide) he hpl
theorem OZ(hc:X.calm=true)(hg:Gl X "max")(hm:X.mg "max"=none)(ha:qG X Y (e::es) n d)(he:starEach (e::es) X.env=(false,eval e X.env)::starEach es X.env:=by rfl)(hpl:(backTo pos (starEach es X.env)).any (·.1)=false:=by rfl):bw X Y (.Call (.Name "max" p) (e::es) [] pos) (BL FN d):=oh (MW (Cz hc) (CK hc)) OX hg hm Ot ha (by decide) (by decide) he hpl
@[reducible] def FO(xs:List DV)(st:aI)(Q:DC):Prop:=match xs with
 | [.dat (.int i)]=>Q (.dat (.int i)) st
 | [.dat (.bool b)]=>Q (.dat (.int (if b then 1 else 0))) st
 | _=>False
theorem O0:AB J (λxs H Q=>(∃i,xs=[.int i]/\Q (.int i) H)∨∃k,xs=[.bl k]/\Q (.int (if k then 1 else 0)) H) FO:=λH0 A0 G al H st vs ds Q R I h q k=>by
 unfold FO at q;split at q
 ·obtain⟨v,rfl,h1⟩:=qH h;rw[aJ.aU h1];exact .inl ⟨_,rfl,k.here I (.d (.int _)) q⟩
 ·obtain⟨v,rfl,h1⟩:=qH h;rw[aJ.jf h1];exact .inr ⟨_,rfl,k.here I (.d (.int _)) q⟩
 ·exact q.elim
theorem si(hg:Gl X "int")(hm:X.mg "int"=none)(ha:qG X Y [e] n d)(he:starEach [e] X.env=(false,eval e X.env)::starEach [] X.env:=by rfl):bw X Y (.Call (.Name "int" p) [e] [] pos) (BL FO d):=pD CB O0 hg hm EF ha (by decide) (by decide) he rfl
@[reducible] def FQ(xs:List DV)(st:aI)(Q:DC):Prop:=match xs with
 | [x]=>match ip st x with
  | some ds=>∃ns:List Int,ds=ns.map PyData.int/\Q (.dat (.int ns.sum)) st
  | none=>False
 | _=>False
theorem O1:AB J (MP J) FQ:=λH0 A0 G al H st vs ds Q R I h q k=>by
 unfold FQ at q;split at q
 ·split at q
  ·rename_i ds e;obtain⟨ns,rfl,q1⟩:=q;obtain⟨v,rfl,h1⟩:=qH h;obtain⟨p,ys,rfl,g1,g2⟩:=h1.MQ I e;rw[wb g2]at g1;exact⟨p,ns,rfl,g1,k.here I (.d (.int _)) q1⟩
  ·exact q.elim
 ·exact q.elim
theorem O3(hc:X.calm=true)(hg:Gl X "sum")(hm:X.mg "sum"=none)(ha:qG X Y [e] n d)(he:starEach [e] X.env=(false,eval e X.env)::starEach [] X.env:=by rfl):bw X Y (.Call (.Name "sum" p) [e] [] pos) (BL FQ d):=oh (CZ hc) O1 hg hm Ow ha (by decide) (by decide) he rfl
abbrev MX:=List PyData->(PyData->Prop)->Prop
def pE(K:aC)(T:MX):Sp:=λvs H Q _=>∃(P:Addr->Prop) (ds:List PyData),(∀c,P c->∃o,H c=some o/\jd o)/\cu (aJ K P H) vs ds/\T ds λd=>∀v H',aK H H'->aJ K P H' v d->Q v H'
def qi(K:aC)(sp:Sp)(T:MX):Prop:=∀(vs:List V) (H:Hp) (Q:VK) (P:Addr->Prop) (ds:List PyData),(∀c,P c->∃o,H c=some o/\jd o)->cu (aJ K P H) vs ds->T ds (λd=>∀v H',aK H H'->aJ K P H' v d->Q v H')->sp vs H Q E0
theorem dz{T:MX}:qi K (pE K T) T:=λvs H Q P ds h1 h2 h3=>⟨P,ds,h1,h2,h3⟩
def e9(T:MX):Prop:=∀ds (Q Q':PyData->Prop),(∀d,Q d->Q' d)->T ds Q->T ds Q'
@[reducible] def BM(T:MX)(xs:List DV)(st:aI)(Q:DC):Prop:=eM xs st λds aF=>T ds λd=>Q (.dat d) aF
theorem FR{H:Hp}{v:V}{d:PyData}(h:aO K H v d):aJ K (λ_=>False) H v d:=aO.same (λc o e=>bG.mpr ⟨λz=>z,e⟩) h
theorem J6{sp:Sp}{T:MX}(h:qi J sp T)(m:e9 T):AB J (λvs H Q=>sp (vs++[]) H Q E0) (BM T):=λH0 A0 G al H st vs ds Q R I hp q k=>by
 obtain⟨es,aF,E1,I1,F1,q1⟩:=iq I hp q;rw[aaM];refine h vs H R (Fb G al aF) es (λc hc=>I1.pq hc) F1 (m _ _ _ (λd hd v H' s r=>?_) q1);exact(k.go I1 E1).laid I1 s (.d r) hd
theorem J7{sp:Sp}{t:TA}(h:AB J (λvs H Q=>sp (vs++[]) H Q E0) o)(ha:AA J t n d):AE J (Bi sp [] E0 t) (BL o d):=λH0 A0 G al H st s env Q R I E q k=>ha H0 A0 G al H st s env _ _ I E q λxs aF bu vs H1 e1 I1 d1 q1=>h H0 A0 G bu H1 aF vs xs Q R I1 d1 q1.2 (k.go I1 e1)
theorem aD{kk:Nat}{ps:List Str}{sp:Sp}{T:MX}(h:dw X.prog X.w X.K X.mg X.base bP x kk ps sp)(hs:qi X.K sp T)(m:e9 T)(hr:dW kk X.A)(hg:Gl X x)(ha:qG X Y (e::es) n d)(hdb:(x == ("__debug__" : Str))=false:=by decide)
  (he:starEach (e::es) X.env=(false,eval e X.env)::starEach es X.env:=by rfl) (hpl:(backTo pos (starEach es X.env)).any (·.1)=false:=by rfl):bw X Y (.Call (.Name x p) (e::es) [] pos) (BL (BM T) d):=by
 obtain⟨t,p1,a1⟩:=ha.h;exact⟨_,bY h hr hg p1 hdb he hpl,J7 (J6 hs m) a1⟩
end
abbrev pF:=bQ->aI->(List PyData->(aI->Prop)->aI->Prop)->Prop
def Yh(J:KF)(H0:Hp)(A0:Addr->Prop)(G:Addr->Prop)(al:List (List Addr))(H:Hp)(st:aI)(Jj:It)(xs:List PyData)(ok:aI->Prop):Prop:=∀(G1:Addr->Prop) (bu:List (List Addr)) (H1:Hp) (aF:aI) (i:Nat),(∀c,G1 c->G c∨H c=none)->Ext al H st bu H1 aF->DI J H0 A0 G1 bu H1 aF->ok aF ->
 (∀d,xs[i]?=some d->Jj.go i H1/\∀x H2,Jj.yld i H1 x H2->aK H1 H2/\aJ J (Fb G1 bu aF) H2 x d)/\(xs.length<=i->i<=xs.length->Jj.stop i H1)
def AI(J:KF)(wi:TI)(di:pF):Prop:=∀(H0:Hp) (A0:Addr->Prop) (G:Addr->Prop) (al:List (List Addr)) (H:Hp) (st:aI) (s:St) (env:bQ) (Q:List PyData->(aI->Prop)->aI->Prop) (R:It->Hp->Prop),DI J H0 A0 G al H st->kG J (Fb G al st) H al s env->di env st Q ->
 (∀Jj xs ok st' al' H',Ext al H st al' H' st'->DI J H0 A0 G al' H' st'->Yh J H0 A0 G al' H' st' Jj xs ok->Q xs ok st'->R Jj H')->wi s H R
structure IH(X:Cx)(Y:YK)(tg iter:Expr)(d:pF):Prop where
 h:∃wi,PI X tg iter wi/\AI (kf X Y) wi d
def Yi(K:aC)(tl:TE):TI:=λσ H R=>tl σ H λx H1=>∃a,x=.ref a/\(((∃xs,cG K H1 a xs)/\R (N3 K a) H1)∨((∃xs,bz K H1 a xs)/\R (Vr K a) H1))
theorem SR{X:Cx}{tg l:Expr}{tl:TE}(hl:PE X l tl):PI X tg l (Yi X.K tl):=by
 intro pins s σ H R I h;refine cU (hl pins s σ H _ I h) λv s1 ⟨x,H1,I1,r1,q1⟩=>?_
 obtain⟨a,e,q⟩:=q1;subst e;cases r1
 have fin:∀b∈[s1.heap.objs.size],nO X pins H1 b:=λb hb=>by
  have e:b=s1.heap.objs.size:=by simpa using hb
  subst e;exact I1.Cu (aag _) (I1.hok.fresh (aag _))
 rcases q with⟨⟨xs,hq⟩,q⟩ | ⟨⟨xs,hq⟩,q⟩
 ·obtain⟨its,rv,p,hz⟩:=I1.list hq;refine abK p.isList ?_;exact⟨s1.heap.objs.size,[s1.heap.objs.size],_,_,H1,rfl,I1.kept (t':=s1.toks) λb o e=>aaa _ e,uB a _,⟨_,aas _ rfl,rfl,rfl⟩,fin,q⟩
 ·obtain⟨its,rv,p,hz⟩:=I1.tuple hq;refine wpAny_pyIter_tuple (show s1.heap.IsTuple a its.toArray from p) ?_;exact⟨s1.heap.objs.size,[s1.heap.objs.size],_,_,H1,rfl,I1.kept (t':=s1.toks) λb o e=>aaa _ e,zu a _,⟨_,aas _ rfl,rfl,rfl⟩,fin,q⟩
def SS(K:aC)(ta:TA):TI:=λσ H R=>ta σ H λvs H1=>∃q1 q2 l1 l2 xs ys,vs=[.ref l1,.ref l2]/\rk q1 K H1 l1 xs/\rk q2 K H1 l2 ys/\R (UY q1 q2 K l1 l2 xs ys) H1
theorem J8{X:Cx}{elts:List Expr}{kx}{tpos:Pos}{a b:Expr}{ta:TA}{p pos:Pos}(hg:Gl X "zip")(hm:X.mg "zip"=none)(ha:PA X [a,b] ta)(hs:starEach [a,b] X.env=[(false,eval a X.env),(false,eval b X.env)]:=by rfl)(zp:starEach [b] X.env=[(false,eval b X.env)]:=by rfl):
  PI X (.Tuple elts kx tpos) (.Call (.Name "zip" p) [a,b] [] pos) (SS X.K ta):=by
 intro pins s σ H R I h;refine Call_ (ju I hg hm EG (aaK (cU (ha pos pins s σ H _ I h) λus s1 ⟨vs,H1,I1,r1,q1⟩=>?_) (by rw[hs,zp]) (by rw[zp];rfl)));obtain⟨w1,w2,l1,l2,xs,ys,rfl,s1',s2',q⟩:=q1;obtain⟨u1,u2,rfl,JC,Sg⟩:=vals2 r1;cases JC;cases Sg;obtain⟨VS,r1,p1⟩:=s1'.heap I1;obtain⟨ZN,r2,p2⟩:=s2'.heap I1;have n1:=p1.lt;have n2:=p2.lt;refine uK p1 p2 λh' hz hTI hTO h1 h2 kk=>?_
 refine aco hz ?_;refine⟨s1.heap.objs.size + 4,[s1.heap.objs.size + 4,s1.heap.objs.size + 2,s1.heap.objs.size + 3,s1.heap.objs.size,s1.heap.objs.size + 1],_,_,H1,rfl,I1.kept (t':=s1.toks) kk,xX xs ys ⟨?_,?_,?_,?_,?_,?_,?_,?_,?_,?_,?_,?_,?_,?_,?_,?_,?_,?_⟩,⟨hz,hTI,⟨_,_,hTO⟩,h1,h2⟩,?_,q⟩
 all_goals first | exact aam (abz (by decide) _) | exact aaZ (abz (by decide) _) | exact aam (abf (by decide)) | exact aaZ (abf (by decide)) | exact aam (aal n1 (abR _ _)) | exact aam (aal n2 (abR _ _)) | exact aam n1 | exact aam n2 | skip
 intro c hb
 have hb':s1.heap.objs.size<=c:=by
  simp at hb;rcases hb with e | e | e | e | e<;>(rw[e];first | exact Nat.le_refl _ | exact Nat.le_add_right _ _)
 exact I1.Cu hb' (I1.hok.fresh hb')
section
variable {X:Cx} {Y:YK} {tg a b c e:Expr} {es:List Expr} {pos p:Pos} {ea eb ec:DX} {K:aC} {J:KF} {n:Nat} {d:kI}
theorem aJ.seq{P:Addr->Prop}{H:Hp}{v:V}{d:PyData}{ds:List PyData}(h:aJ K P H v d)(e:d=.list ds∨d=.tuple ds):∃q a ys,v=.ref a/\rk q K (cutH P H) a ys/\rk q K H a ys/\cu (aJ K P H) ys ds:=by
 rcases e with rfl | rfl
 ·obtain⟨a,ys,h1,h2,h3,h4⟩:=aJ.dn h;exact⟨true,a,ys,h1,h3,h2,h4⟩
 ·obtain⟨a,ys,h1,h2,h3,h4⟩:=aJ.bq h;exact⟨false,a,ys,h1,h3,h2,h4⟩
theorem rk.cut{P:Addr->Prop}{H:Hp}{q:Bool}{a:Addr}{ys:List V}(h:rk q K (cutH P H) a ys):rk q K H a ys:=by
 cases q with
 | true=>exact cP.seq h
 | false=>exact cP.tup h
theorem rk.same{H H':Hp}{q:Bool}{a:Addr}{ys:List V}(h:rk q K H a ys)(s:aK H H'):rk q K H' a ys:=by
 cases q with
 | true=>exact s.seq h
 | false=>exact s.tup h
@[reducible] def J9(ea:DX)(env:bQ)(st:aI)(Q:List PyData->(aI->Prop)->aI->Prop):Prop:=ea env st λx aF=>mL x aF λd bJ=>match d with
 | .list ds=>Q ds (λ_=>True) bJ
 | .tuple ds=>Q ds (λ_=>True) bJ
 | _=>False
theorem O4{t:TE}(h:AE J t ea):AI J (Yi J t) (J9 ea):=λH0 A0 G al H st s env Q R I E q k=>h H0 A0 G al H st s env _ _ I E q λx aF bu v H1 e1 I1 d1 q1=>by
 obtain⟨d,bJ,E2,I2,F2,q2⟩:=px I1 d1 q1
 obtain⟨ds,ed,q2⟩:∃ds,(d=.list ds∨d=.tuple ds)/\Q ds (λ_=>True) bJ:=by
  split at q2
  ·exact⟨_,.inl rfl,q2⟩
  ·exact⟨_,.inr rfl,q2⟩
  ·exact q2.elim
 obtain⟨w,a,ys,rfl,g1,g2,g3⟩:=F2.seq ed;refine⟨a,rfl,?_⟩;have pB:=e1.trans I1 E2
 cases w with
 | true =>
  refine .inl ⟨⟨ys,g2⟩,k (N3 J a) ds _ bJ bu H1 pB I2 (λG1 U3 H3 kc i hG e3 I3 _=>⟨λd hd=>?_,λh1 _=>?_⟩) q2⟩
  ·have s3:=(dM hG e3).seq g1;obtain⟨y,hy,_⟩:=g3.at hd;refine⟨⟨ys,y,cP.seq s3,hy⟩,λx H4 ⟨e4,z⟩=>?_⟩;subst e4;have:=z ys (cP.seq s3);exact⟨.refl _,(g3.2 i x d this hd).je hG e3⟩
  ·exact⟨ys,cP.seq ((dM hG e3).seq g1),by rw[g3.1];exact h1⟩
 | false =>
  refine .inr ⟨⟨ys,g2⟩,k (Vr J a) ds _ bJ bu H1 pB I2 (λG1 U3 H3 kc i hG e3 I3 _=>⟨λd hd=>?_,λh1 _=>?_⟩) q2⟩
  ·have s3:=(dM hG e3).tup g1;obtain⟨y,hy,_⟩:=g3.at hd;refine⟨⟨ys,y,cP.tup s3,hy⟩,λx H4 ⟨e4,z⟩=>?_⟩;subst e4;have:=z ys (cP.tup s3);exact⟨.refl _,(g3.2 i x d this hd).je hG e3⟩
  ·exact⟨ys,cP.tup ((dM hG e3).tup g1),by rw[g3.1];exact h1⟩
theorem pG(h:bw X Y a ea):IH X Y tg a (J9 ea):=by
 obtain⟨t,p1,a1⟩:=h.h;exact⟨_,SR p1,O4 a1⟩
def wc(lo:Int)(m:Nat):List PyData:=(List.range m).map λ(k:Nat)=>PyData.int (lo + (k:Int))
theorem dj{lo:Int}{m:Nat}:(wc lo m).length=m:=by unfold wc;rw[List.length_map,List.length_range]
theorem gf{lo:Int}{m i:Nat}{d:PyData}(h:(wc lo m)[i]?=some d):i < m/\d=.int (lo + (i:Int)):=by
 have hi:=(bX h).1;rw[dj]at hi;unfold wc at h;rw[List.getElem?_map,List.getElem?_range hi]at h;cases h;exact⟨hi,rfl⟩
@[reducible] def we(d:kI)(env:bQ)(st:aI)(Q:List PyData->(aI->Prop)->aI->Prop):Prop:=d env st λxs aF=>match xs with
 | [.dat (.int j)]=>(-(2 ^ 62)<=j/\j < 2 ^ 62)/\Q (wc 0 j.toNat) (λ_=>True) aF
 | _=>False
@[reducible] def wg(d:kI)(env:bQ)(st:aI)(Q:List PyData->(aI->Prop)->aI->Prop):Prop:=d env st λxs aF=>match xs with
 | [.dat (.int i),.dat (.int j)]=>(-(2 ^ 62)<=i/\i < 2 ^ 62/\-(2 ^ 62)<=j/\j < 2 ^ 62)/\Q (wc i (j - i).toNat) (λ_=>True) aF
 | _=>False
theorem BN{H0:Hp}{A0:Addr->Prop}{G:Addr->Prop}{al:List (List Addr)}{H:Hp}{st:aI}{lo:Int}{m:Nat}{ok:aI->Prop}:Yh J H0 A0 G al H st (Mv lo m) (wc lo m) ok:=λG1 bu H1 aF i hG e1 I1 _=>by
 refine⟨λd hd=>?_,λh1 _=>by rw[dj]at h1;exact h1⟩;obtain⟨hi,rfl⟩:=gf hd;refine⟨hi,λx H2 ⟨e,z⟩=>?_⟩;subst e;subst z;exact⟨.refl _,.int _⟩
theorem fj(hg:Gl X "range")(hm:X.mg "range"=none)(ha:qG X Y [a] n d)(hs:starEach [a] X.env=[(false,eval a X.env)]:=by rfl):IH X Y tg (.Call (.Name "range" p) [a] [] pos) (we d):=by
 obtain⟨t,p1,a1⟩:=ha.h;refine⟨_,uC hg hm p1 hs,λH0 A0 G al H st s env Q R I E q k=>a1 H0 A0 G al H st s env _ _ I E q λxs aF bu vs H1 e1 I1 d1 q1=>?_⟩;have q1:=q1.2;split at q1
 ·obtain⟨v,rfl,h1⟩:=qH d1;rw[aJ.aU h1];exact⟨_,rfl,q1.1.1,q1.1.2,k _ _ _ aF bu H1 e1 I1 BN q1.2⟩
 ·exact q1.elim
theorem uX(hg:Gl X "range")(hm:X.mg "range"=none)(ha:qG X Y [a,b] n d)(hs:starEach [a,b] X.env=[(false,eval a X.env),(false,eval b X.env)]:=by rfl)(zp:starEach [b] X.env=[(false,eval b X.env)]:=by rfl):IH X Y tg (.Call (.Name "range" p) [a,b] [] pos) (wg d):=by
 obtain⟨t,p1,a1⟩:=ha.h;refine⟨_,Cv hg hm p1 hs zp,λH0 A0 G al H st s env Q R I E q k=>a1 H0 A0 G al H st s env _ _ I E q λxs aF bu vs H1 e1 I1 d1 q1=>?_⟩;have q1:=q1.2;split at q1
 ·obtain⟨v,u,rfl,h1,h2⟩:=J4 d1;rw[aJ.aU h1,aJ.aU h2];exact⟨_,_,rfl,q1.1,k _ _ _ aF bu H1 e1 I1 BN q1.2⟩
 ·exact q1.elim
def C3(xs ys:List PyData):List PyData:=(xs.zip ys).map λp=>PyData.tuple [p.1,p.2]
@[reducible] def FT:PyData->Option (List PyData)
 | .list ds=>some ds
 | .tuple ds=>some ds
 | _=>none
theorem BO{d:PyData}{ds:List PyData}(h:FT d=some ds):d=.list ds∨d=.tuple ds:=by
 cases d with
 | list x=>cases h;exact .inl rfl
 | tuple x=>cases h;exact .inr rfl
 | _=>cases h
@[reducible] def FU(d:kI)(env:bQ)(st:aI)(Q:List PyData->(aI->Prop)->aI->Prop):Prop:=d env st λxs aF=>eM xs aF λds bJ=>match ds with
 | [x,y]=>match FT x,FT y with
  | some xs,some ys=>Q (C3 xs ys) (λ_=>True) bJ
  | _,_=>False
 | _=>False
theorem FV{elts:List Expr}{kx}{tpos:Pos}(hg:Gl X "zip")(hm:X.mg "zip"=none)(ha:qG X Y [a,b] n d)(hs:starEach [a,b] X.env=[(false,eval a X.env),(false,eval b X.env)]:=by rfl)(zp:starEach [b] X.env=[(false,eval b X.env)]:=by rfl):IH X Y (.Tuple elts kx tpos) (.Call (.Name "zip" p) [a,b] [] pos) (FU d):=by
 obtain⟨t,p1,a1⟩:=ha.h;refine⟨_,J8 hg hm p1 hs zp,λH0 A0 G al H st s env Q R I E q k=>a1 H0 A0 G al H st s env _ _ I E q λxs aF bu vs H1 e1 I1 d1 q1=>?_⟩;obtain⟨ds,bJ,E2,I2,F2,q2⟩:=iq I1 d1 q1.2;have pB:=e1.trans I1 E2;split at q2
 ·split at q2
  ·rename_i us ws c1 c2;obtain⟨v,u,rfl,h1,h2⟩:=J4 F2;obtain⟨w1,l1,ys,rfl,f1,f2,f3⟩:=h1.seq (BO c1);obtain⟨w2,l2,zs,rfl,g1,g2,g3⟩:=h2.seq (BO c2);refine⟨w1,w2,l1,l2,ys,zs,rfl,f2,g2,k _ _ _ bJ bu H1 pB I2 (λG1 U3 H3 kc i hG e3 I3 _=>⟨λd hd=>?_,λh1 _=>?_⟩) q2⟩
   ·have s1:=(rk.same f1 (dM hG e3)).cut;have s2:=(rk.same g1 (dM hG e3)).cut;unfold C3 at hd;rw[List.getElem?_map]at hd
    cases q:(us.zip ws)[i]? with
    | none=>rw[q]at hd;cases hd
    | some pr =>
     rw[q]at hd;cases hd;rw[List.getElem?_zip_eq_some]at q;have l1':=(bX q.1).1;have l2':=(bX q.2).1;refine⟨⟨by rw[f3.1];exact l1',by rw[g3.1];exact l2',s1,s2⟩,λx H4 ⟨T,y,z,nT,ex,eH,hy,hz⟩=>?_⟩;subst ex;subst eH;have sm:=eT (o:=.tup [y,z]) nT;refine⟨sm,aJ.tup (I3.C0 nT) uS (.cons ?_ (.cons ?_ .nil))⟩
     ·exact((f3.2 i y _ hy q.1).je hG e3).same sm
     ·exact((g3.2 i z _ hz q.2).je hG e3).same sm
   ·unfold C3 at h1;rw[List.length_map,List.length_zip]at h1;refine⟨?_,(rk.same f1 (dM hG e3)).cut,(rk.same g1 (dM hG e3)).cut⟩;rw[f3.1,g3.1];omega
  ·exact q2.elim
 ·exact q2.elim
def ye(xs:List PyData):List PyData:=(List.range xs.length).zipWith (λ(i:Nat) x=>PyData.tuple [.int (i:Int),x]) xs
@[reducible] def zS(d:kI)(env:bQ)(st:aI)(Q:List PyData->(aI->Prop)->aI->Prop):Prop:=d env st λxs aF=>eM xs aF λds bJ=>match ds with
 | [.list xs]=>Q (ye xs) (λ_=>True) bJ
 | _=>False
theorem pH{xs:List PyData}:(ye xs).length=xs.length:=by unfold ye;simp
theorem yf{xs:List PyData}{i:Nat}{d:PyData}(h:(ye xs)[i]?=some d):∃x,xs[i]?=some x/\d=.tuple [.int (i:Int),x]:=by
 have hi:=(bX h).1;rw[pH]at hi;refine⟨xs[i],cW hi,?_⟩;unfold ye at h;rw[List.getElem?_zipWith,List.getElem?_range hi,cW hi]at h;cases h;rfl
theorem Ka{elts:List Expr}{kx}{tpos:Pos}(hg:Gl X "enumerate")(hm:X.mg "enumerate"=none)(ha:qG X Y [a] n d)(hs:starEach [a] X.env=[(false,eval a X.env)]:=by rfl):IH X Y (.Tuple elts kx tpos) (.Call (.Name "enumerate" p) [a] [] pos) (zS d):=by
 obtain⟨t,p1,a1⟩:=ha.h;refine⟨_,JJ hg hm p1 hs,λH0 A0 G al H st s env Q R I E q k=>a1 H0 A0 G al H st s env _ _ I E q λxs aF bu vs H1 e1 I1 d1 q1=>?_⟩;obtain⟨ds,bJ,E2,I2,F2,q2⟩:=iq I1 d1 q1.2;have pB:=e1.trans I1 E2;split at q2
 ·rename_i us;obtain⟨v,rfl,h1⟩:=qH F2;obtain⟨l,ys,rfl,f2,f1,f3⟩:=aJ.dn h1;refine⟨l,ys,rfl,f2,k _ _ _ bJ bu H1 pB I2 (λG1 U3 H3 kc i hG e3 I3 _=>⟨λd hd=>?_,λh1 h2=>?_⟩) q2⟩
  ·have s1:=cP.seq ((dM hG e3).seq f1);obtain⟨x,hx,rfl⟩:=yf hd;have hi:=(bX hx).1;refine⟨⟨by rw[f3.1];exact hi,s1⟩,λw H4 ⟨T,y,nT,ex,eH,hy⟩=>?_⟩;subst ex;subst eH;have sm:=eT (o:=.tup [.int (i:Int),y]) nT;exact⟨sm,aJ.tup (I3.C0 nT) uS (.cons (.int _) (.cons (((f3.2 i y _ hy hx).je hG e3).same sm) .nil))⟩
  ·rw[pH]at h1;exact⟨by rw[f3.1];exact h1,cP.seq ((dM hG e3).seq f1)⟩
 ·exact q2.elim
abbrev qj:=DV->bQ->aI->(bQ->aI->Prop)->Prop
abbrev yg:=List PyData->bQ->aI->(bQ->aI->Prop)->Prop
def MY(J:KF)(H0:Hp)(A0:Addr->Prop)(G:Addr->Prop)(al:List (List Addr))(H:Hp)(st:aI)(Q:bQ->aI->Prop)(R:St->Hp->Prop):Prop:=∀env' st' al' s' H',Ext al H st al' H' st'->DI J H0 A0 G al' H' st'->kG J (Fb G al' st') H' al' s' env'->Q env' st'->R s' H'
theorem MY.go{H0:Hp}{A0:Addr->Prop}{G:Addr->Prop}{al bu:List (List Addr)}{H H1:Hp}{st aF:aI}{Q:bQ->aI->Prop}{R:St->Hp->Prop}(k:MY J H0 A0 G al H st Q R)(I:DI J H0 A0 G bu H1 aF)(e:Ext al H st bu H1 aF):MY J H0 A0 G bu H1 aF Q R:=λdv st' al' s' H' e' I' h q=>k dv st' al' s' H' (e.trans I e') I' h q
def AG(J:KF)(g:TG)(dg:qj):Prop:=∀(H0:Hp) (A0:Addr->Prop) (G:Addr->Prop) (al:List (List Addr)) (H:Hp) (st:aI) (s:St) (env:bQ) (v:V) (dv:DV) (Q:bQ->aI->Prop) (R:St->Hp->Prop),DI J H0 A0 G al H st->kG J (Fb G al st) H al s env->gM J (Fb G al st) H al v dv->dg dv env st Q->MY J H0 A0 G al H st Q R->g v s H R
def SU(J:KF)(g:Ct)(dg:yg):Prop:=∀(H0:Hp) (A0:Addr->Prop) (G:Addr->Prop) (al:List (List Addr)) (H:Hp) (st:aI) (s:St) (env:bQ) (vs:List V) (ds:List PyData) (Q:bQ->aI->Prop) (R:St->Hp->Prop),DI J H0 A0 G al H st->kG J (Fb G al st) H al s env->cu (aJ J (Fb G al st) H) vs ds->dg ds env st Q->MY J H0 A0 G al H st Q R->g vs s H R
structure Rt(X:Cx)(Y:YK)(tg:Expr)(d:qj):Prop where
 h:∃g,PG X tg g/\AG (kf X Y) g d
structure Kb(X:Cx)(Y:YK)(tg:List Expr)(d:yg):Prop where
 h:∃g,RJ X tg g/\SU (kf X Y) g d
@[reducible] def gN(i:Nat)(dv:DV)(env:bQ)(st:aI)(Q:bQ->aI->Prop):Prop:=Q (env.set i (some dv)) st
@[reducible] def uY(ds:List PyData)(env:bQ)(st:aI)(Q:bQ->aI->Prop):Prop:=match ds with
 | []=>Q env st
 | _=>False
@[reducible] def sj(g:qj)(r:yg)(ds:List PyData)(env:bQ)(st:aI)(Q:bQ->aI->Prop):Prop:=match ds with
 | d::ds=>g (.dat d) env st λenv' st'=>r ds env' st' Q
 | []=>False
@[reducible] def gT(n:Nat)(r:yg)(dv:DV)(env:bQ)(st:aI)(Q:bQ->aI->Prop):Prop:=match dv with
 | .dat (.tuple ds)=>ds.length=n/\r ds env st Q
 | _=>False
theorem qI{i:Nat}:AG J (gH i) (gN i):=λH0 A0 G al H st s env v dv Q R I E h q k=>k _ _ al _ H .refl I (E.set h i) q
theorem bN{i:Nat}{x:Str}(hN:X.N.Nodup)(hi:X.N[i]?=some x)(hx:Loc X.env.scope x)(hf:X.fn x=true∨X.env.scope.names.lookup x=some .local:=by first | exact .inl rfl | exact .inr rfl | assumption):Rt X Y (.Name x pos) (gN i):=⟨_,cL hN hi hx hf,qI⟩
theorem iw:Kb X Y [] uY:=⟨_,vE,λH0 A0 G al H st s env vs ds Q R I E h q k=>by
 unfold uY at q;split at q
 ·have:=h.1
  cases vs with
  | nil=>exact⟨rfl,k _ _ al _ H .refl I E q⟩
  | cons v r=>simp at this
 ·exact q.elim⟩
theorem sq{g:TG}{u:Ct}{dg:qj}{r:yg}(a1:AG J g dg)(a2:SU J u r):SU J (Em g u) (sj dg r):=λH0 A0 G al H st s env vs ds Q R I E h q k=>by
 unfold sj at q;split at q
 ·rename_i d ds';have:=h.1
  cases vs with
  | nil=>simp at this
  | cons v vs' =>
   have h':cu (aJ J (Fb G al st) H) vs' ds':=⟨by simpa using this,λi p q a b=>h.2 (i + 1) p q (by simpa using a) (by simpa using b)⟩;refine⟨v,vs',rfl,a1 H0 A0 G al H st s env v (.dat d) _ _ I E (.d (h.2 0 v d rfl rfl)) q λenv' st' al' s' H' e' I' E' q'=>?_⟩;exact a2 H0 A0 G al' H' st' s' env' vs' ds' Q R I' E' (h'.imp λy x z=>z.ext e') q' (k.go I' e')
 ·exact q.elim
theorem bZ{g:qj}{r:yg}(h1:Rt X Y e g)(h2:Kb X Y es r)(hs:(assignEach (e::es) X.env).map (·.2)=assign e X.env::(assignEach es X.env).map (·.2):=by rfl):Kb X Y (e::es) (sj g r):=by
 obtain⟨t,p1,a1⟩:=h1.h;obtain⟨u,p2,a2⟩:=h2.h;exact⟨_,ky p1 p2 hs,sq a1 a2⟩
theorem SV{m:Nat}{u:Ct}{r:yg}(a1:SU J u r):AG J (Jf J m u) (gT m r):=λH0 A0 G al H st s env v dv Q R I E h q k=>by
 unfold gT at q;split at q
 ·obtain⟨a,ys,rfl,g1,_,g2⟩:=aJ.bq h;exact⟨a,ys,rfl,g1,by rw[g2.1];exact q.1,a1 H0 A0 G al H st s env ys _ Q R I E g2 q.2 k⟩
 ·exact q.elim
theorem kM{kx m:Nat}{r:yg}(hc:X.calm=true)(h:Kb X Y es r)(hn:(assignEach es X.env).length=m:=by rfl)(hst:(assignEach es X.env).findIdx? (·.1)=none:=by rfl):Rt X Y (.Tuple es kx pos) (gT m r):=by
 obtain⟨u,p1,a1⟩:=h.h;exact⟨_,zt hc p1 hn hst,SV a1⟩
@[reducible] def gS(eo ei:DX)(dv:DV)(env:bQ)(st:aI)(Q:bQ->aI->Prop):Prop:=eo env st λo aF=>ei env aF λi bJ=>match o,i with
 | .ref k,.dat (.int j)=>mL dv bJ λd kc=>match kc[k]? with
  | some (.live ds)=>∃m,xR ds.length j=some m/\Q env (kc.set k (.live (ds.set m d)))
  | _=>False
 | _,_=>False
theorem V6{to ti:TE}{eo ei:DX}(h1:AE J to eo)(h2:AE J ti ei):AG J (RL to ti MC) (gS eo ei):=λH0 A0 G al H st s env v dv Q R I E h q k=>by
 refine h1 H0 A0 G al H st s env _ _ I E q λo aF bu vo H1 e1 I1 d1 q1=>?_
 refine h2 H0 A0 G bu H1 aF s env _ _ I1 (E.ext e1) q1 λi bJ cy vi H2 e2 I2 d2 q2=>?_
 have pB:=e1.trans I1 e2;split at q2
 ·rename_i kk j;obtain⟨d,kc,E3,I3,F3,q3⟩:=px I2 (h.ext pB) q2;split at q3
  ·rename_i ds hs;obtain⟨m,qm,q4⟩:=q3;obtain⟨a,r0,ha,rfl⟩:=(d1.ext e2).ext E3;obtain⟨a',ys,e0,g1,g2⟩:=I3.cel kk _ _ ha hs;cases e0;rw[aJ.aU d2];have V7:=pB.trans I2 E3;obtain⟨E4,I4⟩:=I3.put ha hs (g2.set F3 m);refine⟨a,ys,j,m,rfl,rfl,g1,by rw[g2.1];exact qm,?_⟩;have SW:=V7.trans I3 E4;exact k _ _ _ _ _ SW I4 (E.ext SW) q4
  ·exact q3.elim
 ·exact q2.elim
theorem O5{o i:Expr}{eo ei:DX}(h1:bw X Y o eo)(h2:bw X Y i ei)(ha:∀v,assign (.Subscript o i pos) X.env v=(do
   let ov ← holding [v] (eval o X.env)
   let iv ← holding [v,ov] (eval i X.env)
   standAt pos
   holding [v,ov,iv] (setItem ov iv v)
   release [v,ov,iv] []):=by intro _;rfl):Rt X Y (.Subscript o i pos) (gS eo ei):=by
 obtain⟨t,p1,a1⟩:=h1.h;obtain⟨u,p2,a2⟩:=h2.h;exact⟨_,vF p1 p2 set_list ha,V6 a1 a2⟩
end
def SX(J:KF)(e:DX):TE:=λs H R=>∃(H0:Hp) (A0:Addr->Prop) (G:Addr->Prop) (al:List (List Addr)) (st:aI) (env:bQ) (Q:DC),DI J H0 A0 G al H st/\kG J (Fb G al st) H al s env/\e env st Q/\Kn J H0 A0 G al H st Q R
def C4(J:KF)(e:DT):TT:=λs H R=>∃(H0:Hp) (A0:Addr->Prop) (G:Addr->Prop) (al:List (List Addr)) (st:aI) (env:bQ) (Q:Bool->aI->Prop),DI J H0 A0 G al H st/\kG J (Fb G al st) H al s env/\e env st Q/\SA J H0 A0 G al H st Q R
theorem bw.pe{X:Cx}{Y:YK}{e:Expr}{d:DX}(h:bw X Y e d):PE X e (SX (kf X Y) d):=by
 obtain⟨t,p,a⟩:=h.h;intro pins s σ H Q I ⟨H0,A0,G,al,st,env,Q',I',E,q,k⟩;exact p pins s σ H Q I (a H0 A0 G al H st σ env Q' Q I' E q k)
theorem tP.pt{X:Cx}{Y:YK}{e:Expr}{d:DT}(h:tP X Y e d):PT X e (C4 (kf X Y) d):=by
 obtain⟨t,p,a⟩:=h.h;intro pins s σ H Q I ⟨H0,A0,G,al,st,env,Q',I',E,q,k⟩;exact p pins s σ H Q I (a H0 A0 G al H st σ env Q' Q I' E q k)
structure Ru(X:Cx)(Y:YK)(ifs:List Expr)(d:DT):Prop where
 h:Rk X ifs (C4 (kf X Y) d)
@[reducible] def FW(_:bQ)(st:aI)(Q:Bool->aI->Prop):Prop:=Q true st
theorem m3{X:Cx}:Ru X Y [] FW:=⟨λpins s σ H Q I ⟨H0,A0,G,al,st,env,Q',I',E,q,k⟩=>Bp pins s σ H Q I (k true st al H .refl I' q)⟩
theorem O6{X:Cx}{Y:YK}{c:Expr}{d:DT}(h:tP X Y c d):Ru X Y [c] d:=⟨Jy h.pt⟩
def GB(own:Nat)(g:TG):Prop:=∀v s H R R',(∀(s2:St) (H2:Hp),s2.drop own=s.drop own->R s2 H2->R' s2 H2)->g v s H R->g v s H R'
def U4(own:Nat)(g:Ct):Prop:=∀v s H R R',(∀(s2:St) (H2:Hp),s2.drop own=s.drop own->R s2 H2->R' s2 H2)->g v s H R->g v s H R'
theorem wj{own i:Nat}(h:i < own):GB own (gH i):=λv s H R R' f q=>f _ _ (by rw[List.drop_set_of_lt h]) q
theorem Kc{own:Nat}:U4 own N2:=λv s H R R' f q=>⟨q.1,f _ _ rfl q.2⟩
theorem yh{own:Nat}{g:TG}{u:Ct}(h1:GB own g)(h2:U4 own u):U4 own (Em g u):=λv s H R R' f q=>by
 obtain⟨x,r,e,q⟩:=q;exact⟨x,r,e,h1 _ _ _ _ _ (λs2 H2 e2 q2=>h2 _ _ _ _ _ (λs3 H3 e3 q3=>f _ _ (e3.trans e2) q3) q2) q⟩
theorem V8{own m:Nat}{K:aC}{u:Ct}(h:U4 own u):GB own (Jf K m u):=λv s H R R' f q=>by
 obtain⟨a,xs,e1,e2,e3,q⟩:=q;exact⟨a,xs,e1,e2,e3,h _ _ _ _ _ f q⟩
@[reducible] def yi(own:Nat)(ix:List Nat)(env:bQ):bQ:=List.replicate own none++ix.map λi=>(env[i]?).getD none
def U5(fin:List PyData->aI->DC->Prop)(dg:qj)(dt:DT)(de:DX)(xs:List PyData)(ok:aI->Prop)(env:bQ)(aF:aI)(Q:DC):Prop:=(ok aF/\xs.length<=1000000)/\∃I:Nat->List PyData->Prop,I 0 [] /\
 (∀i ys d,I i ys->xs[i]?=some d->dg (.dat d) env aF λgk bJ=>bJ=aF/\dt gk aF λb kc=>kc=aF/\if b=true then de gk aF λy vS=>mL y vS λdy zw=>zw=aF/\I (i + 1) (ys++[dy])else I (i + 1) ys)/\∀ys,I xs.length ys->fin ys aF Q
@[reducible] def C5(fin:List PyData->aI->DC->Prop)(own:Nat)(ix:List Nat)(di:pF)(dg:qj)(dt:DT)(de:DX)(env:bQ)(st:aI)(Q:DC):Prop:=di env st λxs ok aF=>U5 fin dg dt de xs ok (yi own ix env) aF Q
theorem FX{fin:List PyData->aI->DC->Prop}{dg:qj}{dt:DT}{de:DX}{xs:List PyData}{env:bQ}{aF:aI}{Q:DC}(I:Nat->List PyData->Prop)(hl:xs.length<=1000000)(h0:I 0 [])
  (hs:∀i ys d,xs[i]?=some d->I i ys->dg (.dat d) env aF λgk bJ=>bJ=aF/\dt gk aF λb kc=>kc=aF/\if b=true then de gk aF λy vS=>mL y vS λdy zw=>zw=aF/\I (i + 1) (ys++[dy])else I (i + 1) ys) (hd:∀ys,I xs.length ys->fin ys aF Q):U5 fin dg dt de xs (λ_=>True) env aF Q:=⟨⟨trivial,hl⟩,I,h0,λi ys d a b=>hs i ys d b a,hd⟩
@[reducible] def Ke:List PyData->aI->DC->Prop:=λys st Q=>Q (.dat (.list ys)) st
@[reducible] def O7:List PyData->aI->DC->Prop:=λys st Q=>Q (.ref st.length) (st++[.live ys])
theorem kG.mI{K:aC}{P:Addr->Prop}{H:Hp}{al:List (List Addr)}{s:St}{env:bQ}(h:kG K P H al s env)(own:Nat)(ix:List Nat):kG K P H al (eR own ix s) (yi own ix env):=by
 refine⟨by simp[eR],λi dv hi=>?_⟩;by_cases l:i < own
 ·rw[List.getElem?_append_left (by simpa using l),List.getElem?_replicate,if_pos l]at hi;cases hi
 ·rw[List.getElem?_append_right (by simp;omega),List.length_replicate,List.getElem?_map]at hi
  cases q:ix[i - own]? with
  | none=>rw[q]at hi;cases hi
  | some j =>
   rw[q]at hi;have hi:some ((env[j]?).getD none)=some (some dv):=hi
   have e:env[j]?=some (some dv):=by
    cases w:env[j]? with
    | none=>rw[w]at hi;cases hi
    | some u=>rw[w]at hi;exact hi
   obtain⟨v,h1,h2⟩:=h.2 j dv e;refine⟨v,?_,h2⟩;unfold eR;rw[List.getElem?_append_right (by simp;omega),List.length_replicate,List.getElem?_map,q];show some ((s[j]?).getD none)=_;rw[h1];rfl
theorem DI.FY{J:KF}{H0:Hp}{A0:Addr->Prop}{G:Addr->Prop}{al:List (List Addr)}{H:Hp}{st:aI}(I:DI J H0 A0 G al H st){D:Addr}{ys:List V}(h:H D=none):Ext al H st al (upd H D (.lst ys)) st/\DI J H0 A0 (λc=>G c∨c=D) al (upd H D (.lst ys)) st:=by
 have E:Ext al H st al (upd H D (.lst ys)) st:=.new h
 have g:∀c,(G c∨c=D)->G c∨H c=none:=λc hc=>by
  rcases hc with z | z
  ·exact .inl z
  ·rw[z];exact .inr h
 have keep:∀c o,H c=some o->upd H D (.lst ys) c=some o:=λc o e=>by rw[uN (nN e h)];exact e
 have I1:=I.new (o:=.lst ys) h;refine⟨E,I.len,I.nd,I1.ok,λk a c h1 h2=>(I.cel k a c h1 h2).je g E (λc hc=>I.pq hc) λ_ b _ o q=>keep _ _ q,I1.fr,I.nw,λa ha hc=>?_,λc hc=>?_,J.y.up _ _ _ _ (λc hc=>.inl hc) I.lk⟩
 ·rcases hc with z | z
  ·exact I.gd a ha z
  ·obtain⟨o,e⟩:=I.ok a ha;rw[z,h]at e;cases e
 ·rcases hc with z | z
  ·exact I1.gs c z
  ·rw[z];exact⟨_,uS,.inl ⟨_,rfl⟩⟩
theorem DI.grow{J:KF}{H0:Hp}{A0:Addr->Prop}{G:Addr->Prop}{al:List (List Addr)}{H:Hp}{st:aI}{D:Addr}{ys zs:List V}(I:DI J H0 A0 (λc=>G c∨c=D) al H st)(h:H D=some (.lst zs))(n0:A0 D∨H0 D=none):DI J H0 A0 (λc=>G c∨c=D) al (upd H D (.lst ys)) st/\∀v d,aJ J (Fb (λc=>G c∨c=D) al st) H v d->aJ J (Fb (λc=>G c∨c=D) al st) (upd H D (.lst ys)) v d:=by
 have sm:aK (cutH (Fb (λc=>G c∨c=D) al st) H) (cutH (Fb (λc=>G c∨c=D) al st) (upd H D (.lst ys))):=gc λc o n e=>⟨n,by rw[uN (λz=>n (.inl (.inr z)))];exact e⟩
 have rd:∀v d,aJ J (Fb (λc=>G c∨c=D) al st) H v d->aJ J (Fb (λc=>G c∨c=D) al st) (upd H D (.lst ys)) v d:=λv d z=>aO.same sm z
 have nD:∀a∈al.flatten,a≠D:=λa ha z=>I.gd a ha (.inr z)
 refine⟨⟨I.len,I.nd,λa ha=>?_,λk fp c h1 h2=>?_,λc o n e=>?_,I.nw,I.gd,λc hc=>?_,I.lk⟩,rd⟩
 ·rw[uN (nD a ha)];exact I.ok a ha
 ·have z:=I.cel k fp c h1 h2;have na:∀a∈fp,a≠D:=λa ha=>nD a (gO h1 ha)
  cases c with
  | live xs =>
   obtain⟨a,ws,e0,g1,g2⟩:=z;exact⟨a,ws,e0,by rw[uN (na a (by rw[e0];exact aaS.mpr rfl))];exact g1,g2.imp λy x q=>rd y x q⟩
  | froz ds=>obtain⟨a,e0,g0⟩:=z;exact⟨a,e0,rd _ _ g0⟩
  | deep xs =>
   obtain⟨a,ws,e0,g1,g2⟩:=z;refine⟨a,ws,e0,by rw[uN (na a (by rw[e0];exact aaS.mpr rfl))];exact g1,g2.imp λy x q=>?_⟩
   cases x with
   | dat d=>exact rd _ _ q
   | ref j=>exact q
  | obj o=>exact⟨z.1,o.keep _ _ _ _ _ _ z.2 (λc hc=>I.pq hc) (λa ha o e=>by rw[uN (na a ha)];exact e) sm⟩
 ·by_cases w:c=D
  ·rw[w]at n e;rcases n0 with y | y
   ·exact absurd y n
   ·rw[y]at e;cases e
  ·rw[uN w];exact I.fr c o n e
 ·by_cases w:c=D
  ·rw[w];exact⟨_,uS,.inl ⟨_,rfl⟩⟩
  ·rw[uN w];exact I.gs c hc
section
variable {X:Cx} {Y:YK} {tg a b c e:Expr} {es:List Expr} {pos p:Pos} {ea eb ec:DX} {K:aC} {J:KF} {n:Nat} {d:kI}
theorem Ext.Yj{al:List (List Addr)}{H:Hp}{st:aI}{D:Addr}{ys:List V}{bu:List (List Addr)}{H1:Hp}{aF:aI}(e:Ext al H st bu H1 aF)(hD:H D=none):Ext al H st bu (upd H1 D (.lst ys)) aF:=⟨λc o n q=>by rw[uN (λz=>by rw[z,hD]at q;cases q)];exact e.keep c o n q,e.pre,e.nws,e.lv⟩
def FZ(J:KF)(fin:List PyData->aI->DC->Prop):Prop:=∀(H0:Hp) (A0:Addr->Prop) (G:Addr->Prop) (al:List (List Addr)) (H:Hp) (st:aI) (Q:DC) (R:VK) (D:Addr) (cy:List (List Addr)) (H2:Hp) (vs:List V) (ys:List PyData),DI J H0 A0 G al H st->H D=none->Kn J H0 A0 G al H st Q R->fin ys st Q->DI J H0 A0 (λc=>G c∨c=D) cy H2 st->Ext al H st cy H2 st->H2 D=some (.lst vs)->cu (aJ J (Fb (λc=>G c∨c=D) cy st) H2) vs ys->R (.ref D) H2
theorem MZ{fin:List PyData->aI->DC->Prop}(hf:FZ J fin)
  {own:Nat} {ix:List Nat} {wi:TI} {g:TG} {di:pF} {dg:qj} {dt:DT} {de:DX} (hi:AI J wi di) (hg:AG J g dg) (gb:GB own g):AE J (US own ix wi g (C4 J dt) (SX J de)) (C5 fin own ix di dg dt de):=λH0 A0 G al H st s env Q R I E q k=>by
 refine hi H0 A0 G al H st s env _ _ I E q λJj xs ok aF bu H1 e1 I1 ir q1=>?_
 intro D hD;obtain⟨⟨hok,hlen⟩,Iv,i0,istep,ifin⟩:=q1;have k1:=k.go I1 e1;have E1:=E.ext e1
 have gG:∀c,(G c∨c=D)->G c∨H1 c=none:=λc hc=>by
  rcases hc with z | z
  ·exact .inl z
  ·rw[z];exact .inr hD
 have n0:=I1.n0 hD;obtain⟨EB,IB⟩:=I1.FY (ys:=[]) hD;refine⟨λi m ys H2=>(m=xs.length - i/\i<=xs.length/\ys.length<=i)/\∃ds cy,Iv i ds/\H2 D=some (.lst ys)/\cu (aJ J (Fb (λc=>G c∨c=D) cy aF) H2) ys ds/\DI J H0 A0 (λc=>G c∨c=D) cy H2 aF/\Ext bu H1 aF cy H2 aF,⟨_,⟨rfl,aaX _,aaX _⟩,[],bu,i0,uS,.nil,IB,EB⟩,?_⟩;rintro i m ys H2 ⟨⟨em,hil,hyl⟩,ds,cy,hI,gD,hP,I2,E2⟩;refine⟨gD,?_⟩;have IR:=ir (λc=>G c∨c=D) cy H2 aF i gG E2 I2 hok;by_cases hx:i < xs.length
 ·right
  obtain⟨d0,M0⟩:∃d0,xs[i]?=some d0:=⟨xs[i],cW hx⟩;obtain⟨go,yl⟩:=IR.1 d0 M0;refine⟨go,aaT (aau hyl hil) (aaT hlen (by decide)),λys' H'=>∃m',m' < m/\(m'=xs.length - (i + 1)/\i + 1<=xs.length/\ys'.length<=i + 1)/\∃ds cy,Iv (i + 1) ds/\H' D=some (.lst ys')/\cu (aJ J (Fb (λc=>G c∨c=D) cy aF) H') ys' ds/\DI J H0 A0 (λc=>G c∨c=D) cy H' aF/\Ext bu H1 aF cy H' aF,λys' H' ⟨m',lt,w⟩=>⟨m',lt,w⟩,λx H3 hy=>?_⟩;obtain⟨s3,r3⟩:=yl x H3 hy;have I3:=I2.same s3;have E3:Ext bu H1 aF cy H3 aF:=E2.trans I2 (.same s3);have P3:=hP.imp λy x z=>z.same s3
  have g3:=s3 _ _ gD;have V9:=(E1.je gG E3).mI own ix;refine gb x _ H3 _ _ ?_ (hg H0 A0 (λc=>G c∨c=D) cy H3 aF _ _ x (.dat d0) _ (λσ2 H4=>C4 J dt σ2 H4 λb H5=>if b=true then SX J de σ2 H5 λv H6=>H6 D=some (.lst ys)/\∃m',m' < m/\(m'=xs.length - (i + 1)/\i + 1<=xs.length/\(ys++[v]).length<=i + 1)/\∃ds cy,Iv (i + 1) ds/\upd H6 D (.lst (ys++[v])) D=some (.lst (ys++[v]))/\cu (aJ J (Fb (λc=>G c∨c=D) cy aF) (upd H6 D (.lst (ys++[v])))) (ys++[v]) ds/\DI J H0 A0 (λc=>G c∨c=D) cy (upd H6 D (.lst (ys++[v]))) aF/\Ext bu H1 aF cy (upd H6 D (.lst (ys++[v]))) aF else ∃m',m' < m/\(m'=xs.length - (i + 1)/\i + 1<=xs.length/\ys.length<=i + 1)/\∃ds cy,Iv (i + 1) ds/\H5 D=some (.lst ys)/\cu (aJ J (Fb (λc=>G c∨c=D) cy aF) H5) ys ds/\DI J H0 A0 (λc=>G c∨c=D) cy H5 aF/\Ext bu H1 aF cy H5 aF) I3 V9 (.d r3) (istep i ds d0 hI M0) λgk bJ SY s2 H4 e4 I4 S0 q4=>?_)
  ·intro s2 H4 ed q4;refine⟨?_,q4⟩;rw[ed];unfold eR;rw[List.drop_left' (by simp)]
  ·obtain⟨rfl,q4⟩:=q4;refine⟨H0,A0,_,SY,bJ,gk,_,I4,S0,q4,λb kc S1 H5 e5 I5 q5=>?_⟩;obtain⟨rfl,q5⟩:=q5;have O8:=e4.trans I4 e5;have E5:=E3.trans I3 O8;have nL:∀(al':List (List Addr)) (H':Hp),DI J H0 A0 (λc=>G c∨c=D) al' H' kc->¬ Lv al' kc D:=λal' H' I' z=>I'.gd D z.mem (.inr rfl)
   have g5:=O8.keep D _ (nL _ _ I3) g3;have P5:=P3.imp λy x z=>aJ.ext z O8
   cases b with
   | false =>
    rw[aak aai]at q5;exact eQ ⟨xs.length - (i + 1),by omega,⟨rfl,hx,by omega⟩,ds,S1,q5,g5,P5,I5,E5⟩
   | true =>
    rw[aan rfl]at q5;refine fh ⟨H0,A0,_,S1,kc,gk,_,I5,S0.ext e5,q5,λy vS O9 v H6 e6 I6 d6 q6=>?_⟩;obtain⟨dy,zw,E7,I7,F7,rfl,q7⟩:=px I6 d6 q6;have Wa:=e6.trans I6 E7;have E6:=E5.trans I5 Wa;have g6:=Wa.keep D _ (nL _ _ I5) g5;have P6:=P5.imp λy x z=>aJ.ext z Wa
    obtain⟨I8,U6⟩:=I7.grow (ys:=ys++[v]) g6 n0;refine⟨g6,xs.length - (i + 1),by omega,⟨rfl,hx,by simp;omega⟩,ds++[dy],O9,q7,uS,?_,I8,E6.Yj hD⟩;exact(P6.imp λy x z=>U6 y x z).append (.cons (U6 _ _ F7) .nil)
 ·left
  have ei:i=xs.length:=by omega
  subst ei;exact⟨IR.2 (aag _) (aag _),hf H0 A0 G bu H1 aF Q R D cy H2 ys ds I1 hD k1 (ifin ds hI) I2 E2 gD hP⟩
end
section
variable {X:Cx} {Y:YK} {tg a b c e:Expr} {es:List Expr} {pos p:Pos} {ea eb ec:DX} {K:aC} {J:KF} {n:Nat} {d:kI} {scope:Scope}
theorem DI.less{H0:Hp}{A0:Addr->Prop}{G G':Addr->Prop}{al:List (List Addr)}{H:Hp}{st:aI}(I:DI J H0 A0 G' al H st)(s:∀c,G c->G' c)(y:J.y.Y H0 A0 G):DI J H0 A0 G al H st:=by
 have sub:∀c,Fb G al st c->Fb G' al st c:=λc z=>by
  rcases z with z | z
  ·exact .inl (s c z)
  ·exact .inr z
 have sm:aK (cutH (Fb G' al st) H) (cutH (Fb G al st) H):=gc λc o n e=>⟨λz=>n (sub c z),e⟩
 refine⟨I.len,I.nd,I.ok,λk fp c h1 h2=>?_,I.fr,I.nw,λa ha z=>I.gd a ha (s a z),λc hc=>I.gs c (s c hc),y⟩;have z:=I.cel k fp c h1 h2
 cases c with
 | live xs=>obtain⟨a,ws,e0,g1,g2⟩:=z;exact⟨a,ws,e0,g1,g2.imp λy x q=>aO.same sm q⟩
 | froz ds=>obtain⟨a,e0,g0⟩:=z;exact⟨a,e0,aO.same sm g0⟩
 | deep xs =>
  obtain⟨a,ws,e0,g1,g2⟩:=z;refine⟨a,ws,e0,g1,g2.imp λy x q=>?_⟩
  cases x with
  | dat d=>exact aO.same sm q
  | ref j=>exact q
 | obj o=>exact⟨z.1,o.keep _ _ _ _ _ _ z.2 (λc hc=>I.pq hc) (λ_ _ _ e=>e) sm⟩
theorem yk:FZ J Ke:=λH0 A0 G al H st Q R D cy H2 vs ys I hD k q I2 E2 g P=>by
 have sub:∀c,Fb G cy st c->Fb (λc=>G c∨c=D) cy st c:=λc z=>by
  rcases z with z | z
  ·exact .inl (.inl z)
  ·exact .inr z
 have nD:¬ Fb G cy st D:=λz=>by
  rcases z with z | z
  ·exact I.C0 hD (.inl z)
  ·exact I2.gd D z.mem (.inr rfl)
 exact k (.dat (.list ys)) st cy _ H2 E2 (I2.less (λc z=>.inl z) I.lk) (.d (aJ.lst nD g (P.imp λy x z=>aJ.sub z sub))) q
theorem DI.take{H0:Hp}{A0:Addr->Prop}{G:Addr->Prop}{al:List (List Addr)}{H:Hp}{st:aI}{D:Addr}{vs:List V}{ys:List PyData}(I:DI J H0 A0 (λc=>G c∨c=D) al H st)(nG:¬ G D)(n0:A0 D∨H0 D=none)(g:H D=some (.lst vs))(P:cu (aJ J (Fb (λc=>G c∨c=D) al st) H) vs ys)(y:J.y.Y H0 A0 G):DI J H0 A0 G (al++[[D]]) H (st++[.live ys]):=by
 have nal:D∉al.flatten:=λz=>I.gd D z (.inr rfl)
 have mem:∀c∈(al++[[D]]).flatten,c∈al.flatten∨c=D:=λc hc=>by
  rw[abA,abn]at hc;rcases aaE.mp hc with z | z
  ·exact .inl z
  ·exact .inr (jr z)
 have sub:∀c,Fb G (al++[[D]]) (st++[.live ys]) c->Fb (λc=>G c∨c=D) al st c:=λc z=>by
  rcases z with z | ⟨j,f,ce,z1,z2,z3,z4⟩
  ·exact .inl (.inl z)
  ·by_cases w:j < al.length
   ·rw[aab w]at z1;rw[aab (by rw[← I.len];exact w)]at z3;exact .inr ⟨j,f,ce,z1,z2,z3,z4⟩
   ·rw[aaj (by omega)]at z1;have:=aaf z1;rw[jr this]at z2;exact .inl (.inr (jr z2))
 have sm:aK (cutH (Fb (λc=>G c∨c=D) al st) H) (cutH (Fb G (al++[[D]]) (st++[.live ys])) H):=gc λc o n e=>⟨λz=>n (sub c z),e⟩
 refine⟨by simp[I.len],?_,λc hc=>?_,λj fp c h1 h2=>?_,I.fr,λc hc=>?_,λc hc=>?_,λc hc=>I.gs c (.inl hc),y⟩
 ·rw[List.flatten_append,List.flatten_singleton,List.nodup_append];exact⟨I.nd,by simp,λx hx y hy=>by rw[jr hy];intro z;exact nal (z ▸ hx)⟩
 ·rcases mem c hc with z | z
  ·exact I.ok c z
  ·rw[z];exact⟨_,g⟩
 ·by_cases w:j < al.length
  ·rw[aab w]at h1;rw[aab (by rw[← I.len];exact w)]at h2;have z:=I.cel j fp c h1 h2
   cases c with
   | live xs=>obtain⟨a,ws,e0,g1,g2⟩:=z;exact⟨a,ws,e0,g1,g2.imp λy x q=>aO.same sm q⟩
   | froz ds=>obtain⟨a,e0,g0⟩:=z;exact⟨a,e0,aO.same sm g0⟩
   | deep xs =>
    obtain⟨a,ws,e0,g1,g2⟩:=z;refine⟨a,ws,e0,g1,g2.imp λy x q=>?_⟩
    cases x with
    | dat d=>exact aO.same sm q
    | ref i =>
     obtain⟨b,r,q1,q2⟩:=q;exact⟨b,r,by rw[aab (bX q1).1];exact q1,q2⟩
   | obj o=>exact⟨z.1,o.keep _ _ _ _ _ _ z.2 (λc hc=>I.pq hc) (λ_ _ _ e=>e) sm⟩
  ·have hj:j=al.length:=by have:=(bX h1).1;simp at this;omega
   subst hj;rw[aaj (aag _),aa0]at h1;rw[I.len,aaj (aag _),aa0]at h2;cases h1;cases h2;exact⟨D,vs,rfl,g,P.imp λy x z=>aO.same sm z⟩
 ·rcases mem c hc with z | z
  ·exact I.nw c z
  ·rw[z];exact n0
 ·rcases mem c hc with z | z
  ·exact λw=>I.gd c z (.inl w)
  ·rw[z];exact nG
theorem S6:FZ J O7:=λH0 A0 G al H st Q R D cy H2 vs ys I hD k q I2 E2 g P=>by
 have I3:=I2.take (λz=>I.C0 hD (.inl z)) (I.n0 hD) g P I.lk;have gt:(cy++[[D]])[st.length]?=some [D]:=by rw[← I2.len,aaj (aag _),aa0];rfl
 refine k (.ref st.length) (st++[.live ys]) (cy++[[D]]) _ H2 ⟨E2.keep,λj a r h=>?_,λc hc=>?_,λc ⟨j,f,ce,z1,z2,z3,z4⟩=>?_⟩ I3 ⟨D,[],gt,rfl⟩ q
 ·obtain⟨r',h'⟩:=E2.pre j a r h;exact⟨r',by rw[aab (bX h').1];exact h'⟩
 ·rw[abA,abn]at hc;rcases aaE.mp hc with z | z
  ·exact E2.nws c z
  ·rw[jr z];exact .inr hD
 ·by_cases w:j < cy.length
  ·rw[aab w]at z1;rw[aab (by rw[← I2.len];exact w)]at z3;exact E2.lv c ⟨j,f,ce,z1,z2,z3,z4⟩
  ·rw[aaj (by omega)]at z1;have:=aaf z1;rw[jr this]at z2;rw[jr z2];exact .inr hD
@[reducible] def Wb:Nat->List Nat->pF->qj->DT->DX->DX:=C5 Ke
theorem Pa{fin:List PyData->aI->DC->Prop}(hf:FZ (kf X Y) fin)
  {elt iter:Expr} {ifs:List Expr} {g:TG} {di:pF} {dg:qj} {dt:DT} {de:DX} (own:Nat) (N:List Str) (ix:List Nat) (B:mP X own N ix scope) (hi:IH X Y tg iter di)
  (hg:∀(C:Addr) (fp:List Addr) (s:Shared) (H:Hp),PG (X.mI N scope C fp s H) tg g) (ag:AG (kf X Y) g dg) (gb:GB own g)
  (hin:∀(C:Addr) (fp:List Addr) (s:Shared) (H:Hp),Ru (X.mI N scope C fp s H) Y ifs dt/\bw (X.mI N scope C fp s H) Y elt de)
  (hs:∀x,foldedSetIterable iter X.env x=pure x:=by intro _;rfl):bw X Y (.ListComp elt [⟨tg,iter,ifs,0⟩] scope pos) (C5 fin own ix di dg dt de):=by
 obtain⟨wi,p1,a1⟩:=hi.h;exact⟨_,EK own N ix B p1 (λC fp s H=>⟨hg C fp s H,(hin C fp s H).1.h,(hin C fp s H).2.pe⟩) hs,MZ hf a1 ag gb⟩
theorem M1{elt iter:Expr}{ifs:List Expr}{g:TG}{di:pF}{dg:qj}{dt:DT}{de:DX}(own:Nat)(N:List Str)(ix:List Nat)(B:mP X own N ix scope)(hi:IH X Y tg iter di)
  (hg:∀(C:Addr) (fp:List Addr) (s:Shared) (H:Hp),PG (X.mI N scope C fp s H) tg g) (ag:AG (kf X Y) g dg) (gb:GB own g)
  (hin:∀(C:Addr) (fp:List Addr) (s:Shared) (H:Hp),Ru (X.mI N scope C fp s H) Y ifs dt/\bw (X.mI N scope C fp s H) Y elt de)
  (hs:∀x,foldedSetIterable iter X.env x=pure x:=by intro _;rfl):bw X Y (.ListComp elt [⟨tg,iter,ifs,0⟩] scope pos) (Wb own ix di dg dt de):=Pa yk own N ix B hi hg ag gb hin hs
@[reducible] def Rv(st:aI)(k:Nat):Bool:=match st[k]? with
 | some (.live _)=>true
 | some (.froz _)=>true
 | some (.deep _)=>true
 | _=>false
@[reducible] def wk(eo:DX)(dx:kI)(env:bQ)(st:aI)(Q:DC):Prop:=eo env st λo aF=>match o with
 | .ref k=>Rv aF k=true/\dx env aF λxs bJ=>match xs with
  | [x]=>match bJ[k]? with
   | some (.deep ys)=>ys.length < 1000000/\Q (.dat .none) (bJ.set k (.deep (ys++[x])))
   | _=>mL x bJ λd kc=>match kc[k]? with
    | some (.live ds)=>ds.length < 1000000/\Q (.dat .none) (kc.set k (.live (ds++[d])))
    | _=>False
  | _=>False
 | _=>False
theorem BP{H0:Hp}{A0:Addr->Prop}{G:Addr->Prop}{al:List (List Addr)}{H:Hp}{st:aI}(I:DI J H0 A0 G al H st){v:V}{k:Nat}(h:gM J (Fb G al st) H al v (.ref k))(hl:Rv st k=true):∃a ys,v=.ref a/\cG J H a ys:=by
 obtain⟨a,r,h1,rfl⟩:=h;have hk:k < st.length:=by rw[← I.len];exact(bX h1).1
 have hs:=cW hk;have z:=I.cel k _ _ h1 hs;refine⟨a,?_⟩
 cases q:st[k]with
 | live ds=>rw[q]at z;obtain⟨a',ys,e0,g,_⟩:=z;cases e0;exact⟨ys,rfl,cG.of g⟩
 | deep ds=>rw[q]at z;obtain⟨a',ys,e0,g,_⟩:=z;cases e0;exact⟨ys,rfl,cG.of g⟩
 | froz ds =>
  rw[q]at z;obtain⟨a',e0,g0⟩:=z;cases e0;obtain⟨b,ys,g1,g2,_⟩:=aJ.dn g0;cases g1;exact⟨ys,rfl,g2⟩
 | obj o =>
  unfold Rv at hl;rw[hs,q]at hl;cases hl
theorem F4{H:Hp}{v:V}(h:∃a ys,v=.ref a/\cG K H a ys):Vz K "list" v H:=by
 obtain⟨a,ys,rfl,g⟩:=h;exact .inl ⟨rfl,ys,g⟩
theorem mq{apos cpos:Pos}{o:Expr}{eo:DX}(ho:bw X Y o eo)(ha:qG X Y (e::es) n d)(hbase:attributeBase o "append" X.env (eval o X.env)=eval o X.env:=by rfl)
  (hfew:((backTo cpos (starEach (e::es) X.env)).all (λx=>!x.1)&&(backToKw cpos (keywordEach [] X.env)).all (λx=>x.1.isSome)
   && decide ((e::es).length + ([]:List Keyword).length + (if ([]:List Keyword).isEmpty then 0 else 1) < 30))=true:=by rfl)
  (hline:(apos.endLine == cpos.line)=true:=by rfl) (hs:starEach (e::es) X.env=(false,eval e X.env)::starEach es X.env:=by rfl) (hplain:(backTo cpos (starEach es X.env)).any (·.1)=false:=by rfl) :
  bw X Y (.Call (.Attribute o "append" apos) (e::es) [] cpos) (wk eo d):=by
 obtain⟨t,p1,a1⟩:=ho.h;obtain⟨u,p2,a2⟩:=ha.h;refine⟨_,Bo abJ abF abG ml p1 p2 hbase hfew hline hs hplain,λH0 A0 G al H st s env Q R I E q k=>a1 H0 A0 G al H st s env _ _ I E q λx aF bu v H1 e1 I1 d1 q1=>?_⟩;split at q1
 ·rename_i kk;refine⟨F4 (BP I1 d1 q1.1),a2 H0 A0 G bu H1 aF s env _ _ I1 (E.ext e1) q1.2 λxs bJ cy vs H2 e2 I2 d2 q2=>?_⟩;have q2:=q2.2;split at q2
  ·obtain⟨w,rfl,hw⟩:=qH d2;have pB:=e1.trans I1 e2;split at q2
   ·rename_i zs hs;obtain⟨a,r0,ha,rfl⟩:=d1.ext e2;obtain⟨a',ys,e0,g1,g2⟩:=I2.cel kk _ _ ha hs;cases e0;obtain⟨E4,I4⟩:=I2.putD ha hs (g2.append (.cons hw .nil));exact⟨a,ys,w,rfl,rfl,g1,by rw[g2.1];exact aal q2.1 (by decide),(k.go I2 pB) _ _ _ _ _ E4 I4 (.d .non) q2.2⟩
   ·obtain⟨dd,kc,E3,I3,F3,q3⟩:=px I2 hw q2;split at q3
    ·rename_i ds hs;have Z1:=pB.trans I2 E3;obtain⟨a,r0,ha,rfl⟩:=(d1.ext e2).ext E3;obtain⟨a',ys,e0,g1,g2⟩:=I3.cel kk _ _ ha hs;cases e0;obtain⟨E4,I4⟩:=I3.put ha hs (g2.append (.cons F3 .nil));exact⟨a,ys,w,rfl,rfl,g1,by rw[g2.1];exact aal q3.1 (by decide),(k.go I3 Z1) _ _ _ _ _ E4 I4 (.d .non) q3.2⟩
    ·exact q3.elim
  ·exact q2.elim
 ·exact q1.elim
structure cX where
 nx:bQ->aI->Prop
 rt:DC
 bk:bQ->aI->Prop:=λ_ _=>False
 ct:bQ->aI->Prop:=λ_ _=>False
abbrev DS:=cX->bQ->aI->Prop
structure sr(J:KF)(H0:Hp)(A0:Addr->Prop)(G:Addr->Prop)(al:List (List Addr))(H:Hp)(st:aI)(DD:cX)(D:Ends):Prop where
 nx:MY J H0 A0 G al H st DD.nx D.nx
 rt:Kn J H0 A0 G al H st DD.rt D.rt
 bk:MY J H0 A0 G al H st DD.bk D.bk
 ct:MY J H0 A0 G al H st DD.ct D.ct
theorem sr.go{H0:Hp}{A0:Addr->Prop}{G:Addr->Prop}{al bu:List (List Addr)}{H H1:Hp}{st aF:aI}{DD:cX}{D:Ends}(k:sr J H0 A0 G al H st DD D)(I:DI J H0 A0 G bu H1 aF)(e:Ext al H st bu H1 aF):sr J H0 A0 G bu H1 aF DD D:=⟨k.nx.go I e,k.rt.go I e,k.bk.go I e,k.ct.go I e⟩
def AS(J:KF)(t:TS)(s:DS):Prop:=∀(H0:Hp) (A0:Addr->Prop) (G:Addr->Prop) (al:List (List Addr)) (H:Hp) (st:aI) (σ:St) (env:bQ) (DD:cX) (D:Ends),DI J H0 A0 G al H st->kG J (Fb G al st) H al σ env->s DD env st->sr J H0 A0 G al H st DD D->t D σ H
structure BQ(X:Cx)(Y:YK)(stm:Stmt)(s:DS):Prop where
 h:∃t,PS X stm t/\AS (kf X Y) t s
structure qJ(X:Cx)(Y:YK)(stms:List Stmt)(s:DS):Prop where
 h:∃t,qD X stms t/\AS (kf X Y) t s
@[reducible] def BR(DD:cX)(env:bQ)(st:aI):Prop:=DD.nx env st
@[reducible] def F5(s u:DS)(DD:cX)(env:bQ)(st:aI):Prop:=s {DD with nx:=u DD} env st
@[reducible] def F6(e:DX)(DD:cX)(env:bQ)(st:aI):Prop:=e env st λ_ aF=>DD.nx env aF
@[reducible] def Pb(e:DX)(DD:cX)(env:bQ)(st:aI):Prop:=e env st DD.rt
@[reducible] def Wc(c:DT)(s u:DS)(DD:cX)(env:bQ)(st:aI):Prop:=c env st λb aF=>if b=true then s DD env aF else u DD env aF
@[reducible] def C6(e:DX)(g:qj)(DD:cX)(env:bQ)(st:aI):Prop:=e env st λdv aF=>g dv env aF DD.nx
@[reducible] def F8(c:DT)(s:DS)(DD:cX)(env:bQ)(st:aI):Prop:=∃W:Nat->bQ->aI->Prop,(∃m,W m env st)/\∀m env st,W m env st->c env st λb aF=>if b=true then s {DD with nx:=λenv' st'=>∃m',m' < m/\W m' env' st',ct:=λenv' st'=>∃m',m' < m/\W m' env' st',bk:=DD.nx} env aF else DD.nx env aF
def M3(g:qj)(s:DS)(DD:cX)(xs:List PyData)(ok:aI->Prop)(env:bQ)(st:aI):Prop:=∃W:Nat->bQ->aI->Prop,W 0 env st/\∀i env st,i<=xs.length->W i env st->ok st/\(i=xs.length->DD.nx env st)/\∀d,xs[i]?=some d->g (.dat d) env st λenv' st'=>s {DD with nx:=W (i + 1),ct:=W (i + 1),bk:=DD.nx} env' st'
@[reducible] def Pc(di:pF)(g:qj)(s:DS)(DD:cX)(env:bQ)(st:aI):Prop:=di env st λxs ok aF=>M3 g s DD xs ok env aF
theorem fz{g:qj}{s:DS}{DD:cX}{xs:List PyData}{ok:aI->Prop}{env:bQ}{st:aI}(W:Nat->bQ->aI->Prop)(h0:W 0 env st)(hok:∀i env st,W i env st->ok st)
  (hs:∀i env st d,xs[i]?=some d->W i env st->g (.dat d) env st λenv' st'=>s {DD with nx:=W (i + 1),ct:=W (i + 1),bk:=DD.nx} env' st') (hd:∀env st,W xs.length env st->DD.nx env st):M3 g s DD xs ok env st :=
 ⟨W,h0,λi env st _ w=>⟨hok i env st w,λe=>hd env st (e ▸ w),λd h=>hs i env st d h w⟩⟩
theorem BS{c:DT}{s:DS}{DD:cX}{env:bQ}{st:aI}(W:Nat->bQ->aI->Prop)(h0:∃m,W m env st)
  (hs:∀m env st,W m env st->c env st λb aF=>if b=true then s {DD with nx:=λenv' st'=>∃m',m' < m/\W m' env' st',ct:=λenv' st'=>∃m',m' < m/\W m' env' st',bk:=DD.nx} env aF else DD.nx env aF):F8 c s DD env st:=⟨W,h0,hs⟩
variable {stm:Stmt} {stms rest:List Stmt} {s u:DS}
theorem Kf:AS J kr BR:=λH0 A0 G al H st σ env DD D I E h k=>k.nx env st al σ H .refl I E h
theorem F9{t r:TS}(h1:AS J t s)(h2:AS J r u):AS J (Je t r) (F5 s u):=λH0 A0 G al H st σ env DD D I E h k=>h1 H0 A0 G al H st σ env _ _ I E h ⟨λenv' st' al' σ' H' e' I' E' q'=>h2 H0 A0 G al' H' st' σ' env' DD D I' E' q' (k.go I' e'),k.rt,k.bk,k.ct⟩
theorem aB:qJ X Y [] BR:=⟨_,aT,Kf⟩
theorem b6(h1:BQ X Y stm s)(h2:qJ X Y rest u):qJ X Y (stm::rest) (F5 s u):=by
 obtain⟨t,p1,a1⟩:=h1.h;obtain⟨r,p2,a2⟩:=h2.h;exact⟨_,qK p1 p2,F9 a1 a2⟩
theorem ax(h1:BQ X Y stm s):qJ X Y [stm] s:=by
 obtain⟨t,p1,a1⟩:=h1.h;exact⟨_,qO p1,a1⟩
theorem oi(he:bw X Y e ea)(hs:swapsWith e none pos.line X.env=pure false:=by rfl):BQ X Y (.Expr e pos) (F6 ea):=by
 obtain⟨t,p1,a1⟩:=he.h;exact⟨_,vD p1 hs,λH0 A0 G al H st σ env DD D I E h k=>a1 H0 A0 G al H st σ env _ _ I E h λdv aF bu v H1 e1 I1 d1 q1=>k.nx env aF bu σ H1 e1 I1 (E.ext e1) q1⟩
theorem az(he:bw X Y e ea):BQ X Y (.Return (some e) pos) (Pb ea):=by
 obtain⟨t,p1,a1⟩:=he.h;exact⟨_,aQ p1,λH0 A0 G al H st σ env DD D I E h k=>a1 H0 A0 G al H st σ env _ _ I E h k.rt⟩
theorem aV{c:Expr}{tc:DT}{x y:List Stmt}(hc:tP X Y c tc)(ha:qJ X Y x s)(hb:qJ X Y y u):BQ X Y (.If c x y pos) (Wc tc s u):=by
 obtain⟨t,p1,a1⟩:=hc.h;obtain⟨r,p2,a2⟩:=ha.h;obtain⟨w,p3,a3⟩:=hb.h;refine⟨_,bS p1 p2 p3,λH0 A0 G al H st σ env DD D I E h k=>a1 H0 A0 G al H st σ env _ _ I E h λb aF bu H1 e1 I1 q1=>?_⟩
 cases b with
 | true=>exact fh (a2 H0 A0 G bu H1 aF σ env DD D I1 (E.ext e1) (by rw[aan rfl]at q1;exact q1) (k.go I1 e1))
 | false=>exact eQ (a3 H0 A0 G bu H1 aF σ env DD D I1 (E.ext e1) (by rw[aak aai]at q1;exact q1) (k.go I1 e1))
theorem zT{t:TE}{g:TG}{dg:qj}(h1:AE J t ea)(h2:AG J g dg):AS J (Jg t g) (C6 ea dg):=λH0 A0 G al H st σ env DD D I E h k=>h1 H0 A0 G al H st σ env _ _ I E h λdv aF bu v H1 e1 I1 d1 q1=>h2 H0 A0 G bu H1 aF σ env v dv _ _ I1 (E.ext e1) d1 q1 (k.nx.go I1 e1)
theorem aL{i:Nat}{x:Str}{pos':Pos}(hN:X.N.Nodup)(hi:X.N[i]?=some x)(hx:Loc X.env.scope x)(he:bw X Y e ea)(hs:swapsWith e (some (.Name x pos')) pos.line X.env=pure false:=by rfl)(hf:X.fn x=true∨X.env.scope.names.lookup x=some .local:=by first | exact .inl rfl | exact .inr rfl | assumption):BQ X Y (.Assign [.Name x pos'] e pos) (C6 ea (gN i)):=by
 obtain⟨t,p1,a1⟩:=he.h;exact⟨_,bf hN hi hx p1 hs hf,zT a1 qI⟩
theorem pJ{g:qj}(he:bw X Y e ea)(hg:Rt X Y tg g)(hs:swapsWithSole [tg] e pos.line X.env=pure false:=by rfl)(hw:swappedStores [tg] e X.env=pure none:=by rfl)(h1:(assignEach [tg] X.env).map (·.2)=[assign tg X.env]:=by rfl):BQ X Y (.Assign [tg] e pos) (C6 ea g):=by
 obtain⟨t,p1,a1⟩:=he.h;obtain⟨gg,p2,a2⟩:=hg.h;exact⟨_,vG p1 p2 hs hw h1,zT a1 a2⟩
theorem jh{fin:List PyData->aI->DC->Prop}(hf:FZ (kf X Y) fin)
  {i:Nat} {x:Str} {pos' spos:Pos} (hN:X.N.Nodup) (hxi:X.N[i]?=some x) (hx:Loc X.env.scope x) {elt iter:Expr} {ifs:List Expr} {g:TG} {di:pF} {dg:qj} {dt:DT} {de:DX} (own:Nat) (N:List Str) (ix:List Nat) (B:mP X own N ix scope) (hi:IH X Y tg iter di)
  (hg:∀(C:Addr) (fp:List Addr) (s:Shared) (H:Hp),PG (X.mI N scope C fp s H) tg g) (ag:AG (kf X Y) g dg) (gb:GB own g)
  (hin:∀(C:Addr) (fp:List Addr) (s:Shared) (H:Hp),Ru (X.mI N scope C fp s H) Y ifs dt/\bw (X.mI N scope C fp s H) Y elt de)
  (hsw:swapsWith (.ListComp elt [⟨tg,iter,ifs,0⟩] scope pos) (some (.Name x pos')) spos.line X.env=pure true:=by rfl) (hs:∀x,foldedSetIterable iter X.env x=pure x:=by intro _;rfl)
  (hfn:X.fn x=true∨X.env.scope.names.lookup x=some .local:=by first | exact .inl rfl | exact .inr rfl):BQ X Y (.Assign [.Name x pos'] (.ListComp elt [⟨tg,iter,ifs,0⟩] scope pos) spos) (C6 (C5 fin own ix di dg dt de) (gN i)):=by
 obtain⟨wi,p1,a1⟩:=hi.h;exact⟨_,EL hN hxi hx own N ix B p1 (λC fp s H=>⟨hg C fp s H,(hin C fp s H).1.h,(hin C fp s H).2.pe⟩) hsw hs hfn,zT (MZ hf a1 ag gb) qI⟩
theorem ym{c:Expr}{tc:DT}{body:List Stmt}(hp:PassesOwn (model X.prog X.w) X.A X.env X.xe)(hc:tP X Y c tc)(hb:qJ X Y body s):BQ X Y (.While c body [] pos) (F8 tc s):=by
 obtain⟨t,p1,a1⟩:=hc.h;obtain⟨r,p2,a2⟩:=hb.h;refine⟨_,xO hp p1 p2,λH0 A0 G al H st σ env DD D I E h k=>?_⟩;obtain⟨W,⟨m0,w0⟩,step⟩:=h;refine⟨λm σ' H'=>∃env' st' al',Ext al H st al' H' st'/\DI (kf X Y) H0 A0 G al' H' st'/\kG X.K (Fb G al' st') H' al' σ' env'/\W m env' st',⟨m0,env,st,al,.refl,I,E,w0⟩,?_⟩;rintro m σ1 H1 ⟨Kg,aF,bu,e1,I1,E1,w1⟩;refine a1 H0 A0 G bu H1 aF σ1 Kg _ _ I1 E1 (step m Kg aF w1) λb bJ cy H2 e2 I2 q2=>?_
 have pB:=e1.trans I1 e2
 cases b with
 | false=>exact eQ (k.nx Kg bJ cy σ1 H2 pB I2 (E1.ext e2) (by rw[aak aai]at q2;exact q2))
 | true =>
  rw[aan rfl]at q2;refine fh ⟨_,λσ' H' z=>z,a2 H0 A0 G cy H2 bJ σ1 Kg _ _ I2 (E1.ext e2) q2 ⟨?_,k.rt.go I2 pB,k.nx.go I2 pB,?_⟩⟩
  ·rintro env' st' al' σ' H' e' I' E' ⟨m',lt,w'⟩;exact⟨m',lt,env',st',al',pB.trans I2 e',I',E',w'⟩
  ·rintro env' st' al' σ' H' e' I' E' ⟨m',lt,w'⟩;exact⟨m',lt,env',st',al',pB.trans I2 e',I',E',w'⟩
theorem iS{iter:Expr}{body:List Stmt}{di:pF}{g:qj}(hp:PassesOwn (model X.prog X.w) X.A X.env X.xe)(hc:X.calm=true)(hi:IH X Y tg iter di)(hg:Rt X Y tg g)(hb:qJ X Y body s)(hs:∀x,foldedSetIterable iter X.env x=pure x:=by intro _;rfl):BQ X Y (.For tg iter body [] pos) (Pc di g s):=by
 obtain⟨t,p1,a1⟩:=hi.h;obtain⟨gg,p2,a2⟩:=hg.h;obtain⟨r,p3,a3⟩:=hb.h;refine⟨_,rH hp hc p1 p2 p3 hs,λH0 A0 G al H st σ env DD D I E h k=>a1 H0 A0 G al H st σ env _ _ I E h λJj xs ok aF bu H1 e1 I1 ir q1=>?_⟩;obtain⟨W,w0,step⟩:=q1;refine⟨λi m σ' H'=>(m=xs.length - i/\i<=xs.length)/\∃env' st' al',Ext bu H1 aF al' H' st'/\DI (kf X Y) H0 A0 G al' H' st'/\kG X.K (Fb G al' st') H' al' σ' env'/\W i env' st',⟨_,⟨rfl,aaX _⟩,env,aF,bu,.refl,I1,E.ext e1,w0⟩,?_⟩;rintro i m σ2 H2 ⟨⟨em,hil⟩,gk,bJ,cy,e2,I2,E2,w2⟩;obtain⟨hok,hnx,hst⟩:=step i gk bJ hil w2;have IR:=ir G cy H2 bJ i (λc z=>.inl z) e2 I2 hok;have pB:=e1.trans I1 e2;by_cases hx:i < xs.length
 ·obtain⟨d0,M0⟩:∃d0,xs[i]?=some d0:=⟨xs[i],cW hx⟩;obtain⟨go,yl⟩:=IR.1 d0 M0;refine .inr ⟨go,λσ' H'=>∃m',m' < m/\(m'=xs.length - (i + 1)/\i + 1<=xs.length)/\∃env' st' al',Ext bu H1 aF al' H' st'/\DI (kf X Y) H0 A0 G al' H' st'/\kG X.K (Fb G al' st') H' al' σ' env'/\W (i + 1) env' st',λσ' H' z=>z,λx H3 hy=>?_⟩;obtain⟨s3,r3⟩:=yl x H3 hy;have I3:=I2.same s3;have Yk:Ext cy H2 bJ cy H3 bJ:=.same s3;refine a2 H0 A0 G cy H3 bJ σ2 gk x (.dat d0) _ _ I3 (E2.ext Yk) (.d r3) (hst d0 M0) λWe vS SY σ4 H4 e4 I4 E4 q4=>?_
  have Wg:=Yk.trans I3 e4;have SW:=e2.trans I2 Wg;refine a3 H0 A0 G SY H4 vS σ4 We _ _ I4 E4 q4 ⟨?_,k.rt.go I4 (pB.trans I2 Wg),k.nx.go I4 (pB.trans I2 Wg),?_⟩
  ·intro env' st' al' σ' H' e' I' E' w';exact⟨xs.length - (i + 1),by omega,⟨rfl,hx⟩,env',st',al',SW.trans I4 e',I',E',w'⟩
  ·intro env' st' al' σ' H' e' I' E' w';exact⟨xs.length - (i + 1),by omega,⟨rfl,hx⟩,env',st',al',SW.trans I4 e',I',E',w'⟩
 ·have ei:i=xs.length:=by omega
  exact .inl ⟨IR.2 (by omega) (by omega),k.nx gk bJ cy σ2 H2 pB I2 E2 (hnx ei)⟩
def kN(X:Cx)(Y:YK)(body:List Stmt)(DD:cX)(env:bQ)(st:aI):Prop:=∃s,qJ X Y body s/\s DD env st
theorem aj{DD:cX}{env:bQ}{st:aI}(h:BQ X Y stm s)(k:∀R:bQ->aI->Prop,(∀env' st',kN X Y rest DD env' st'->R env' st')->s {DD with nx:=R} env st):kN X Y (stm::rest) DD env st:=by
 obtain⟨t,p1,a1⟩:=h.h;refine⟨F5 s (λDD env st=>kN X Y rest DD env st),⟨Je t (λD σ H=>∃r,qD X rest r/\r D σ H),qK p1 (λpins s σ H D I ⟨_,hu,q⟩=>hu pins s σ H D I q),F9 a1 λH0 A0 G al H st σ env DD D I E h k=>?_⟩,k _ λ_ _ z=>z⟩;obtain⟨s2,⟨r,p2,a2⟩,q⟩:=h;exact⟨r,p2,a2 H0 A0 G al H st σ env DD D I E q k⟩
theorem bF{DD:cX}{env:bQ}{st:aI}(h:BQ X Y stm s)(k:s DD env st):kN X Y [stm] DD env st:=⟨s,ax h,k⟩
theorem uZ{N:List Str}{body:List Stmt}{vs:List V}{ds:List PyData}{H:Hp}{Q:VK}{P:Addr->Prop}(hP:∀c,P c->∃o,H c=some o/\jd o)(hv:cu (aJ X.K P H) vs ds)(hy:Y.Y H (λ_=>False) P)
  (h:kN X Y body {nx:=λ_ _=>∀v H',aK H H'->aJ X.K P H' v .none->Q v H',rt:=λdv st=>mL dv st λd _=>∀v H',aK H H'->aJ X.K P H' v d->Q v H'} (ds.map (λd=>some (DV.dat d))++List.replicate (N.length - ds.length) none) []) :
  ∃t,qD X body t/\t {nx:=λ_ H'=>Q .non H',rt:=Q} (start N vs) H:=by
 obtain⟨s,⟨t,p1,a1⟩,q⟩:=h;have lv:∀c,¬ Lv [] [] c:=λc ⟨k,xs,ce,h,_⟩=>by simp at h
 have I:DI (kf X Y) H (λ_=>False) P [] H []:=⟨rfl,List.nodup_nil,λ_ h=>by simp at h,λk a c h=>by simp at h,λc o _ e=>e,λ_ h=>by simp at h,λ_ h=>by simp at h,hP,hy⟩
 have fb:∀c,Fb P [] [] c->P c:=λc z=>by
  rcases z with z | z
  ·exact z
  ·exact absurd z (lv c)
 refine⟨t,p1,a1 H (λ_=>False) P [] H [] _ _ _ _ I ⟨by unfold start;simp[hv.1],λi dv hi=>?_⟩ q ⟨λenv' st' al' σ' H' e' I' E' q'=>?_,λdv st' al' v H' e' I' d' q'=>?_,λenv' st' al' σ' H' e' I' E' q'=>q'.elim,λenv' st' al' σ' H' e' I' E' q'=>q'.elim⟩⟩
 ·by_cases l:i < ds.length
  ·rw[List.getElem?_append_left (by simpa using l),List.getElem?_map,cW l]at hi;cases hi;obtain⟨y,hy,hr⟩:=hv.at (cW l);refine⟨y,?_,.d (aJ.sub hr fb)⟩;unfold start;rw[List.getElem?_append_left (by rw[List.length_map,hv.1];exact l),List.getElem?_map,hy];rfl
  ·rw[List.getElem?_append_right (by simp;omega)]at hi;rw[List.getElem?_replicate]at hi;split at hi
   ·cases hi
   ·cases hi
 ·exact q' .non H' (λc o e=>I'.fr c o id e) .non
 ·obtain⟨d,bJ,_,I2,F,q2⟩:=px I' d' q';exact q2 v H' (λc o e=>I'.fr c o id e) (aJ.sub F λc z=>.inl z)
theorem bc{N:List Str}{body:List Stmt}{vs:List V}{ds:List PyData}{H:Hp}{Q:VK}{P:Addr->Prop}(hP:∀c,P c->∃o,H c=some o/\jd o)(hv:cu (aJ X.K P H) vs ds)
  (h:kN X y0 body {nx:=λ_ _=>∀v H',aK H H'->aJ X.K P H' v .none->Q v H',rt:=λdv st=>mL dv st λd _=>∀v H',aK H H'->aJ X.K P H' v d->Q v H'} (ds.map (λd=>some (DV.dat d))++List.replicate (N.length - ds.length) none) []) :
  ∃t,qD X body t/\t {nx:=λ_ H'=>Q .non H',rt:=Q} (start N vs) H:=uZ hP hv trivial h
end
@[reducible] def S8:DV->String
 | .dat .none=>"NoneType"
 | .dat (.bool _)=>"bool"
 | .dat (.int _)=>"int"
 | .dat (.str _)=>"str"
 | .dat (.list _)=>"list"
 | .dat (.tuple _)=>"tuple"
 | .dat (.dict _)=>"dict"
 | .ref _=>"list"
def IsT(K:aC)(n:String)(f:String->Bool):Prop:=∀t∈(["NoneType","bool","int","str","list","tuple"]:List String),PySem.W.kitOne K (.type t) (.type n)=some (f t)
@[reducible] def Kh:String->Bool:=λt=>t == "int"||t == "bool"
@[reducible] def BU(n:String):String->Bool:=λt=>t == n
@[reducible] def Pd(f:String->Bool)(ea:DX)(env:bQ)(st:aI)(Q:DC):Prop:=ea env st λx aF=>match x with
 | .dat d=>Q (.dat (.bool (f (S8 (.dat d))))) aF
 | .ref k=>Rv aF k=true/\Q (.dat (.bool (f "list"))) aF
theorem gM.ty{K:aC}{P:Addr->Prop}{al:List (List Addr)}{H:Hp}{v:V}{d:PyData}(h:gM K P H al v (.dat d)):Jw K H v (S8 (.dat d))/\S8 (.dat d)∈(["NoneType","bool","int","str","list","tuple"]:List String):=by
 cases d with
 | none=>rw[aJ.gQ h];exact⟨.non,by simp⟩
 | bool b=>rw[aJ.jf h];exact⟨.bl _,by simp⟩
 | int b=>rw[aJ.aU h];exact⟨.int _,by simp⟩
 | str b=>rw[aJ.c8 h];exact⟨.str _,by simp⟩
 | list ds=>obtain⟨b,ys,rfl,g2,_⟩:=aJ.dn h;exact⟨.lst g2,by simp⟩
 | tuple ds=>obtain⟨b,ys,rfl,g2,_⟩:=aJ.bq h;exact⟨.tup g2,by simp⟩
 | dict kv=>have h:aO K _ v (.dict kv):=h;cases h
theorem Ga{X:Cx}{Y:YK}{a:Expr}{ea:DX}{pos p p2:Pos}{T:Str}{n:String}{f:String->Bool}(hf:IsT X.K n f)(hg:Gl X "isinstance")(hm:X.mg "isinstance"=none)(Ki:Gl X T)(Kj:X.mg T=none)(hb:bootBuiltins T=some (.type n))(ha:bw X Y a ea)(hn:T≠"__name__":=by decide)(hd:(T == ("__debug__" : Str))=false:=by decide)
  (h1:starEach [a,.Name T p2] X.env=(false,eval a X.env)::starEach [.Name T p2] X.env:=by rfl):bw X Y (.Call (.Name "isinstance" p) [a,.Name T p2] [] pos) (Pd f ea):=by
 obtain⟨t,p1,a1⟩:=ha.h;refine⟨_,cn EI hg hm iP (pK p1 (pK (Bd (v:=.ty n) Ki Kj hb rfl hn hd) pN rfl) h1) (by decide) (by decide) h1 rfl,λH0 A0 G al H st s env Q R I E q k=>a1 H0 A0 G al H st s env _ _ I E q λx aF bu v H1 e1 I1 d1 q1=>?_⟩;split at q1
 ·obtain⟨ty,mem⟩:=d1.ty;exact⟨v,n,_,_,rfl,ty,hf _ mem,(k.go I1 e1).here I1 (.d (.bl _)) q1⟩
 ·obtain⟨b,ys,rfl,g⟩:=BP I1 d1 q1.1;exact⟨_,n,"list",_,rfl,.lst g,hf _ (by simp),(k.go I1 e1).here I1 (.d (.bl _)) q1.2⟩
theorem Pe{K:aC}{n:String}{f:String->Bool}(h1:PySem.W.kitOne K (.type "NoneType") (.type n)=some (f "NoneType"))(h2:PySem.W.kitOne K (.type "bool") (.type n)=some (f "bool"))(h3:PySem.W.kitOne K (.type "int") (.type n)=some (f "int"))(h4:PySem.W.kitOne K (.type "str") (.type n)=some (f "str"))(h5:PySem.W.kitOne K (.type "list") (.type n)=some (f "list"))(h6:PySem.W.kitOne K (.type "tuple") (.type n)=some (f "tuple")):IsT K n f:=λt ht=>by
 simp only[List.mem_cons,List.not_mem_nil,or_false]at ht;rcases ht with rfl | rfl | rfl | rfl | rfl | rfl<;>assumption
theorem gR{x:Str}{l:List Str}{A B:Prop}(h1:x∈l->A)(h2:x∉l->B):if inD (.str x) (l.map PyData.str)=true then A else B:=by
 rw[yc];by_cases e:x∈l
 ·rw[aan (aaD e)];exact h1 e
 ·rw[aak (λz=>e (aaH z))];exact h2 e
theorem aW{c:Prop}[Decidable c]{A B:Prop}(h1:c->A)(h2:¬ c->B):if decide c=true then A else B:=by
 by_cases e:c
 ·rw[aan (aaD e)];exact h1 e
 ·rw[aak (λz=>e (aaH z))];exact h2 e
theorem rz{c:Prop}[Decidable c]{A B:Prop}(h1:¬ c->A)(h2:c->B):if (!decide c)=true then A else B:=by
 by_cases e:c
 ·rw[aaD e];exact eQ (h2 e)
 ·rw[aaw e];exact fh (h1 e)
theorem M4{b:Bool}{A B:Prop}(h1:b=true->A)(h2:b=false->B):if b=true then A else B:=by
 cases b with
 | true=>exact fh (h1 rfl)
 | false=>exact eQ (h2 rfl)
theorem wm{α:Type}{xs:List α}{j:Nat}{x:α}(h:xs[j]?=some x):kA xs (j:Int)=some x:=by
 have hl:=(bX h).1;unfold kA xR;rw[if_pos (by omega),if_pos (by omega)];show xs[((j:Nat):Int).toNat]?=some x;rw[Int.toNat_natCast];exact h
theorem BV{α:Type}{xs:List α}{n:Int}(h:(xs.length:Int)=n)(h0:0 < n)(i:Int):∃x,x∈xs/\kA xs (i % n)=some x:=by
 have a:=aaV i (b:=n) (by omega);have b:=aaO i h0;obtain⟨j,hj⟩:∃j:Nat,i % n=(j:Int):=⟨(i % n).toNat,by omega⟩;have hl:j < xs.length:=by omega
 rw[hj];exact⟨xs[j],abQ hl,wm (cW hl)⟩
theorem oj{ss:List Str}{n:Int}(h:(ss.length:Int)=n)(h0:0 < n)(i:Int):∃s,s∈ss/\kA (ss.map PyData.str) (i % n)=some (.str s):=by
 obtain⟨d,h1,h2⟩:=BV (xs:=ss.map PyData.str) (n:=n) (by rw[aac];exact h) h0 i;obtain⟨s,h3,rfl⟩:=acu.mp h1;exact⟨s,h3,h2⟩
theorem Gb{K:aC}{P:Addr->Prop}{H:Hp}{ns:List Int}:cu (aJ K P H) (ns.map V.int) (ns.map PyData.int):=⟨by simp,λi y x hy hx=>by
 rw[aaq]at hy hx
 cases q:ns[i]? with
 | none=>rw[q]at hy;cases hy
 | some n=>rw[q]at hy hx;cases hy;cases hx;exact .int _⟩
theorem jE{α β:Type}{f:α->β}{l:List α}{i:Nat}{d:β}(h:(l.map f)[i]?=some d):∃a,l[i]?=some a/\d=f a:=by
 rw[aaq]at h
 cases q:l[i]? with
 | none=>rw[q]at h;cases h
 | some a=>rw[q]at h;cases h;exact⟨a,rfl,rfl⟩
theorem BW{xs ys:List PyData}{i:Nat}{d:PyData}(h:(C3 xs ys)[i]?=some d):∃x y,xs[i]?=some x/\ys[i]?=some y/\d=.tuple [x,y]:=by
 unfold C3 at h;obtain⟨⟨x,y⟩,h1,rfl⟩:=jE h;rw[List.getElem?_zip_eq_some]at h1;exact⟨x,y,h1.1,h1.2,rfl⟩
theorem bO{α β:Type}{f:α->β}{l:List α}{j:Nat}{a:α}(h:l[j]?=some a):kA (l.map f) (j:Int)=some (f a):=wm (by rw[aaq,h];rfl)
@[reducible] def Pf(n:Nat)(ea:DX)(env:bQ)(st:aI)(Q:DC):Prop:=ea env st λx aF=>match mQ aF x with
 | some ds=>match ds[n]? with
  | some d=>Q (.dat d) aF
  | none=>False
 | none=>False
theorem av{X:Cx}{Y:YK}{a:Expr}{ea:DX}{pos p:Pos}{n:Nat}{j}(ha:bw X Y a ea)(hs:vN (.Constant (.int (n:Int)) j p):=by exact λ_ _=>rfl):bw X Y (.Subscript a (.Constant (.int (n:Int)) j p) pos) (Pf n ea):=by
 obtain⟨ta,p1,a1⟩:=ha.h;refine⟨_,aG EA p1 pI hs,λH0 A0 G al H st s env Q R I E q k=>a1 H0 A0 G al H st s env _ _ I E q λx aF bu v H1 e1 I1 d1 q1=>?_⟩;split at q1
 ·rename_i ds e;split at q1
  ·rename_i d hd;obtain⟨b,ys,rfl,g1,g2⟩:=d1.Rq I1 e;obtain⟨z,g3,g4⟩:=g2.kA (wm hd);have kk:=(k.go I1 e1).here I1 (.d g4) q1;rcases g1 with g1 | g1
   ·exact .inl ⟨b,ys,_,z,rfl,rfl,g1,g3,kk⟩
   ·exact .inr (.inl ⟨b,ys,_,z,rfl,rfl,g1,g3,kk⟩)
  ·exact q1.elim
 ·exact q1.elim
structure Sh(n:Nat)(d:PyData):Prop where
 cl:d.canLay0=true
 dp:d.depth<=n
theorem Sh.up{n m:Nat}{d:PyData}(h:Sh n d)(l:n<=m):Sh m d:=⟨h.cl,aau h.dp l⟩
theorem Gd{n:Nat}:Sh n .none:=⟨rfl,aaX _⟩
theorem fU{n:Nat}{i:Int}:Sh n (.int i):=⟨rfl,aaX _⟩
theorem pL{n:Nat}{x:Str}(h:PyData.canLay0 (.str x)=true:=by decide +kernel):Sh n (.str x):=⟨h,aaX _⟩
theorem su{n:Nat}:∀{ds:List PyData},(∀d∈ds,Sh n d)->PyData.canLayAll0 ds=true/\PyData.depthAll ds<=n
 | [],_=>⟨rfl,aaX _⟩
 | d::r,h=>by
  obtain⟨h1,h2⟩:=su (ds:=r) λx hx=>h x (aa4 _ hx)
  have hd:=h d aaN;refine⟨?_,?_⟩
  ·show(PyData.canLay0 d&&PyData.canLayAll0 r)=true;rw[hd.cl,h1];rfl
  ·show max (PyData.depth d) (PyData.depthAll r)<=n;exact Nat.max_le.mpr ⟨hd.dp,h2⟩
theorem om{n:Nat}{ds:List PyData}(h:∀d∈ds,Sh n d):Sh (n + 1) (.list ds):=⟨(su h).1,Nat.succ_le_succ (su h).2⟩
theorem iT{n:Nat}{ds:List PyData}(h:∀d∈ds,Sh n d):Sh (n + 1) (.tuple ds):=⟨(su h).1,Nat.succ_le_succ (su h).2⟩
theorem jF{n:Nat}:∀d∈([]:List PyData),Sh n d:=λ_ h=>nomatch h
theorem bI{n:Nat}{x:PyData}{ds:List PyData}(h:Sh n x)(r:∀d∈ds,Sh n d):∀d∈x::ds,Sh n d:=λd hd=>by
 rcases aap.mp hd with z | z
 ·rw[z];exact h
 ·exact r d z
theorem pM{α:Type}{n:Nat}{f:α->PyData}{l:List α}(h:∀a∈l,Sh n (f a)):∀d∈l.map f,Sh n d:=λd hd=>by
 obtain⟨a,ha,rfl⟩:=acu.mp hd;exact h a ha
theorem Sh.ok{n:Nat}{d:PyData}(h:Sh n d)(l:n<=64:=by decide):PySem.SeqAt.shaped d=true:=by
 show(d.canLay0&&decide (d.depth<=64))=true;rw[h.cl,aaD (aau h.dp l)];rfl
theorem Sh.self{n:Nat}{d:PyData}(h:Sh n d):PyData.eqv d d=true:=PySem.SeqAt.eqv_refl _ h.cl
def sub{α:Type}:List Nat->List α->List α
 | [],_=>[]
 | k::ks,xs=>match xs[k]? with
  | some x=>x::sub ks xs
  | none=>sub ks xs
def Wh{α:Type}:List Nat->List α->List α->List α
 | k::ks,y::ys,xs=>Wh ks ys (xs.set k y)
 | _,_,xs=>xs
def Ce.nd:Ce->Prop
 | .deep _=>False
 | _=>True
section
variable {K:aC} {J:KF} {H0 H H1:Hp} {A0 G:Addr->Prop} {al bu:List (List Addr)} {st aF:aI} {ks:List Nat}
end
theorem fA{s u:DS}{DD:cX}{env:bQ}{st:aI}(k:∀R:bQ->aI->Prop,(∀env' st',u DD env' st'->R env' st')->s {DD with nx:=R} env st):F5 s u DD env st:=k (u DD) (λ_ _ h=>h)
abbrev C7:=List (Str×PyData)
def M5(K:aC)(P:Addr->Prop)(H:Hp)(dd:Option Addr)(fs:C7):Prop:=fs=[]∨∃dx vs,dd=some dx/\H dx=some (.ext (XD dx vs))/\¬ P dx/\vs.map (·.1)=fs.map (·.1)/\cu (aJ K P H) (vs.map (·.2)) (fs.map (·.2))
def yx(K:aC)(E:XK)(P0:Addr->Prop)(Ex:Addr->C7->Prop):YK:=⟨λH0 A0 G=>(∀c,P0 c->G c)/\∀C fs dd H',Ex C fs->ke A0 H0 H'->M5 K P0 H' dd fs->E (.ref C) dd H',λ_ _ _ _ s h=>⟨λc z=>s c (h.1 c z),h.2⟩⟩
abbrev Pg:=List PyData->(PyData->Prop)->(Addr->C7->Prop)->Prop
def Yl(K:aC)(T:Pg):Sp:=λvs H Q E=>∃(P:Addr->Prop) (ds:List PyData),(∀c,P c->∃o,H c=some o/\jd o)/\cu (aJ K P H) vs ds/\T ds (λd=>∀v H',aK H H'->aJ K P H' v d->Q v H') (λC fs=>∀dd H',aK H H'->M5 K P H' dd fs->E (.ref C) dd H')
def Ph(K:aC)(sp:Sp)(T:Pg):Prop:=∀(vs:List V) (H:Hp) (Q:VK) (E:XK) (P:Addr->Prop) (ds:List PyData),(∀c,P c->∃o,H c=some o/\jd o)->cu (aJ K P H) vs ds->T ds (λd=>∀v H',aK H H'->aJ K P H' v d->Q v H') (λC fs=>∀dd H',aK H H'->M5 K P H' dd fs->E (.ref C) dd H')->sp vs H Q E
theorem Pj{K:aC}{T:Pg}:Ph K (Yl K T) T:=λvs H Q E P ds h1 h2 h3=>⟨P,ds,h1,h2,h3⟩
def M6(T:Pg):Prop:=∀ds (Q Q':PyData->Prop) (X X':Addr->C7->Prop),(∀d,Q d->Q' d)->(∀C fs,X C fs->X' C fs)->T ds Q X->T ds Q' X'
section
variable {K:aC} {E:XK} {P0:Addr->Prop} {Ex:Addr->C7->Prop}
end
section
variable {X:Cx} {a b c e:Expr} {es:List Expr} {pos p:Pos} {n:Nat} {d:kI} {x:Str} {E:XK} {P0:Addr->Prop} {Ex:Addr->C7->Prop}
theorem C8{N:List Str}{body:List Stmt}{vs:List V}{ds:List PyData}{H:Hp}{Q:VK}{P:Addr->Prop}(hP:∀c,P c->∃o,H c=some o/\jd o)(hv:cu (aJ X.K P H) vs ds)(hE:∀C fs,Ex C fs->∀dd H',aK H H'->M5 X.K P H' dd fs->E (.ref C) dd H')
  (h:kN X (yx X.K E P Ex) body {nx:=λ_ _=>∀v H',aK H H'->aJ X.K P H' v .none->Q v H',rt:=λdv st=>mL dv st λd _=>∀v H',aK H H'->aJ X.K P H' v d->Q v H'} (ds.map (λd=>some (DV.dat d))++List.replicate (N.length - ds.length) none) []) :
  ∃t,qD X body t/\t {nx:=λ_ H'=>Q .non H',rt:=Q} (start N vs) H :=
 uZ (Y:=yx X.K E P Ex) hP hv ⟨λ_ z=>z,λC fs dd H' e k x=>hE C fs e dd H' (λc o q=>k c o id q) x⟩ h
end
def Pk(C:Addr)(fs:C7):Ob where
 lies K P H fp:=∃a dd,fp=[a]/\H a=some (.ext (MM C a dd))/\M5 K P H dd fs
 keep K P H fp P' H' h hP kp s:=by
  obtain⟨a,dd,rfl,h1,h2⟩:=h;refine⟨a,dd,rfl,kp a aaN _ h1,?_⟩;rcases h2 with h | ⟨dx,vs,g1,g2,g3,g4,g5⟩
  ·exact .inl h
  ·obtain⟨n',q'⟩:=bG.mp (s dx _ (bG.mpr ⟨g3,g2⟩));exact .inr ⟨dx,vs,g1,q',n',g4,g5.imp λy x z=>aO.same s z⟩
 mu K P H fp h:=by
  obtain⟨a,dd,rfl,h1,_⟩:=h;intro b hb;rw[jr hb];exact⟨_,h1,.inr (.inr ⟨_,rfl⟩)⟩
section
variable {X:Cx} {CW:Addr} {cx n:Str} {i:Nat} {b₀:Stmt} {suite:List Stmt} {np hpos pos:Pos} {tb:TS}
def S9(K:aC)(CW:Addr)(i j:Nat)(sp:Sp)(t:TA)(tb:TS):TS:=λD σ H=>t σ H λvs H1=>sp (vs++[]) H1 (λv H2=>D.nx (σ.set j (some v)) H2) (Fl K CW i tb D σ)
theorem Kk{j:Nat}{y:Str}{py:Pos}{x:Str}{k:Nat}{ps:List Str}{sp:Sp}{e:Expr}{es:List Expr}{t:TA}{p cpos epos:Pos}(h:dw X.prog X.w X.K X.mg X.base (zq X.prog X.w) x k ps sp)(hr:dW k X.A)(hgf:Gl X x)(ha:∀E,PA (X.mU E) (e::es) t)
  (hg:Gl X cx) (hm:X.mg cx=some (.ref CW)) (q:PySem.W.ktsIn X.K CW "BaseException"=true) (hN:X.N.Nodup) (hi:X.N[i]?=some n) (hk:X.env.kindOf n=some .local) (hj:X.N[j]?=some y) (hy:Loc X.env.scope y) (hs:∀a E,qD (X.hand a E) (b₀::suite) tb)
  (hst:X.stack=X.env::X.outer:=by rfl) (hf:X.env.frame=some X.env.locals:=by rfl) (hex:X.ex=[]:=by rfl) (hd:(cx == ("__debug__" : Str))=false:=by decide) (hdb:(x == ("__debug__" : Str))=false:=by decide)
  (he:starEach (e::es) X.env=(false,eval e X.env)::starEach es X.env:=by rfl) (hpl:(backTo cpos (starEach es X.env)).any (·.1)=false:=by rfl) (hsw:swapsWith (.Call (.Name x p) (e::es) [] cpos) (some (.Name y py)) epos.line X.env=pure false:=by rfl) (hfy:X.fn y=true∨X.env.scope.names.lookup y=some .local:=by first | exact .inl rfl | exact .inr rfl | assumption) :
  PS X (.Try [.Assign [.Name y py] (.Call (.Name x p) (e::es) [] cpos) epos] [.ExceptHandler (some (.Name cx np)) (some n) (b₀::suite) hpos] [] [] pos) (S9 X.K CW i j sp t tb):=by
 intro pins s σ H D I hw;obtain⟨f,fd,F,b,kp,m⟩:=h.ex;refine wpAny_Try_except ?_
 let Et:Value->Shared->Prop:=λe s₁=>wpAny (model X.prog X.w) X.A (noteFrame e X.env) (λ_ s₂=>wpAny (model X.prog X.w) X.A (setFlight e none) (λ_ s₃=>wpAny (model X.prog X.w) X.A (handleBy e X.env [.ExceptHandler (some (.Name cx np)) (some n) (b₀::suite) hpos]) (SP X pins D) X.xe s₃) X.xe s₂) X.xe s₁
 have ev:wpAny (model X.prog X.w) X.A (eval (.Call (.Name x p) (e::es) [] cpos) X.env) (EP X pins σ λv H2=>D.nx (σ.set j (some v)) H2) Et s:=by
  refine abi (nM I hgf m ?_ hdb);refine ab5 (h₀:=X.base) I.ok.mod.kin kp (cU (ha Et cpos pins s σ H _ (I.mU Et) hw) λus s1 ⟨vs,H1,I1,r,q1⟩=>⟨I1.nK,?_⟩) he hpl;have I1':=I1.jv;have hl:(us++[]).length=ps.length:=by rw[← (r.append (show Vals [] []from .nil)).length];exact F.len _ _ _ _ q1
  refine acK (aci (F.run X.A X.stack s1 H1 ⟨us,[]⟩ (us++[]) (vs++[]) _ _ hr I1'.Oa (b s1 us I1'.nK hl) (r.append .nil) q1) λr s' hq=>?_)
  cases r with
  | error e=>exact JO hst hf hg hm q hN hi hk hs hd hex I1' hq
  | ok fl =>
   cases fl with
   | ret u=>exact I1'.after hq
   | next=>exact False.elim hq
   | brk=>exact False.elim hq
   | cont=>exact False.elim hq
 have st:wpAny (model X.prog X.w) X.A (execs [.Assign [.Name y py] (.Call (.Name x p) (e::es) [] cpos) epos] X.env) (SP X pins D) Et s:=by
  refine ach (cU (wpAny_Assign_Name (Q:=SP X pins D) (cU ev λv s1 ⟨x,H1,I1,r1,q1⟩=>rE I1 hN hj hy r1 (λs2 I2=>⟨_,H1,I2,q1⟩) hfy) hsw) λfl s1 h1=>?_)
  cases fl with
  | next=>exact abh h1
  | brk=>exact h1
  | cont=>exact h1
  | ret u=>exact h1
 refine aaJ st (λfl s1 h1=>?_) λ_ _ z=>z
 cases fl with
 | next=>exact abh h1
 | brk=>exact h1
 | cont=>exact h1
 | ret u=>exact h1
end
@[reducible] def BX(K:aC)(CW:Addr)(i:Nat)(s:DS)(DD:cX)(env:bQ)(st:aI)(C:Addr)(fs:C7):Prop:=PySem.W.mroIn K C (.ref CW)=some true/\s {nx:=λenv' st'=>DD.nx (env'.set i none) st',rt:=DD.rt,bk:=λenv' st'=>DD.bk (env'.set i none) st',ct:=λenv' st'=>DD.ct (env'.set i none) st'} (env.set i (some (.ref st.length))) (st++[.obj (Pk C fs)])
@[reducible] def Ge(K:aC)(CW:Addr)(i j:Nat)(T:Pg)(d:kI)(s:DS)(DD:cX)(env:bQ)(st:aI):Prop:=d env st λxs aF=>eM xs aF λds bJ=>T ds (λv=>DD.nx (env.set j (some (.dat v))) bJ) (BX K CW i s DD env bJ)
section
variable {J:KF} {H0:Hp} {A0:Addr->Prop} {G:Addr->Prop} {al bu:List (List Addr)} {H H1:Hp} {st aF:aI}
theorem kG.Pl{K:aC}{P:Addr->Prop}{s:St}{env:bQ}(h:kG K P H al s env)(i:Nat):kG K P H al (s.set i none) (env.set i none):=by
 refine⟨by rw[aaz,aaz];exact h.1,λj u hu=>?_⟩;rw[acf]at hu;by_cases hj:i=j
 ·subst hj;rw[aan rfl]at hu;split at hu
  ·cases hu
  ·cases hu
 ·rw[aak hj]at hu;obtain⟨w,h1,h2⟩:=h.2 j u hu;exact⟨w,by rw[aat hj];exact h1,h2⟩
theorem DI.zU(I:DI J H0 A0 G al H st){H2:Hp}(s:aK H H2){a C:Addr}{dd:Option Addr}{fs:C7}(h:H2 a=none)(x:M5 J (Fb G al st) H2 dd fs):Ext al H st (al++[[a]]) (upd H2 a (.ext (MM C a dd))) (st++[.obj (Pk C fs)])/\DI J H0 A0 G (al++[[a]]) (upd H2 a (.ext (MM C a dd))) (st++[.obj (Pk C fs)]):=by
 have s2:aK H (upd H2 a (.ext (MM C a dd))):=s.trans (eT h);have ha:H a=none:=s.free h;refine I.more (c:=.obj (Pk C fs)) (λb hb=>by rw[jr hb];exact ha) (by simp) s2 (λb hb=>by rw[jr hb];exact⟨_,uS⟩) ⟨by simp,a,dd,rfl,uS,?_⟩;rcases x with x | ⟨dx,vs,g1,g2,g3,g4,g5⟩
 ·exact .inl x
 have hda:dx≠a:=λz=>by rw[z,h]at g2;cases g2
 have hb:∀c,Fb G (al++[[a]]) (st++[.obj (Pk C fs)]) c->Fb G al st c∨c=a:=λc z=>by
  rcases z with z | ⟨k,fp,ce,e1,e2,e3,e4⟩
  ·exact .inl (.inl z)
  ·by_cases hk:k < al.length
   ·rw[aab hk]at e1;rw[aab (by rw[← I.len];exact hk)]at e3;exact .inl (.inr ⟨k,fp,ce,e1,e2,e3,e4⟩)
   ·rw[aaj (by omega)]at e1;rw[jr (aaf e1)]at e2;exact .inr (jr e2)
 refine .inr ⟨dx,vs,g1,by rw[uN hda];exact g2,λz=>?_,g4,g5.imp λy x z=>aO.same (gc λc o n e=>⟨λw=>?_,?_⟩) z⟩
 ·rcases hb dx z with w | w
  ·exact g3 w
  ·exact hda w
 ·rcases hb c w with w | w
  ·exact n w
  ·rw[w,h]at e;cases e
 ·rw[uN (nN e h)];exact e
theorem sr.hand{DD:cX}{D:Ends}(k:sr J H0 A0 G al H st DD D)(i:Nat):sr J H0 A0 G al H st {nx:=λenv' st'=>DD.nx (env'.set i none) st',rt:=DD.rt,bk:=λenv' st'=>DD.bk (env'.set i none) st',ct:=λenv' st'=>DD.ct (env'.set i none) st'} {nx:=λσ' H'=>D.nx (σ'.set i none) H',rt:=D.rt,bk:=λσ' H'=>D.bk (σ'.set i none) H',ct:=λσ' H'=>D.ct (σ'.set i none) H'} :=
 ⟨λenv' st' al' s' H' e I E q=>k.nx _ st' al' _ H' e I (E.Pl i) q,k.rt,λenv' st' al' s' H' e I E q=>k.bk _ st' al' _ H' e I (E.Pl i) q,λenv' st' al' s' H' e I E q=>k.ct _ st' al' _ H' e I (E.Pl i) q⟩
end
section
variable {X:Cx} {Y:YK} {CW:Addr} {cx n x:Str} {i:Nat} {b₀:Stmt} {suite:List Stmt} {np hpos pos:Pos} {s:DS} {nn:Nat} {d:kI} {e:Expr} {es:List Expr}
theorem Kl{J:KF}{tb:TS}{H0:Hp}{A0:Addr->Prop}{G:Addr->Prop}{al:List (List Addr)}{H H2:Hp}{st:aI}{σ:St}{env:bQ}{DD:cX}{D:Ends}{C:Addr}{fs:C7}{dd:Option Addr}(hs:AS J tb s)(I:DI J H0 A0 G al H st)(En:kG J (Fb G al st) H al σ env)(k:sr J H0 A0 G al H st DD D)(q:BX J CW i s DD env st C fs)(sm:aK H H2)(x:M5 J (Fb G al st) H2 dd fs):Fl J CW i tb D σ (.ref C) dd H2:=by
 refine⟨C,rfl,q.1,λa ha=>?_⟩;obtain⟨E1,I1⟩:=I.zU (C:=C) sm ha x;refine hs H0 A0 G _ _ _ _ _ _ _ I1 ((En.ext E1).set ?_ i) q.2 ((k.go I1 E1).hand i);exact⟨a,[],by rw[← I.len,aaj (aag _),aa0];rfl,rfl⟩
theorem Km{j:Nat}{y:Str}{py:Pos}{k:Nat}{ps:List Str}{sp:Sp}{T:Pg}{p cpos epos:Pos}(h:dw X.prog X.w X.K X.mg X.base (zq X.prog X.w) x k ps sp)(hsp:Ph X.K sp T)(mo:M6 T)(hr:dW k X.A)(hgf:Gl X x)(ha:∃t,(∀E,PA (X.mU E) (e::es) t)/\AA (kf X Y) t nn d)
  (hg:Gl X cx) (hm:X.mg cx=some (.ref CW)) (q:PySem.W.ktsIn X.K CW "BaseException"=true) (hN:X.N.Nodup) (hi:X.N[i]?=some n) (hk:X.env.kindOf n=some .local) (hj:X.N[j]?=some y) (hy:Loc X.env.scope y) (hs:∃tb,(∀a E,qD (X.hand a E) (b₀::suite) tb)/\AS (kf X Y) tb s)
  (hst:X.stack=X.env::X.outer:=by rfl) (hf:X.env.frame=some X.env.locals:=by rfl) (hex:X.ex=[]:=by rfl) (hd:(cx == ("__debug__" : Str))=false:=by decide) (hdb:(x == ("__debug__" : Str))=false:=by decide)
  (he:starEach (e::es) X.env=(false,eval e X.env)::starEach es X.env:=by rfl) (hpl:(backTo cpos (starEach es X.env)).any (·.1)=false:=by rfl) (hsw:swapsWith (.Call (.Name x p) (e::es) [] cpos) (some (.Name y py)) epos.line X.env=pure false:=by rfl) (hfy:X.fn y=true∨X.env.scope.names.lookup y=some .local:=by first | exact .inl rfl | exact .inr rfl | assumption) :
  BQ X Y (.Try [.Assign [.Name y py] (.Call (.Name x p) (e::es) [] cpos) epos] [.ExceptHandler (some (.Name cx np)) (some n) (b₀::suite) hpos] [] [] pos) (Ge X.K CW i j T d s):=by
 obtain⟨t,p1,a1⟩:=ha;obtain⟨tb,p2,a2⟩:=hs;refine⟨_,Kk h hr hgf p1 hg hm q hN hi hk hj hy p2 hst hf hex hd hdb he hpl hsw hfy,λH0 A0 G al H st σ env DD D I En q k=>?_⟩;refine a1 H0 A0 G al H st σ env _ _ I En q λxs aF bu vs H1 e1 I1 d1 q1=>?_
 obtain⟨ds,bJ,E2,I2,F2,q2⟩:=iq I1 d1 q1.2;rw[aaM];have e2:=e1.trans I1 E2;have Ym:=En.ext e2;have k2:=k.go I2 e2;refine hsp vs H1 _ _ (Fb G bu bJ) ds (λc hc=>I2.pq hc) F2 (mo _ _ _ _ _ (λd hd v H' s r=>?_) (λC fs hx dd H' s x=>Kl a2 I2 Ym k2 hx s x) q2);exact k2.nx _ bJ bu _ H' (.same s) (I2.same s) ((Ym.ext (.same s)).set (.d r) j) hd
@[reducible] def U7(K:aC)(f:Str)(ea:DX)(env:bQ)(st:aI)(Q:DC):Prop:=ea env st λx aF=>match x with
 | .ref k=>match aF[k]? with
  | some (.obj o)=>∃(C:Addr) (fs:C7) (d:PyData),o=Pk C fs/\(KX K C/\PySem.W.hasDictIn K C=true/\fT K C f)/\fs.lookup f=some d/\Q (.dat d) aF
  | _=>False
 | _=>False
theorem va{K:aC}{P:Addr->Prop}{H:Hp}{f:Str}{d:PyData}:∀{vs:List (Str×V)} {fs:C7},vs.map (·.1)=fs.map (·.1)->cu (aJ K P H) (vs.map (·.2)) (fs.map (·.2))->fs.lookup f=some d->∃v,vs.lookup f=some v/\aJ K P H v d
 | [],[],_,_,h=>by cases h
 | (a,v)::vs,(b,u)::fs,e,h,hl=>by
  have e1:a=b:=by simpa using(List.cons.inj e).1
  have e2:=(List.cons.inj e).2;subst e1;by_cases z:f=a
  ·subst z;rw[acJ]at hl;cases hl;exact⟨v,acJ,h.2 0 v _ rfl rfl⟩
  ·have zb:(f == a)=false:=by simpa using z
   rw[List.lookup_cons,zb]at hl;rw[List.lookup_cons,zb];exact va e2 ⟨by have:=h.1;simpa using this,λi y x h1 h2=>h.2 (i + 1) y x (by simpa using h1) (by simpa using h2)⟩ hl
 | [],_::_,e,_,_=>by cases e
 | _::_,[],e,_,_=>by cases e
theorem Ta{a:Expr}{ea:DX}{f:Str}(ha:bw X Y a ea)(hb:attributeBase a f X.env (eval a X.env)=eval a X.env:=by rfl):bw X Y (.Attribute a f pos) (U7 X.K f ea):=by
 obtain⟨t,p1,a1⟩:=ha.h;refine⟨_,Su p1 hb,λH0 A0 G al H st s env Q R I En q k=>?_⟩;refine a1 H0 A0 G al H st s env _ _ I En q λx aF bu v H1 e1 I1 d1 q1=>?_
 cases x with
 | dat d=>exact q1.elim
 | ref j =>
  dsimp only at q1;split at q1
  ·rename_i o hs;obtain⟨C,fs,d,rfl,⟨g1,g2,g3⟩,hl,q⟩:=q1;obtain⟨b,r,h1,rfl⟩:=d1;obtain⟨_,a',dd,e0,ha',hx⟩:=I1.cel j _ _ h1 hs;cases e0;rcases hx with hx | ⟨dx,vs,rfl,f2,f3,f4,f5⟩
   ·rw[hx]at hl;cases hl
   ·obtain⟨v,hv,hr⟩:=va f4 f5 hl;exact⟨b,C,dx,vs,v,_,rfl,ha',λh p=>OM h p,f2,g1,g2,g3,hv,(k.go I1 e1).here I1 (.d hr) q⟩
  ·exact q1.elim
@[reducible] def C9(K:aC)(D:Value)(ea:DX)(env:bQ)(st:aI)(Q:DC):Prop:=ea env st λx aF=>match x with
 | .ref k=>match aF[k]? with
  | some (.obj o)=>∃(C:Addr) (fs:C7) (b:Bool),o=Pk C fs/\(KX K C/\PySem.W.hasDictIn K C=true)/\PySem.W.kitOne K (.ref C) D=some b/\Q (.dat (.bool b)) aF
  | _=>False
 | _=>False
theorem Ko{a:Expr}{ea:DX}{p p2:Pos}{T:Str}{D:Addr}(hg:Gl X "isinstance")(hm:X.mg "isinstance"=none)(Ki:Gl X T)(Kj:X.mg T=some (.ref D))(ha:bw X Y a ea)(hd:(T == ("__debug__" : Str))=false:=by decide)
  (h1:starEach [a,.Name T p2] X.env=(false,eval a X.env)::starEach [.Name T p2] X.env:=by rfl):bw X Y (.Call (.Name "isinstance" p) [a,.Name T p2] [] pos) (C9 X.K (.ref D) ea):=by
 obtain⟨t,p1,a1⟩:=ha.h;refine⟨_,cn uP hg hm iP (pK p1 (pK (ik (v:=.ref D) Ki Kj rfl hd) pN rfl) h1) (by decide) (by decide) h1 rfl,λH0 A0 G al H st s env Q R I En q k=>a1 H0 A0 G al H st s env _ _ I En q λx aF bu v H1 e1 I1 d1 q1=>?_⟩
 cases x with
 | dat d=>exact q1.elim
 | ref j =>
  dsimp only at q1;split at q1
  ·rename_i o hs;obtain⟨C,fs,bb,rfl,⟨g1,g2⟩,hl,q⟩:=q1;obtain⟨b,r,h1,rfl⟩:=d1;obtain⟨_,a',dd,e0,ha',hx⟩:=I1.cel j _ _ h1 hs;cases e0;exact⟨b,C,.ref D,.ref D,bb,_,rfl,ha',λh p=>Bz h p,g1,g2,rfl,hl,(k.go I1 e1).here I1 (.d (.bl _)) q⟩
  ·exact q1.elim
theorem Kp{a:Expr}{ea:DX}{p p2:Pos}{T:Str}{n:String}(hg:Gl X "isinstance")(hm:X.mg "isinstance"=none)(Ki:Gl X T)(Kj:X.mg T=none)(hb:bootBuiltins T=some (.type n))(ha:bw X Y a ea)(hn:T≠"__name__":=by decide)(hd:(T == ("__debug__" : Str))=false:=by decide)
  (h1:starEach [a,.Name T p2] X.env=(false,eval a X.env)::starEach [.Name T p2] X.env:=by rfl):bw X Y (.Call (.Name "isinstance" p) [a,.Name T p2] [] pos) (C9 X.K (.type n) ea):=by
 obtain⟨t,p1,a1⟩:=ha.h;refine⟨_,cn uP hg hm iP (pK p1 (pK (Bd (v:=.ty n) Ki Kj hb rfl hn hd) pN rfl) h1) (by decide) (by decide) h1 rfl,λH0 A0 G al H st s env Q R I En q k=>a1 H0 A0 G al H st s env _ _ I En q λx aF bu v H1 e1 I1 d1 q1=>?_⟩
 cases x with
 | dat d=>exact q1.elim
 | ref j =>
  dsimp only at q1;split at q1
  ·rename_i o hs;obtain⟨C,fs,bb,rfl,⟨g1,g2⟩,hl,q⟩:=q1;obtain⟨b,r,h1,rfl⟩:=d1;obtain⟨_,a',dd,e0,ha',hx⟩:=I1.cel j _ _ h1 hs;cases e0;exact⟨b,C,.ty n,.type n,bb,_,rfl,ha',λh p=>Bz h p,g1,g2,rfl,hl,(k.go I1 e1).here I1 (.d (.bl _)) q⟩
  ·exact q1.elim
def Tb(J:KF)(n:Nat)(d:kI):TA:=λs H R=>∃(H0:Hp) (A0:Addr->Prop) (G:Addr->Prop) (al:List (List Addr)) (st:aI) (env:bQ) (Q:List DV->aI->Prop),DI J H0 A0 G al H st/\kG J (Fb G al st) H al s env/\d env st Q/\Yg J H0 A0 G al H st (λl s=>l.length=n/\Q l s) R
def Tc(J:KF)(s:DS):TS:=λD σ H=>∃(H0:Hp) (A0:Addr->Prop) (G:Addr->Prop) (al:List (List Addr)) (st:aI) (env:bQ) (DD:cX),DI J H0 A0 G al H st/\kG J (Fb G al st) H al σ env/\s DD env st/\sr J H0 A0 G al H st DD D
theorem qG.pa(h:qG X Y es nn d):PA X es (Tb (kf X Y) nn d):=by
 obtain⟨t,p1,a1⟩:=h.h;rintro w pins s σ H R I ⟨H0,A0,G,al,st,env,Q,h1,h2,h3,h4⟩;exact p1 w pins s σ H R I (a1 H0 A0 G al H st σ env Q R h1 h2 h3 h4)
theorem qJ.Z2{ss:List Stmt}(h:qJ X Y ss s):qD X ss (Tc (kf X Y) s):=by
 obtain⟨t,p1,a1⟩:=h.h;rintro pins s σ H D I ⟨H0,A0,G,al,st,env,DD,h1,h2,h3,h4⟩;exact p1 pins s σ H D I (a1 H0 A0 G al H st σ env DD D h1 h2 h3 h4)
theorem Td(h:∀E,qG (X.mU E) Y es nn d):∃t,(∀E,PA (X.mU E) es t)/\AA (kf X Y) t nn d :=
 ⟨Tb (kf X Y) nn d,λE=>(h E).pa,λH0 A0 G al H st s env Q R h1 h2 h3 h4=>⟨H0,A0,G,al,st,env,Q,h1,h2,h3,h4⟩⟩
theorem Te{ss:List Stmt}(h:∀a E,qJ (X.hand a E) Y ss s):∃tb,(∀a E,qD (X.hand a E) ss tb)/\AS (kf X Y) tb s :=
 ⟨Tc (kf X Y) s,λa E=>(h a E).Z2,λH0 A0 G al H st σ env DD D h1 h2 h3 h4=>⟨H0,A0,G,al,st,env,DD,h1,h2,h3,h4⟩⟩
end
section
variable {X:Cx} {Y:YK} {a b c e:Expr} {es:List Expr} {pos p:Pos} {ea eb ec:DX} {K:aC} {J:KF} {n:Nat} {d:kI}
theorem Kq:SU J N2 uY:=λH0 A0 G al H st s env vs ds Q R I E h q k=>by
 unfold uY at q;split at q
 ·have:=h.1
  cases vs with
  | nil=>exact⟨rfl,k _ _ al _ H .refl I E q⟩
  | cons v r=>simp at this
 ·exact q.elim
def M7(K:aC):R2:=λx y H Q=>∃l k xs,x=.ref l/\y=.int k/\cG K H l xs/\-(2 ^ 63)<=k/\k < 2 ^ 63/\xs.length * k.toNat<=sizeLine /\
 ∀p,H p=none->Q (.ref p) (upd H p (.lst (List.replicate k.toNat xs).flatten))
theorem Dc(l:Addr)(items:Array Value)(n:Nat)(x:Int)(u:Tok)(sl:Array (Option Value))(hc0:¬(!Builtin.List.listFitsIndex x)=true)(hc1:¬items.size * x.toNat > (2 ^ 63 - 1) / 8)(Oe:¬Builtin.List.listTooLong (items.size * x.toNat)=true):
  Meets (Builtin.«list.__mul__» ⟨[.ref l,.int x u],[]⟩) (λ_ R s=>s.heap.get? l=some {cls:=.type "list",dict:=none,data:=.seq items n,slots:=sl}/\R (.ok (.ret (Value.ref s.heap.objs.size))) {s with heap:=s.heap.push {cls:=Value.type "list",data:=Data.seq (List.foldl (λx1 x2=>x1++x2) #[] (List.replicate (if items.isEmpty=true then 0 else x.toNat) items))},toks:=s.toks}) :=
 .of_wp λprog w A R s h=>by
  obtain⟨hp,g,d,tk,os⟩:=s;obtain⟨hl,h⟩:=h;have hsz:=AutoListH.joined_fits Oe
  wp_walk;refine abY (aaw (Nat.not_lt.mpr hsz)) ?_;wp_walk;exact⟨_,rfl,h⟩
theorem Dd(a:Int)(t:Tok)(l:Addr)(items:Array Value)(n:Nat)(sl:Array (Option Value)):
  Meets (Builtin.«int.__rmul__» ⟨[.int a t,.ref l],[]⟩) (λ_ R s=>s.heap.get? l=some {cls:=.type "list",dict:=none,data:=.seq items n,slots:=sl}/\R (.ok (.ret Value.notImplemented)) s) :=
 .of_wp λprog w A R s h=>by obtain⟨hp,g,dd,tk,os⟩:=s;obtain⟨hl,h⟩:=h;wp_walk;exact⟨_,rfl,h⟩
theorem Kr:i7 X (binaryOp .Mult) (M7 X.K):=by
 intro pins s σ H x y v u Q I rx ry h;obtain⟨l,k,xs,rfl,rfl,hH,h1,h2,hz,q⟩:=h;cases rx;obtain⟨t,rfl⟩:=ry;obtain⟨its,r,⟨⟨c1,d1,a1,Bs⟩,n,e,rfl,rfl,rfl⟩,z⟩:=I.list hH;have hl:=r.length;have hlen:its.toArray.size * k.toNat<=sizeLine:=by rw[aaL,← hl];exact hz
 have hcap:¬ its.toArray.size * k.toNat > (2 ^ 63 - 1) / 8:=by
  have:(sizeLine:Nat)<=(2 ^ 63 - 1) / 8:=by decide
  omega
 have hfit:¬ (!Builtin.List.listFitsIndex k)=true:=by
  rw[fitsIndex_both h1 h2];exact aai
 have hlong:¬ Builtin.List.listTooLong (its.toArray.size * k.toNat)=true:=by
  rw[ED hlen];exact aai
 have hnew:List.foldl (λx1 x2=>x1++x2) #[] (List.replicate (if its.toArray.isEmpty=true then 0 else k.toNat) its.toArray)=(List.replicate k.toNat its).flatten.toArray:=by
  have f0:∀m:Nat,List.foldl (λx1 x2=>x1++x2) #[] (List.replicate m its.toArray)=(List.replicate m its).flatten.toArray:=λm=>by
   have:=foldl_rep its m [];rw[List.nil_append]at this;exact this
  rw[f0]
  cases its with
  | nil=>simp
  | cons a r'=>rw[if_neg (by simp)]
 refine abB (T:="list") (U:="int") (by decide) ⟨_,e,rfl⟩ (λs'=>abH s' k t) noFill_list_mul acz abk repeat_list acq.lookup
  (abc abk (abH s k t) acr (acd _ _) (Dd k t l its.toArray n Bs)
   ⟨e,rfl,⟨_,e,rfl⟩,abc F.slot_list_mul ⟨_,e,rfl⟩ F.entry_list_mul (F.args_list_mul_2 _ _) (Dc l its.toArray n k t Bs hfit hcap hlong) ⟨e,?_⟩⟩)
 rw[hnew];exact⟨.ref _,_,I.Jo (t':=s.toks) (r.rep k.toNat) (by rw[len_rep,Nat.mul_comm];exact hz),rfl,q _ I.fresh⟩
theorem cu.rep{α:Type}{R:V->α->Prop}{ys:List V}{xs:List α}(h:cu R ys xs):∀k:Nat,cu R (List.replicate k ys).flatten (List.replicate k xs).flatten
 | 0=>.nil
 | k + 1=>by
  rw[aaB,aaB,aaQ,aaQ];exact h.append (cu.rep h k)
@[reducible] def Gf(x y:DV)(st:aI)(Q:DC):Prop:=match y with
 | .dat (.int k)=>match x with
  | .dat (.tuple i)=>i≠[]/\i.length * k.toNat<=1000000/\k < 9223372036854775808/\-9223372036854775808<=k/\Q (.dat (.tuple (List.replicate k.toNat i).flatten)) st
  | x=>match ip st x with
   | some i=>i.length * k.toNat<=1000000/\k < 9223372036854775808/\-9223372036854775808<=k/\Q (.dat (.list (List.replicate k.toNat i).flatten)) st
   | none=>False
 | _=>False
theorem Pm:AO J (λx y H Q=>M7 J x y H Q∨Fd J x y H Q) Gf:=λH0 A0 G al H st x y dx dy Q R I h1 h2 q k=>by
 unfold Gf at q;split at q
 ·rename_i j;rw[aJ.aU h2];split at q
  ·obtain⟨a,ys,rfl,g1,_,g2⟩:=aJ.bq h1;refine .inr ⟨a,ys,j,rfl,rfl,g1,λz=>q.1 ?_,q.2.2.2.1,q.2.2.1,by rw[g2.len];exact jD q.2.1,λp H' s hp=>k.laid I s (.d ?_) q.2.2.2.2⟩
   ·have:=g2.len;rw[z]at this;exact aa8.mp this.symm
   ·have g:=(g2.rep j.toNat).imp λy x z=>z.same s
    exact aO.tup ((I.same s).Fq hp) g.1 g.2
  ·split at q
   ·rename_i i e1;obtain⟨a,ys,rfl,g1,g2⟩:=h1.MQ I e1;exact .inl ⟨a,j,ys,rfl,rfl,g1,q.2.2.1,q.2.1,by rw[g2.len];exact jD q.1,λp hp=>k.list I hp (g2.rep _) q.2.2.2⟩
   ·exact q.elim
 ·exact q.elim
theorem oo(ha:bw X Y a ea)(hb:bw X Y b eb):bw X Y (.BinOp a .Mult b pos) (nZ Gf ea eb):=kJ (kK Kr rl) Pm ha hb
end
abbrev yn:=bQ->aI->(List DV->(aI->Prop)->aI->Prop)->Prop
def Z3(J:KF)(H0:Hp)(A0:Addr->Prop)(G:Addr->Prop)(al:List (List Addr))(H:Hp)(st:aI)(Jj:It)(xs:List DV)(ok:aI->Prop):Prop:=∀(G1:Addr->Prop) (bu:List (List Addr)) (H1:Hp) (aF:aI) (i:Nat),(∀c,G1 c->G c∨H c=none)->Ext al H st bu H1 aF->DI J H0 A0 G1 bu H1 aF->ok aF ->
 (∀d,xs[i]?=some d->Jj.go i H1/\∀x H2,Jj.yld i H1 x H2->aK H1 H2/\gM J (Fb G1 bu aF) H2 bu x d)/\(xs.length<=i->i<=xs.length->Jj.stop i H1)
def Wi(J:KF)(wi:TI)(di:yn):Prop:=∀(H0:Hp) (A0:Addr->Prop) (G:Addr->Prop) (al:List (List Addr)) (H:Hp) (st:aI) (s:St) (env:bQ) (Q:List DV->(aI->Prop)->aI->Prop) (R:It->Hp->Prop),DI J H0 A0 G al H st->kG J (Fb G al st) H al s env->di env st Q ->
 (∀Jj xs ok st' al' H',Ext al H st al' H' st'->DI J H0 A0 G al' H' st'->Z3 J H0 A0 G al' H' st' Jj xs ok->Q xs ok st'->R Jj H')->wi s H R
structure Tf(X:Cx)(Y:YK)(tg iter:Expr)(d:yn):Prop where
 h:∃wi,PI X tg iter wi/\Wi (kf X Y) wi d
section
variable {X:Cx} {Y:YK} {tg a b c e:Expr} {es:List Expr} {pos p:Pos} {ea eb ec:DX} {K:aC} {J:KF} {n:Nat} {d:kI} {scope:Scope}
@[reducible] def Ks(di:pF)(env:bQ)(st:aI)(Q:List DV->(aI->Prop)->aI->Prop):Prop:=di env st λxs ok aF=>Q (xs.map DV.dat) ok aF
theorem Pn{wi:TI}{di:pF}(h:AI J wi di):Wi J wi (Ks di):=λH0 A0 G al H st s env Q R I E q k=>h H0 A0 G al H st s env _ _ I E q λJj xs ok st' al' H' e1 I1 ir q1=>k Jj _ ok st' al' H' e1 I1 (λG1 bu H1 aF i hG e2 I2 o2=>by
 obtain⟨z1,z2⟩:=ir G1 bu H1 aF i hG e2 I2 o2;refine⟨λd hd=>?_,by rw[aac];exact z2⟩;rw[aaq]at hd
 cases w:xs[i]? with
 | none=>rw[w]at hd;cases hd
 | some y =>
  rw[w]at hd;cases hd;exact z1 y w) q1
theorem Po{di:pF}(h:IH X Y tg a di):Tf X Y tg a (Ks di):=by
 obtain⟨w,p1,a1⟩:=h.h;exact⟨_,p1,Pn a1⟩
def Z4(fin:List DV->aI->DC->Prop)(dg:qj)(dt:DT)(de:DX)(xs:List DV)(ok:aI->Prop)(env:bQ)(aF:aI)(Q:DC):Prop:=xs.length<=1000000/\∃I:Nat->List DV->aI->Prop,I 0 [] aF/\(∀i ys st,I i ys st->ok st) /\
 (∀i ys st d,I i ys st->xs[i]?=some d->dg d env st λgk bJ=>dt gk bJ λb kc=>if b=true then de gk kc λy vS=>I (i + 1) (ys++[y]) vS else I (i + 1) ys kc)/\∀ys st,I xs.length ys st->fin ys st Q
@[reducible] def Kt(fin:List DV->aI->DC->Prop)(own:Nat)(ix:List Nat)(di:yn)(dg:qj)(dt:DT)(de:DX)(env:bQ)(st:aI)(Q:DC):Prop:=di env st λxs ok aF=>Z4 fin dg dt de xs ok (yi own ix env) aF Q
@[reducible] def Gg:List DV->aI->DC->Prop:=λys st Q=>∃ds:List PyData,ys=ds.map DV.dat/\Q (.dat (.list ds)) st
def Pp(J:KF)(fin:List DV->aI->DC->Prop):Prop:=∀(H0:Hp) (A0:Addr->Prop) (G:Addr->Prop) (al:List (List Addr)) (H:Hp) (st:aI) (Q:DC) (R:VK) (D:Addr) (cy:List (List Addr)) (H2:Hp) (bJ:aI) (vs:List V) (ys:List DV),DI J H0 A0 G al H st->H D=none->Kn J H0 A0 G al H st Q R->fin ys bJ Q->DI J H0 A0 (λc=>G c∨c=D) cy H2 bJ->Ext al H st cy H2 bJ->H2 D=some (.lst vs)->cu (gM J (Fb (λc=>G c∨c=D) cy bJ) H2 cy) vs ys->R (.ref D) H2
theorem Pq:Pp J Gg:=λH0 A0 G al H st Q R D cy H2 bJ vs ys I hD k q I2 E2 g P=>by
 obtain⟨ds,rfl,q⟩:=q
 have sub:∀c,Fb G cy bJ c->Fb (λc=>G c∨c=D) cy bJ c:=λc z=>by
  rcases z with z | z
  ·exact .inl (.inl z)
  ·exact .inr z
 have nD:¬ Fb G cy bJ D:=λz=>by
  rcases z with z | z
  ·exact I.C0 hD (.inl z)
  ·exact I2.gd D z.mem (.inr rfl)
 exact k (.dat (.list ds)) bJ cy _ H2 E2 (I2.less (λc z=>.inl z) I.lk) (.d (aJ.lst nD g ((cu.Sz P).imp λy x z=>aJ.sub z sub))) q
theorem gM.Tg{P:Addr->Prop}{H H':Hp}{al:List (List Addr)}{v:V}{dv:DV}(h:gM J P H al v dv)(s:aK H H'):gM J P H' al v dv:=by
 cases dv with
 | dat d=>exact aJ.same h s
 | ref k=>exact h
theorem Pr{fin:List DV->aI->DC->Prop}(hf:Pp J fin)
  {own:Nat} {ix:List Nat} {wi:TI} {g:TG} {di:yn} {dg:qj} {dt:DT} {de:DX} (hi:Wi J wi di) (hg:AG J g dg) (gb:GB own g):AE J (US own ix wi g (C4 J dt) (SX J de)) (Kt fin own ix di dg dt de):=λH0 A0 G al H st s env Q R I E q k=>by
 refine hi H0 A0 G al H st s env _ _ I E q λJj xs ok aF bu H1 e1 I1 ir q1=>?_
 intro D hD;obtain⟨hlen,Iv,i0,hok,istep,ifin⟩:=q1;have k1:=k.go I1 e1;have E1:=E.ext e1
 have gG:∀c,(G c∨c=D)->G c∨H1 c=none:=λc hc=>by
  rcases hc with z | z
  ·exact .inl z
  ·rw[z];exact .inr hD
 have n0:=I1.n0 hD;obtain⟨EB,IB⟩:=I1.FY (ys:=[]) hD;refine⟨λi m ys H2=>(m=xs.length - i/\i<=xs.length/\ys.length<=i)/\∃ds cy bJ,Iv i ds bJ/\H2 D=some (.lst ys)/\cu (gM J (Fb (λc=>G c∨c=D) cy bJ) H2 cy) ys ds/\DI J H0 A0 (λc=>G c∨c=D) cy H2 bJ/\Ext bu H1 aF cy H2 bJ,⟨_,⟨rfl,aaX _,aaX _⟩,[],bu,aF,i0,uS,.nil,IB,EB⟩,?_⟩;rintro i m ys H2 ⟨⟨em,hil,hyl⟩,ds,cy,sx,hI,gD,hP,I2,E2⟩;refine⟨gD,?_⟩;have IR:=ir (λc=>G c∨c=D) cy H2 sx i gG E2 I2 (hok _ _ _ hI);by_cases hx:i < xs.length
 ·right
  obtain⟨d0,M0⟩:∃d0,xs[i]?=some d0:=⟨xs[i],cW hx⟩;obtain⟨go,yl⟩:=IR.1 d0 M0;refine⟨go,aaT (aau hyl hil) (aaT hlen (by decide)),λys' H'=>∃m',m' < m/\(m'=xs.length - (i + 1)/\i + 1<=xs.length/\ys'.length<=i + 1)/\∃ds cy bJ,Iv (i + 1) ds bJ/\H' D=some (.lst ys')/\cu (gM J (Fb (λc=>G c∨c=D) cy bJ) H' cy) ys' ds/\DI J H0 A0 (λc=>G c∨c=D) cy H' bJ/\Ext bu H1 aF cy H' bJ,λys' H' ⟨m',lt,w⟩=>⟨m',lt,w⟩,λx H3 hy=>?_⟩;obtain⟨s3,r3⟩:=yl x H3 hy;have I3:=I2.same s3;have E3:Ext bu H1 aF cy H3 sx:=E2.trans I2 (.same s3);have P3:=hP.imp λy x z=>z.Tg s3
  have g3:=s3 _ _ gD;have V9:=(E1.je gG E3).mI own ix;refine gb x _ H3 _ _ ?_ (hg H0 A0 (λc=>G c∨c=D) cy H3 sx _ _ x d0 _ (λσ2 H4=>C4 J dt σ2 H4 λb H5=>if b=true then SX J de σ2 H5 λv H6=>H6 D=some (.lst ys)/\∃m',m' < m/\(m'=xs.length - (i + 1)/\i + 1<=xs.length/\(ys++[v]).length<=i + 1)/\∃ds cy bJ,Iv (i + 1) ds bJ/\upd H6 D (.lst (ys++[v])) D=some (.lst (ys++[v]))/\cu (gM J (Fb (λc=>G c∨c=D) cy bJ) (upd H6 D (.lst (ys++[v]))) cy) (ys++[v]) ds/\DI J H0 A0 (λc=>G c∨c=D) cy (upd H6 D (.lst (ys++[v]))) bJ/\Ext bu H1 aF cy (upd H6 D (.lst (ys++[v]))) bJ else ∃m',m' < m/\(m'=xs.length - (i + 1)/\i + 1<=xs.length/\ys.length<=i + 1)/\∃ds cy bJ,Iv (i + 1) ds bJ/\H5 D=some (.lst ys)/\cu (gM J (Fb (λc=>G c∨c=D) cy bJ) H5 cy) ys ds/\DI J H0 A0 (λc=>G c∨c=D) cy H5 bJ/\Ext bu H1 aF cy H5 bJ) I3 V9 r3 (istep i ds sx d0 hI M0) λgk bJ SY s2 H4 e4 I4 S0 q4=>?_)
  ·intro s2 H4 ed q4;refine⟨?_,q4⟩;rw[ed];unfold eR;rw[List.drop_left' (by simp)]
  ·refine⟨H0,A0,_,SY,bJ,gk,_,I4,S0,q4,λb kc S1 H5 e5 I5 q5=>?_⟩;have O8:=e4.trans I4 e5;have E5:=E3.trans I3 O8;have nL:∀(al':List (List Addr)) (H':Hp) (st':aI),DI J H0 A0 (λc=>G c∨c=D) al' H' st'->¬ Lv al' st' D:=λal' H' st' I' z=>I'.gd D z.mem (.inr rfl)
   have g5:=O8.keep D _ (nL _ _ _ I3) g3;have P5:=P3.imp λy x z=>gM.ext z O8
   cases b with
   | false =>
    rw[aak aai]at q5;exact eQ ⟨xs.length - (i + 1),by omega,⟨rfl,hx,by omega⟩,ds,S1,kc,q5,g5,P5,I5,E5⟩
   | true =>
    rw[aan rfl]at q5;refine fh ⟨H0,A0,_,S1,kc,gk,_,I5,S0.ext e5,q5,λy vS O9 v H6 e6 I6 d6 q6=>?_⟩;have E6:=E5.trans I5 e6;have g6:=e6.keep D _ (nL _ _ _ I5) g5;have P6:=P5.imp λy x z=>gM.ext z e6
    obtain⟨I8,U6⟩:=I6.grow (ys:=ys++[v]) g6 n0
    have rv':∀w dv,gM J (Fb (λc=>G c∨c=D) O9 vS) H6 O9 w dv->gM J (Fb (λc=>G c∨c=D) O9 vS) (upd H6 D (.lst (ys++[v]))) O9 w dv:=λw dv z=>by
     cases dv with
     | dat d=>exact U6 _ _ z
     | ref k=>exact z
    refine⟨g6,xs.length - (i + 1),by omega,⟨rfl,hx,by simp;omega⟩,ds++[y],O9,vS,q6,uS,?_,I8,E6.Yj hD⟩;exact(P6.imp λy x z=>rv' y x z).append (.cons (rv' _ _ d6) .nil)
 ·left
  have ei:i=xs.length:=by omega
  subst ei;exact⟨IR.2 (aag _) (aag _),hf H0 A0 G bu H1 aF Q R D cy H2 sx ys ds I1 hD k1 (ifin ds sx hI) I2 E2 gD hP⟩
theorem Pu{fin:List DV->aI->DC->Prop}(hf:Pp (kf X Y) fin)
  {elt iter:Expr} {ifs:List Expr} {g:TG} {di:yn} {dg:qj} {dt:DT} {de:DX} (own:Nat) (N:List Str) (ix:List Nat) (B:mP X own N ix scope) (hi:Tf X Y tg iter di)
  (hg:∀(C:Addr) (fp:List Addr) (s:Shared) (H:Hp),PG (X.mI N scope C fp s H) tg g) (ag:AG (kf X Y) g dg) (gb:GB own g)
  (hin:∀(C:Addr) (fp:List Addr) (s:Shared) (H:Hp),Ru (X.mI N scope C fp s H) Y ifs dt/\bw (X.mI N scope C fp s H) Y elt de)
  (hs:∀x,foldedSetIterable iter X.env x=pure x:=by intro _;rfl):bw X Y (.ListComp elt [⟨tg,iter,ifs,0⟩] scope pos) (Kt fin own ix di dg dt de):=by
 obtain⟨wi,p1,a1⟩:=hi.h;exact⟨_,EK own N ix B p1 (λC fp s H=>⟨hg C fp s H,(hin C fp s H).1.h,(hin C fp s H).2.pe⟩) hs,Pr hf a1 ag gb⟩
end
abbrev Wj(h:Heap)(z TI TO:Addr)(f0:Value)(b:Bool):Prop :=
 h.get? z=some {cls:=.type "zip",dict:=none,data:=.fields #[f0,.bool b,.bool false,.ref TI,.ref TO],slots:=#[]}
section
variable {prog:Program} {w:World} {A:Around} {E:Value->Shared->Prop} {s:Shared}
end
namespace FD
theorem kg:entryFor table "dict.update.loop"=some Builtin.«dict.update.loop»:=entryFor_of_tree (by kernel_rfl)
theorem fV:plainId "dict.update.loop"=true:=by decide +kernel
end FD
structure ZAt(d z TI TO i1 i2 l1 l2:Addr)(xs ys:Array Value)(i:Nat)(h:Heap):Prop where
 zip:(IsZip h z TI TO .none/\∃a b,IsPair h TO a b)∨∃(T:Addr) (bb:Bool) (oT:Obj),Wj h z TI TO (rawInt T) bb/\h.get? T=some oT/\T≠z/\T≠i1/\T≠i2/\T≠d
 ti:IsPair h TI (.ref i1) (.ref i2)
 i1:h.IsListIter i1 l1 i
 i2:h.IsListIter i2 l2 i
 l1:h.IsList l1 xs
 l2:h.IsList l2 ys
section
variable {prog:Program} {w:World} {K:Type} [DecidableEq K] {knd:KeyKind prog w K} {A:Around} {E:Value->Shared->Prop} {s:Shared} {R:Result->Shared->Prop}
variable {d z TI TO i1 i2 l1 l2:Addr} {xs ys:Array Value}
end
namespace FD
end FD
set_option maxHeartbeats 4000000 in
set_option maxHeartbeats 4000000 in
section
variable {prog:Program} {w:World} {K:Type} [DecidableEq K] {knd:KeyKind prog w K} {A:Around} {E:Value->Shared->Prop} {s:Shared} {z TI TO i1 i2 l1 l2:Addr} {xs ys:Array Value}
end
section
variable {X:Cx} {a b:Expr} {ta:TA} {p p2 pos zpos:Pos}
end
section
variable {X:Cx} {CW:Addr} {cx n:Str} {i:Nat} {b₀:Stmt} {suite orelse:List Stmt} {np hpos pos:Pos} {tb te:TS}
end
section
variable {X:Cx} {Y:YK} {CW:Addr} {cx n x:Str} {i:Nat} {b₀:Stmt} {suite orelse:List Stmt} {np hpos pos:Pos} {s se:DS} {nn:Nat} {d:kI} {e:Expr} {es:List Expr}
theorem yo{u:Addr}{E:Value->Shared->Prop}{a:Expr}{ea:DX}{p p2:Pos}{T:Str}{D:Addr}(hg:Gl X "isinstance")(hm:X.mg "isinstance"=none)(Ki:Gl X T)(Kj:X.mg T=some (.ref D))(ha:bw (X.hand u E) Y a ea)(hd:(T == ("__debug__" : Str))=false:=by decide)
  (h1:starEach [a,.Name T p2] X.env=(false,eval a X.env)::starEach [.Name T p2] X.env:=by rfl):bw (X.hand u E) Y (.Call (.Name "isinstance" p) [a,.Name T p2] [] pos) (C9 X.K (.ref D) ea):=Ko (X:=X.hand u E) hg hm Ki Kj ha hd h1
theorem Gh{u:Addr}{E:Value->Shared->Prop}{a:Expr}{ea:DX}{p p2:Pos}{T:Str}{m:String}(hg:Gl X "isinstance")(hm:X.mg "isinstance"=none)(Ki:Gl X T)(Kj:X.mg T=none)(hb:bootBuiltins T=some (.type m))(ha:bw (X.hand u E) Y a ea)(hn:T≠"__name__":=by decide)(hd:(T == ("__debug__" : Str))=false:=by decide)
  (h1:starEach [a,.Name T p2] X.env=(false,eval a X.env)::starEach [.Name T p2] X.env:=by rfl):bw (X.hand u E) Y (.Call (.Name "isinstance" p) [a,.Name T p2] [] pos) (C9 X.K (.type m) ea):=Kp (X:=X.hand u E) hg hm Ki Kj hb ha hn hd h1
end
section
variable {X:Cx} {Y:YK} {x:Str} {e:Expr} {es:List Expr} {p pos:Pos} {n:Nat} {d:kI}
theorem BY{body:List Stmt}{t:TS}{DD:cX}{env:bQ}{st:aI}(h:qD X body t)(q:∀(H0:Hp) (A0 G:Addr->Prop) (al:List (List Addr)) (H:Hp) (σ:St) (D:Ends),DI (kf X Y) H0 A0 G al H st->kG X.K (Fb G al st) H al σ env->sr (kf X Y) H0 A0 G al H st DD D->t D σ H):kN X Y body DD env st :=
 ⟨λDD env st=>∀(H0:Hp) (A0 G:Addr->Prop) (al:List (List Addr)) (H:Hp) (σ:St) (D:Ends),DI (kf X Y) H0 A0 G al H st->kG X.K (Fb G al st) H al σ env->sr (kf X Y) H0 A0 G al H st DD D->t D σ H,⟨t,h,λH0 A0 G al H st σ env DD D I E q k=>q H0 A0 G al H σ D I E k⟩,q⟩
end
namespace FP
theorem kg:entryFor table "dict.update.loop"=some Builtin.«dict.update.loop»:=entryFor_of_tree (by kernel_rfl)
theorem fV:plainId "dict.update.loop"=true:=by decide +kernel
theorem wo:typeLookup (.type "list") "keys"=pure none:=by rw[typeLookup_type,builtinLookup_eq_fast];kernel_rfl
end FP
set_option maxHeartbeats 4000000 in
theorem De{prog:Program}{w:World}{A:Around}{E:Value->Shared->Prop}{s:Shared}{a:Addr}{o:Obj}{xs:Array Value}{n:Nat}{Q:Option Value->Shared->Prop}(hx:s.heap.get? a=some o)(hc:o.cls=.type "list")(hd:o.dict=none)(hdat:o.data=.seq xs n)(hA:A.handled=none)
  (h:∀h' tk,(∀b ob,s.heap.get? b=some ob->h'.get? b=some ob)->Q none {s with heap:=h',toks:=tk}):wpAny (model prog w) A (getAttr? (.ref a) "keys") Q E s:=by
 obtain⟨c,dct,dat,sl⟩:=o;simp only at hc hdat hd;subst hc hdat hd;obtain⟨hp,g,d,tk,os⟩:=s;have hT:∀tk',(⟨hp,g,d,tk',os⟩:Shared).TypeIs (.ref a) "list":=λ_=>⟨_,hx,rfl⟩
 have f1:=sub_AttributeError;have f3:=F.slot_list_getattribute.lookup;have f4:=F.slot_list_getattribute.bind (.ref a);have f5:=am_list_getattr_none;unfold getAttr? getAttrBy? getAttrBy
 repeat (any_goals (first | assumption | exact hT _ | ((with_reducible show wpAny _ _ (call (Value.builtin "list.__getattribute__") _ _) _ _ _);refine abc F.slot_list_getattribute (hT _) am_entry_list_getattribute (F.args_list_getattribute_2 _ _) (meets_getattribute_miss_list a xs n sl "keys" _ FP.wo (by decide +kernel) (by size_fits)) ⟨hx,hA,λh' tk' e hx'=>?_⟩) | wp_step))
 obtain⟨t',u',he⟩:=hx'.there;have kp:=hx'.keeps;show wpAny _ _ (getattributeRaised _ _ _ _ _ _ _) _ _ _;unfold getattributeRaised
 repeat (any_goals (first | assumption | wp_step))
 exact h _ _ kp
section
variable {prog:Program} {w:World} {K:Type} [DecidableEq K] {knd:KeyKind prog w K} {A:Around} {E:Value->Shared->Prop} {R:Result->Shared->Prop} {d it l:Addr} {xs:Array Value}
variable {s:Shared}
end
section
variable {X:Cx} {a:Expr} {ta:TA} {p pos:Pos}
end
section
variable {X:Cx} {Y:YK} {e:Expr} {pos p:Pos} {J:KF} {n:Nat} {d:kI}
end
@[reducible] def Pw(_:cX)(_:bQ)(_:aI):Prop:=False
theorem ji{X:Cx}{Y:YK}{stm:Stmt}:BQ X Y stm Pw:=⟨_,fG,λ_ _ _ _ _ _ _ _ _ _ _ _ q _=>q.elim⟩
theorem zV{X:Cx}{Y:YK}{pos:Pos}{u:Addr}{E:Value->Shared->Prop}{a:Expr}{ea:DX}{f:Str}(ha:bw (X.hand u E) Y a ea)(hb:attributeBase a f X.env (eval a X.env)=eval a X.env:=by rfl):bw (X.hand u E) Y (.Attribute a f pos) (U7 X.K f ea):=Ta (X:=X.hand u E) ha hb
section
variable {X:Cx} {Y:YK} {e:Expr} {es:List Expr} {n:Nat} {d:kI}
@[reducible] def zW(eo:DX)(dx:kI)(env:bQ)(st:aI)(Q:DC):Prop:=eo env st λo aF=>match o with
 | .dat (.str x)=>dx env aF λxs bJ=>match xs with
  | [.dat (.str y)]=>((y.length == 0)=false/\x.length<=sizeLine/\(Builtin.Str.partsBetween x (Builtin.Str.occurrences x y 0 x.length (x.length + 1)) y.length).length<=sizeLine/\(Txt.split x y).length<=sizeLine)/\Q (.dat (.list ((Txt.split x y).map PyData.str))) bJ
  | _=>False
 | _=>False
theorem Gi{K:aC}{P:Addr->Prop}{H:Hp}{ns:List Str}:cu (aJ K P H) (ns.map V.str) (ns.map PyData.str):=⟨by simp,λi y x hy hx=>by
 rw[aaq]at hy hx
 cases q:ns[i]? with
 | none=>rw[q]at hy;cases hy
 | some n=>rw[q]at hy hx;cases hy;cases hx;exact .str _⟩
theorem yp{apos cpos:Pos}{o:Expr}{eo:DX}(ho:bw X Y o eo)(ha:qG X Y (e::es) n d)(hbase:attributeBase o "split" X.env (eval o X.env)=eval o X.env:=by rfl)
  (hfew:((backTo cpos (starEach (e::es) X.env)).all (λx=>!x.1)&&(backToKw cpos (keywordEach [] X.env)).all (λx=>x.1.isSome)
   && decide ((e::es).length + ([]:List Keyword).length + (if ([]:List Keyword).isEmpty then 0 else 1) < 30))=true:=by rfl)
  (hline:(apos.endLine == cpos.line)=true:=by rfl) (hs:starEach (e::es) X.env=(false,eval e X.env)::starEach es X.env:=by rfl) (hplain:(backTo cpos (starEach es X.env)).any (·.1)=false:=by rfl) :
  bw X Y (.Call (.Attribute o "split" apos) (e::es) [] cpos) (zW eo d):=by
 obtain⟨t,p1,a1⟩:=ho.h;obtain⟨u,p2,a2⟩:=ha.h;refine⟨_,Bo PySem.F.plainAttrs_str abm PySem.F.type_str_split Fc p1 p2 hbase hfew hline hs hplain,λH0 A0 G al H st s env Q R I E q k=>a1 H0 A0 G al H st s env _ _ I E q λx aF bu v H1 e1 I1 d1 q1=>?_⟩;split at q1
 ·rw[aJ.c8 d1];refine⟨rfl,a2 H0 A0 G bu H1 aF s env _ _ I1 (E.ext e1) q1 λxs bJ cy vs H2 e2 I2 d2 q2=>?_⟩;have q2:=q2.2;have pB:=e1.trans I1 e2;split at q2
  ·obtain⟨w,rfl,hw⟩:=qH d2;rw[aJ.c8 hw];obtain⟨⟨b1,b2,b3,b4⟩,q3⟩:=q2;exact⟨_,_,rfl,rfl,b1,b2,b3,b4,λp hp=>(k.go I2 pB).list I2 hp Gi q3⟩
  ·exact q2.elim
 ·exact q1.elim
end
theorem yq(l:Addr)(n:Nat)(u:Tok)(d:Option Addr)(sl:Array (Option Value)):
  Meets (Builtin.«tuple.__mul__» ⟨[.ref l,.int 2 u],[]⟩) (λ_ R s=>s.heap.get? l=some {cls:=.type "tuple",dict:=d,data:=.seq #[] n,slots:=sl}/\R (.ok (.ret (.ref l))) s) :=
 .of_wp λprog w A R s h=>by obtain⟨hp,g,dd,tk,os⟩:=s;obtain⟨hl,h⟩:=h;wp_walk;exact⟨_,rfl,h⟩
def M8(K:aC):R2:=λx y H Q=>∃a,x=.ref a/\y=.int 2/\bz K H a []/\Q (.ref a) H
theorem Ku{X:Cx}:i7 X (binaryOp .Mult) (M8 X.K):=by
 intro pins s σ H x y v u Q I rx ry h;obtain⟨a,rfl,rfl,ha,q⟩:=h;cases rx;obtain⟨t,rfl⟩:=ry;obtain⟨its,r1,p1,hsz⟩:=I.tuple ha;cases r1;obtain⟨⟨c1,d1,e1,Bs⟩,ho,hc,n,hd⟩:=id p1;simp only at hc hd;subst hc hd
 have go:wpAny (model X.prog X.w) X.A (call (.builtin "tuple.__mul__") [.ref a,.int 2 t]) (EP X pins σ Q) X.xe s :=
  abc acp ⟨_,ho,rfl⟩ F.entry_tuple_mul (F.args_tuple_mul_2 _ _) (yq a n t d1 Bs) ⟨ho,.ref a,H,I,rfl,q⟩
 exact abB (T:="tuple") (U:="int") (by decide) ⟨_,ho,rfl⟩ (λs'=>abH s' 2 t) jc acz abk nV acq.lookup
  (abc abk (abH s 2 t) acr (acd _ _) (nW 2 t a #[] n d1 Bs) ⟨ho,rfl,⟨_,ho,rfl⟩,go⟩)
@[reducible] def Gj(x y:DV)(st:aI)(Q:DC):Prop:=match y with
 | .dat (.int k)=>match x with
  | .dat (.tuple i)=>(i=[]/\k=2/\Q (.dat (.tuple [])) st)∨(i≠[]/\i.length * k.toNat<=1000000/\k < 9223372036854775808/\-9223372036854775808<=k/\Q (.dat (.tuple (List.replicate k.toNat i).flatten)) st)
  | _=>False
 | _=>False
theorem Kv{J:KF}:AO J (λx y H Q=>M8 J x y H Q∨Fd J x y H Q) Gj:=λH0 A0 G al H st x y dx dy Q R I h1 h2 q k=>by
 unfold Gj at q;split at q
 ·rename_i j;split at q
  ·obtain⟨a,ys,rfl,g1,_,g2⟩:=aJ.bq h1;rw[aJ.aU h2];rcases q with⟨rfl,rfl,q⟩ | q
   ·have e:ys=[]:=aa8.mp g2.len;subst e;exact .inl ⟨a,rfl,rfl,g1,k.here I (.d h1) q⟩
   ·refine .inr ⟨a,ys,j,rfl,rfl,g1,λz=>q.1 ?_,q.2.2.2.1,q.2.2.1,by rw[g2.len];exact jD q.2.1,λp H' s hp=>k.laid I s (.d ?_) q.2.2.2.2⟩
    ·have:=g2.len;rw[z]at this;exact aa8.mp this.symm
    ·have g:=(g2.rep j.toNat).imp λy x z=>z.same s
     exact aO.tup ((I.same s).Fq hp) g.1 g.2
  ·exact q.elim
 ·exact q.elim
theorem Kw{X:Cx}{Y:YK}{a b:Expr}{ea eb:DX}{pos:Pos}(ha:bw X Y a ea)(hb:bw X Y b eb):bw X Y (.BinOp a .Mult b pos) (nZ Gj ea eb):=kJ (kK Ku rl) Kv ha hb
section
variable {X:Cx} {Y:YK} {a e:Expr} {ea:DX}
inductive Yn(x:V)(H:Hp)(Q:Bool->Hp->Prop):Prop where
 | mk (i:Int) (e:x=.int i) (q:Q (decide (i≠0)) H):Yn x H Q
def Yo(t:TE):TT:=λσ H Q=>t σ H λx H1=>Yn x H1 Q
theorem Kx{t:TE}(h:PE X e t)(he:∀whole,isTrue e X.env whole=(do let v ← whole;standAt e.pos;holding [v] (truthy v)):=by intro _;rfl):PT X e (Yo t):=by
 intro pins s σ H Q I hw;refine isTrue_plain (cU (h pins s σ H _ I hw) λv s1 ⟨x,H1,I1,r1,q1⟩=>?_) (he _);obtain⟨d,rfl,q⟩:=q1;obtain⟨u,rfl⟩:=r1;refine PyProof.Rows.truthy_int ?_;rw[show(d != 0)=decide (d≠0)by by_cases h:d=0<;>simp[h]]
 exact⟨H1,I1,q⟩
@[reducible] def Ky(ea:DX)(env:bQ)(st:aI)(Q:Bool->aI->Prop):Prop:=ea env st λx aF=>match x with
 | .dat (.int i)=>Q (decide (i≠0)) aF
 | _=>False
theorem Kz{J:KF}{t:TE}{e:DX}(h:AE J t e):AT J (Yo t) (Ky e):=λH0 A0 G al H st s env Q R I E q k=>h H0 A0 G al H st s env _ _ I E q λx aF bu v H1 e1 I1 d1 q1=>by
 split at q1
 ·rw[aJ.aU d1];exact⟨_,rfl,k _ _ _ _ e1 I1 q1⟩
 ·exact q1.elim
theorem BZ(ha:bw X Y a ea)(he:∀whole,isTrue a X.env whole=(do let v ← whole;standAt a.pos;holding [v] (truthy v)):=by intro _;rfl):tP X Y a (Ky ea):=by
 obtain⟨ta,p1,a1⟩:=ha.h;exact⟨_,Kx p1 he,Kz a1⟩
end
def KA:Option Obj->Bool
 | some ⟨.type t,none,.seq its n,sl⟩=>t == "tuple"&&n == 0&&sl.size == 0&&decide (its.size<=sizeLine)
 | _=>false
def pO:Option Obj->List Value
 | some ⟨_,_,.seq its _,_⟩=>its.toList
 | _=>[]
def II(K:aC):Nat->Value->PyData->Bool
 | n + 1,.ref r,.tuple ds=>KA (K.lookup r)&&((pO (K.lookup r)).length == ds.length&&((pO (K.lookup r)).zip ds).all λx=>II K n x.1 x.2)
 | _,.str x _,.str y=>decide (x=y)
 | _,.int i _,.int j=>decide (i=j)
 | _,.none,.none=>true
 | _,.bool a,.bool b=>a == b
 | _,_,_=>false
theorem B0{o:Option Obj}(h:KA o=true):o=some {cls:=.type "tuple",data:=.seq (pO o).toArray 0}/\(pO o).length<=sizeLine:=by
 unfold KA at h;split at h
 ·rename_i t its n sl;simp only[Bool.and_eq_true,beq_iff_eq,decide_eq_true_eq]at h;obtain⟨⟨⟨rfl,rfl⟩,h3⟩,h4⟩:=h;have:sl=#[]:=Array.size_eq_zero_iff.mp h3;subst this;exact⟨by simp[pO],by simpa [pO]using h4⟩
 ·cases h
theorem m4{α β:Type}{F:α->β->Prop}{p:α×β->Bool}(f:∀a b,p (a,b)=true->F a b):∀{xs:List α} {ys:List β},xs.length=ys.length->(xs.zip ys).all p=true->Paired F xs ys
 | [],[],_,_=>.nil
 | [],_::_,h,_=>nomatch h
 | _::_,[],h,_=>nomatch h
 | x::xs,y::ys,h,q=>by
  rw[List.zip_cons_cons,acN,aa2]at q;exact .cons (f x y q.1) (m4 f (abt h) q.2)
theorem sv{K:aC}:∀(n:Nat) (v:Value) (d:PyData),II K n v d=true->∃u,RelV u v/\∀H:Hp,aO K H u d:=by
 intro n
 induction n with
 | zero =>
  intro v d h;unfold II at h;split at h
  ·contradiction
  ·cases aaH h;exact Bt
  ·cases aaH h;exact Bu
  ·exact⟨.non,rfl,λ_=>.non⟩
  ·cases eq_of_beq h;exact⟨.bl _,rfl,λ_=>.bl _⟩
  ·cases h
 | succ n ih =>
  intro v d h;unfold II at h;split at h
  ·rename_i m r ds e;cases e;rw[aa2,aa2,acM]at h;obtain⟨lk,hz⟩:=B0 h.1;exact JA lk hz (m4 (λa b=>ih a b) h.2.1 h.2.2)
  ·cases aaH h;exact Bt
  ·cases aaH h;exact Bu
  ·exact⟨.non,rfl,λ_=>.non⟩
  ·cases eq_of_beq h;exact⟨.bl _,rfl,λ_=>.bl _⟩
  ·cases h
theorem rA{K:aC}{n:Nat}{r:Addr}{ds:List PyData}(h:II K (n + 1) (.ref r) (.tuple ds)=true):∃o,K.lookup r=some o/\o.cls=.type "tuple"/\o.dict=none:=by
 have h:(KA (K.lookup r)&&_)=true:=h;exact⟨_,(B0 (Bool.and_eq_true_iff.mp h).1).1,rfl,rfl⟩
def Wk(e:DictEntry):Str×Tok×Value:=match e.key with
 | .str x t=>(x,t,e.val)
 | _=>(Str.empty,0,e.val)
def vb:Option Obj->List (Str×Tok×Value)
 | some ⟨_,_,.dict es _,_⟩=>es.toList.map Wk
 | _=>[]
def Wl:Option Obj->Nat
 | some ⟨_,_,.dict _ n,_⟩=>n
 | _=>0
def B1(K:aC)(es:List (Str×Tok×Value))(kds:List (Str×PyData)):Bool:=es.length == kds.length&&(es.zip kds).all λx=>decide (x.1.1=x.2.1)&&II K 9 x.1.2.2 x.2.2
theorem sy{α β γ:Type}{F:γ×α->γ×β->Prop}(f:∀a b,F a b->a.1=b.1):∀{xs:List (γ×α)} {ys:List (γ×β)},Paired F xs ys->xs.map (·.1)=ys.map (·.1)
 | _,_,.nil=>rfl
 | _,_,.cons h r=>by rw[aa7,aa7,f _ _ h,sy f r]
theorem yr{K:aC}{w:World}{d:Addr}{kds:List (Str×PyData)}(hd:(d == sysModules)=false)(lk:K.lookup d=some {cls:=.type "dict",data:=.dict ((vb (K.lookup d)).map (EN w)).toArray (Wl (K.lookup d))})(h:B1 K (vb (K.lookup d)) kds=true)(nd:(kds.map (·.1)).Nodup):Jz K w d kds:=by
 unfold B1 at h;rw[Bool.and_eq_true,beq_iff_eq]at h
 have P:=m4 (F:=λ(e:Str×Tok×Value) (kd:Str×PyData)=>e.1=kd.1/\∃v,RelV v e.2.2/\∀H:Hp,aO K H v kd.2) (λa b q=>by
  rw[aa2]at q;exact⟨aaH q.1,sv _ _ _ q.2⟩) h.1 h.2
 exact OA hd lk (by rw[sy (λa b q=>q.1) P];exact nd) P
def cv(K:aC)(n:Str)(s:Stmt):Prop:=∃f fd,PySem.W.nsIn K mainGlobals n=some (some (.ref f))/\fe K n n s f fd
structure Zk(P:Program)(w:World)(K:aC)(h:Heap)(mg:Str->Option Value)(base:Heap):Prop where
 X:K.In h
 G:h.Ns mainGlobals mg
theorem aR{P:Program}{w:World}{K:aC}{h:Heap}{mg:Str->Option Value}{base:Heap}(z:Zk P w K h mg base){CX:zD}{x:Str}{st:Stmt}{k:Nat}{ps:List Str}{sp:Sp}(d:cv K x st)(ok:∀{f:Addr} {fd:FuncData},fe K x x st f fd->bK P w K mg base CX k f fd ps sp)
  (b:∀(kV doc pm:Value) (an:Option Addr) (cdv ct:Value) (us:List Value),us.length=ps.length->bindArgs (PySem.W.fnOf x x (dA st) (dB st) (dS st) .none kV doc pm an cdv ct) ⟨us,[]⟩=pure (ps.zip us)):dw P w K mg base CX x k ps sp:=by
 obtain⟨f,fd,a,F⟩:=d;exact⟨_,_,ok F,F.binds b,F.kp,aaY z.X z.G a⟩
section
variable {prog:Program} {w:World} {K:Type} [DecidableEq K] {knd:KeyKind prog w K} {A:Around} {E:Value->Shared->Prop} {l:Addr} {s:Shared}
theorem tY{o:Obj}{n:Nat}{Q:Value->Shared->Prop}(hh:A.handled=none)(hx:s.heap.get? l=some o)(hc:o.cls=.type "list")(hdn:o.dict=none)(hdat:o.data=.seq #[] n)
  (h:∀h' tk,h'.DictOf knd s.heap.objs.size []->(∀c o,s.heap.get? c=some o->h'.get? c=some o)->Q (.ref s.heap.objs.size) {s with heap:=h',toks:=tk}) :
  wpAny (model prog w) A (call (.type "dict") [.ref l]) Q E s:=by
 refine callType_codes (Q₁:=λobj s₁=>obj=.ref s.heap.objs.size/\s₁={s with heap:=s.heap.push {cls:=.type "dict",data:=.dict #[]}}) F.kt_called_dict (F.kt_typeCall_dict_1 _) F.entry_dict_init (kt_code_dict_new _ ⟨rfl,rfl⟩) ?_;rintro obj s₁ ⟨rfl,rfl⟩;have up:∀c o,s.heap.get? c=some o->(s.heap.push {cls:=.type "dict",data:=.dict #[]}).get? c=some o:=λc o e=>aaa _ e
 have hnew:(s.heap.push {cls:=.type "dict",data:=.dict #[]}).DictOf knd s.heap.objs.size []:=Heap.DictOf.new s.heap;refine⟨hnew.typeIs,F.args_dict_init_2 _ _,?_⟩;unfold Builtin.«dict.__init__»;refine wpAny_bind ?_;unfold Builtin.Dict.selfAndRest;refine wpAny_bind (wpAny_notOrdered_dict hnew.typeIs ?_);show wpAny _ _ (pure (s.heap.objs.size,[Value.ref l])) _ _ _;refine wpAny_pure ?_;show wpAny _ _ (Builtin.Dict.updateFrom "dict.__init__" s.heap.objs.size (.ref l) [] .none) _ _ _;unfold Builtin.Dict.updateFrom;refine wpAny_bind (wpAny_typeOf (T:="list") ⟨_,up _ _ hx,hc⟩ ?_);rw[if_pos (by decide)];refine wpAny_bind (De (up _ _ hx) hc hdn hdat (by simp[hh]) λh1' tk1 k1=>?_);show wpAny _ _ (rule _ >>= _) _ _ _;refine wpAny_bind (wpAny_rule ?_);have ET:h1'.IsList l #[]:=⟨o,k1 _ _ (up _ _ hx),hc,n,hdat⟩;obtain⟨od,es,ep,ho,rest⟩:=hnew;have Yp:s.heap.objs.size < h1'.objs.size:=Heap.lt_size (k1 _ _ ho);refine wpAny_bind (wpAny_pyIter_list ET ?_);refine wpAny_pure ⟨plainId_quiet FP.fV _,?_⟩;have Yq:∀c o,h1'.get? c=some o->(h1'.push {cls:=.type "list_iterator",data:=.fields #[.ref l,.int 0 0]}).get? c=some o:=λc o e=>Heap.get?_push_of_some _ e
 refine codeAny_builtin FP.kg ?_;rw[Around.under_plainId FP.fV _];show wpAny _ A.in1.in1 (pyNext (.ref h1'.objs.size) >>= _) _ _ _;refine wpAny_bind (wpAny_pyNext_list_end (by simp[hh]) ⟨_,Heap.get?_push_size _ rfl,rfl,rfl⟩ (ET.at λo e=>Yq _ o e) rfl λh' k=>?_);have kk:∀c o,c≠h1'.objs.size->h1'.get? c=some o->h'.get? c=some o:=λc o ne e=>k _ _ ne (Yq _ _ e)
 show wpAny _ A.in1.in1 (Builtin.Dict.addKeywords s.heap.objs.size [] >>= λ_=>ret Value.none) _ _ _;refine aae (aar (aar ⟨rfl,h h' _ ⟨od,es,ep,kk _ _ (aam Yp) (k1 _ _ ho),rest⟩ λc o e=>kk c o (aam (Nat.lt_trans (aah e) Yp)) (k1 _ _ (up _ _ e))⟩))
end
section
variable {X:Cx} {a:Expr} {ta:TA} {p pos:Pos}
def Px(K:aC)(ta:TA):TE:=λσ H Q=>ta σ H λvs H1=>∃l:Addr,vs=[.ref l]/\cG K H1 l []/\∀d,H1 d=none->Q (.ref d) (upd H1 d (.dK []))
theorem Gk(hgd:Gl X "dict")(hmd:X.mg "dict"=none)(hc:X.calm=true)(ha:PA X [a] ta)(hs:starEach [a] X.env=[(false,eval a X.env)]:=by rfl):
  PE X (.Call (.Name "dict" p) [a] [] pos) (Px X.K ta):=by
 intro pins s σ H Q I h;refine Call_ (ju I hgd hmd Jt (aaK (cU (ha pos pins s σ H _ I h) λus s1 ⟨vs,H1,I1,r1,q1⟩=>?_) hs rfl));obtain⟨l,rfl,hS,q⟩:=q1;obtain⟨u1,rfl,JC⟩:=vals1 r1;cases JC;obtain⟨VS,rx,⟨o,n,e,c,hdn,hdat⟩,_⟩:=I1.list hS;cases rx;refine tY (knd:=eN X.prog X.w) (show X.A.handled=none from I1.ok.hd hc) e c hdn hdat λh' tk hD kp=>?_
 have hb:sysModules < s1.heap.objs.size:=Nat.lt_trans (by decide) (I1.mod.glob.keeps I1.bk).lt;exact⟨.ref s1.heap.objs.size,_,I1.laid (t':=tk) kp (aag _) (show dU X.prog X.w (upd H1 s1.heap.objs.size (.dK [])) h' s1.heap.objs.size (.dK [])from ⟨by decide,beq_false_of_ne (aaZ hb),[],.nil,hD⟩),rfl,q _ (I1.hok.fresh (aag _))⟩
end
end L2
local macro_rules | `(tactic| walk_at "cond")=>`(tactic| first | rfl | decide | omega | (show (0:Int) < _; decide) | (show (0:Int) < _; omega) | exact ⟨by decide,by decide⟩ | exact ⟨by omega,by omega⟩ | exact Or.inl ⟨by decide,by decide⟩ | exact Or.inr ⟨by decide,by decide⟩ | exact Or.inl ⟨by omega,by omega⟩ | exact Or.inr ⟨by omega,by omega⟩ | assumption)
local macro_rules | `(tactic| walk_at "rd1")=>`(tactic| first
 | refine⟨_,rfl,?_⟩
 | refine⟨_,_,rfl,rfl,?_⟩
 | (refine And.intro ?_ ?_;walk_at "cond"))
local macro_rules | `(tactic| walk_at "vc")=>`(tactic| try dsimp only [L2.BR,L2.F5,L2.F6,L2.Pb,L2.Wc,L2.C6,L2.Fs,L2.eC,L2.nZ,L2.oI,L2.IG,L2.Fu,L2.OS,L2.v5,L2.BG,L2.tX,L2.mQ,L2.ip,L2.uV,L2.SM,L2.Pf,L2.oa,L2.Rr,L2.Fy,L2.Fz,L2.V3,L2.Eb,L2.Ky,L2.BJ,L2.J1,L2.FC,L2.FG,L2.FH,L2.BL,L2.FJ,L2.yd,L2.rZ,L2.FL,L2.FN,L2.FO,L2.FQ,L2.Gf,L2.Ks,L2.Kt,L2.Gg,L2.BM,L2.BX,L2.Ge,L2.U7,L2.C9,List.zip_cons_cons,List.zip_nil_left,List.zip_nil_right,L2.sub,L2.Wh,List.take_succ_cons,List.take_zero,L2.mL,L2.eM,L2.JT,L2.BC,L2.JV,L2.JW,L2.BD,L2.J9,L2.we,L2.wg,L2.FU,L2.zS,L2.FT,L2.gN,L2.uY,L2.sj,L2.gT,L2.gS,L2.Rv,L2.wk,L2.Wb,L2.C5,L2.Pc,L2.Ke,L2.O7,L2.Pd,L2.S8,L2.Kh,L2.BU,L2.yi,L2.FW,id_eq,List.map_cons,List.map_nil,List.replicate,List.getElem?_cons_zero,List.getElem?_cons_succ,List.set_cons_zero,List.set_cons_succ,List.nil_append,List.cons_append,List.length_cons,List.length_nil,Nat.zero_add,Nat.reduceAdd,Option.getD_some,Option.getD_none,List.getElem?_nil])
local macro_rules | `(tactic| walk_at "vs")=>`(tactic| try dsimp only [L2.BR,L2.F6,L2.Pb,L2.Wc,L2.C6,L2.Fs,L2.eC,L2.nZ,L2.oI,L2.IG,L2.Fu,L2.OS,L2.v5,L2.BG,L2.tX,L2.mQ,L2.ip,L2.uV,L2.SM,L2.Pf,L2.oa,L2.Rr,L2.Fy,L2.Fz,L2.V3,L2.Eb,L2.Ky,L2.BJ,L2.J1,L2.FC,L2.FG,L2.FH,L2.BL,L2.FJ,L2.yd,L2.rZ,L2.FL,L2.FN,L2.FO,L2.FQ,L2.Gf,L2.Ks,L2.Kt,L2.Gg,L2.BM,L2.BX,L2.Ge,L2.U7,L2.C9,List.zip_cons_cons,List.zip_nil_left,List.zip_nil_right,L2.sub,L2.Wh,List.take_succ_cons,List.take_zero,L2.mL,L2.eM,L2.JT,L2.BC,L2.JV,L2.JW,L2.BD,L2.J9,L2.we,L2.wg,L2.FU,L2.zS,L2.FT,L2.gN,L2.uY,L2.sj,L2.gT,L2.gS,L2.Rv,L2.wk,L2.Wb,L2.C5,L2.Pc,L2.Ke,L2.O7,L2.Pd,L2.S8,L2.Kh,L2.BU,L2.yi,L2.FW,id_eq,List.map_cons,List.map_nil,List.replicate,List.getElem?_cons_zero,List.getElem?_cons_succ,List.set_cons_zero,List.set_cons_succ,List.nil_append,List.cons_append,List.length_cons,List.length_nil,Nat.zero_add,Nat.reduceAdd,Option.getD_some,Option.getD_none,List.getElem?_nil])
local macro_rules | `(tactic| walk_at "rd")=>`(tactic| repeat walk_at "rd1")
set_option maxHeartbeats 4000000
local macro_rules | `(tactic| walk_at "sc")=>`(tactic| exact ⟨rfl,rfl,rfl,by decide +kernel,rfl,by decide +kernel,by decide +kernel⟩)
namespace Mine
open PySem L2
theorem Z5{α:Type}{P:List α->Prop}(h:P []):∀us:List α,us.length=0->P us:=λus hl=>by
 cases us with
 | nil=>exact h
 | cons a r=>exact absurd hl (aa3 _)
theorem IJ{α:Type}{P:List α->Prop}(h:∀a0:α,P [a0]):∀us:List α,us.length=1->P us:=λus hl=>by
 cases us with
 | nil=>exact absurd hl.symm (aa3 _)
 | cons a r=>exact Z5 (P:=λr=>P (a::r)) (h a) r (abt hl)
theorem ln2{α:Type}{P:List α->Prop}(h:∀a0 a1:α,P [a0,a1]):∀us:List α,us.length=2->P us:=λus hl=>by
 cases us with
 | nil=>exact absurd hl.symm (aa3 _)
 | cons a r=>exact IJ (P:=λr=>P (a::r)) (λa1=>h a a1) r (abt hl)
theorem zX{α:Type}{P:List α->Prop}(h:∀a0 a1 a2:α,P [a0,a1,a2]):∀us:List α,us.length=3->P us:=λus hl=>by
 cases us with
 | nil=>exact absurd hl.symm (aa3 _)
 | cons a r=>exact ln2 (P:=λr=>P (a::r)) (λa1 a2=>h a a1 a2) r (abt hl)
theorem KC{α:Type}{P:List α->Prop}(h:∀a0 a1 a2 a3:α,P [a0,a1,a2,a3]):∀us:List α,us.length=4->P us:=λus hl=>by
 cases us with
 | nil=>exact absurd hl.symm (aa3 _)
 | cons a r=>exact zX (P:=λr=>P (a::r)) (λa1 a2 a3=>h a a1 a2 a3) r (abt hl)
theorem Th{α:Type}{P:List α->Prop}(h:∀a0 a1 a2 a3 a4:α,P [a0,a1,a2,a3,a4]):∀us:List α,us.length=5->P us:=λus hl=>by
 cases us with
 | nil=>exact absurd hl.symm (aa3 _)
 | cons a r=>exact KC (P:=λr=>P (a::r)) (λa1 a2 a3 a4=>h a a1 a2 a3 a4) r (abt hl)
theorem Z6{α:Type}{P:List α->Prop}(h:∀a0 a1 a2 a3 a4 a5:α,P [a0,a1,a2,a3,a4,a5]):∀us:List α,us.length=6->P us:=λus hl=>by
 cases us with
 | nil=>exact absurd hl.symm (aa3 _)
 | cons a r=>exact Th (P:=λr=>P (a::r)) (λa1 a2 a3 a4 a5=>h a a1 a2 a3 a4 a5) r (abt hl)
theorem Wm{α:Type}{xs:List α}(h:xs.length=1):∃a0,xs=[a0]:=IJ (P:=λxs=>∃a0,xs=[a0]) (λa0=>⟨a0,rfl⟩) xs h
theorem Py{α:Type}{xs:List α}(h:xs.length=2):∃a0 a1,xs=[a0,a1]:=ln2 (P:=λxs=>∃a0 a1,xs=[a0,a1]) (λa0 a1=>⟨a0,a1,rfl⟩) xs h
theorem Wn{α:Type}{xs:List α}(h:xs.length=3):∃a0 a1 a2,xs=[a0,a1,a2]:=zX (P:=λxs=>∃a0 a1 a2,xs=[a0,a1,a2]) (λa0 a1 a2=>⟨a0,a1,a2,rfl⟩) xs h
theorem Ti{α:Type}{xs:List α}(h:xs.length=6):∃a0 a1 a2 a3 a4 a5,xs=[a0,a1,a2,a3,a4,a5]:=Z6 (P:=λxs=>∃a0 a1 a2 a3 a4 a5,xs=[a0,a1,a2,a3,a4,a5]) (λa0 a1 a2 a3 a4 a5=>⟨a0,a1,a2,a3,a4,a5,rfl⟩) xs h
def tf(p:Program)(i:Nat):Stmt:=p.main.body.getD i (.Pass ⟨0,0,0,0⟩)
def top(i:Nat):Stmt:=tf PySem.Challenge.pw_stackwarden_k51_straight_rows i
abbrev m5:Stmt:=top 62
abbrev kO:Stmt:=top 45
abbrev iU:Stmt:=top 46
abbrev jG:Stmt:=top 44
abbrev m6:Stmt:=top 48
abbrev m7:Stmt:=top 49
abbrev kP:Stmt:=top 50
abbrev kQ:Stmt:=top 65
abbrev jH:Stmt:=top 56
abbrev kR:Stmt:=top 57
abbrev m9:Stmt:=top 55
abbrev fW:Stmt:=top 59
abbrev kU:Stmt:=top 41
abbrev dP:Stmt:=top 47
abbrev kW:Stmt:=top 60
abbrev nc:Stmt:=top 42
abbrev gU:Stmt:=top 61
abbrev ng:Stmt:=top 51
abbrev kX:Stmt:=top 52
abbrev kY:Stmt:=top 53
abbrev nh:Stmt:=top 54
abbrev gW:Stmt:=top 64
abbrev kZ:Stmt:=top 43
abbrev jI:Stmt:=top 36
abbrev wq:Stmt:=top 28
abbrev k4:Stmt:=top 5
abbrev nj:Stmt:=top 7
abbrev pP:Stmt:=top 10
abbrev iV:Stmt:=top 25
abbrev k6:Stmt:=top 6
abbrev k7:Stmt:=top 8
abbrev eD:Stmt:=top 15
abbrev wu:Stmt:=top 14
abbrev sC:Stmt:=top 16
abbrev sD:Stmt:=top 29
abbrev pQ:Stmt:=top 17
abbrev da:Stmt:=top 31
abbrev k8:Stmt:=top 30
abbrev nk:Stmt:=top 23
abbrev gX:Stmt:=top 32
abbrev zY:Stmt:=top 33
abbrev iW:Stmt:=top 38
abbrev nq:Stmt:=top 37
abbrev wx:Stmt:=top 39
abbrev nu:Stmt:=top 63
abbrev oq:Stmt:=top 66
def bp:List (Str×PyData):=[("push",.tuple []),("load",.tuple []),("store",.tuple [.tuple [.str "any"]]),("dup",.tuple [.tuple [.str "any"]]),("swap",.tuple [.tuple [.str "any"],.tuple [.str "any"]]),("drop",.tuple [.tuple [.str "any"]]),("add",.tuple [.tuple [.str "number"],.tuple [.str "number"]]),("sub",.tuple [.tuple [.str "number"],.tuple [.str "number"]]),("mul",.tuple [.tuple [.str "number"],.tuple [.str "number"]]),("div",.tuple [.tuple [.str "number"],.tuple [.str "number"]]),("rem",.tuple [.tuple [.str "number"],.tuple [.str "number"]]),("less",.tuple [.tuple [.str "number"],.tuple [.str "number"]]),("same",.tuple [.tuple [.str "number"],.tuple [.str "number"]]),("jump",.tuple []),("zero",.tuple [.tuple [.str "number"]]),("kin",.tuple [.tuple [.str "whole",.int 0]]),("make",.tuple []),("toss",.tuple [.tuple [.str "number"]]),("say",.tuple [.tuple [.str "number"]])]
def vd:PyData:=.tuple [.str "jump",.str "toss",.str "give"]
def qk:PyData:=.tuple [.str "div",.str "rem",.str "toss",.str "call"]
def yu:PyData:=.tuple [.str "jump",.str "zero",.str "kin"]
def mr:List (Str×PyData):=[("store",.int 0),("dup",.int 2),("swap",.int 2),("drop",.int 0),("jump",.int 0),("zero",.int 0),("put",.int 0),("toss",.int 0),("say",.int 0),("give",.int 0)]
def mS:PyData:=.tuple [.str "make",.str "fill",.str "begin",.str "get",.str "put"]
abbrev gE:Stmt:=inner (top 3)
inductive Kd where
 | any | num | whole (c:Nat) | raw (c m:Nat)
 deriving DecidableEq
def M9:Kd->List V
 | .any=>[.str "any"]
 | .num=>[.str "number"]
 | .whole c=>[.str "whole",.int c]
 | .raw c m=>[.str "raw",.int c,.int m]
def cH:Kd->List PyData
 | .any=>[.str "any"]
 | .num=>[.str "number"]
 | .whole c=>[.str "whole",.int c]
 | .raw c m=>[.str "raw",.int c,.int m]
abbrev bA:=List (Option Nat×List Kd)
def U8:Option Nat->V
 | none=>.non
 | some n=>.int n
def wy:Option Nat->PyData
 | none=>.none
 | some n=>.int n
def ve(m:Option Nat×List Kd):PyData:=.tuple [wy m.1,.list (m.2.map λk=>.tuple (cH k))]
def eE(ms:bA):PyData:=.list (ms.map ve)
structure Wf(ms:bA):Prop where
 ne:0 < ms.length
 few:ms.length<=8
 first:∀m,ms[0]?=some m->m.1=none
 ahead:∀(i:Nat) m,ms[i]?=some m->0 < i->∃j,m.1=some j/\j < i
def pR(ms:bA)(c:Nat):Option Nat:=(ms[c]?).bind (·.1)
theorem Wf.el{ms:bA}(w:Wf ms){c:Nat}(hc:c < ms.length):∃m,ms[c]?=some m/\pR ms c=m.1/\∀j,m.1=some j->j < c:=by
 refine⟨ms[c],cW hc,by unfold pR;rw[cW hc];rfl,λj hj=>?_⟩;rcases Nat.eq_zero_or_pos c with z | z
 ·subst z;have:=w.first _ (cW hc);rw[hj]at this;cases this
 ·obtain⟨j',h1,h2⟩:=w.ahead c _ (cW hc) z;rw[hj]at h1;cases h1;exact h2
def sE(ms:bA):Nat->Nat->List Nat
 | 0,_=>[]
 | n + 1,c=>c::(match pR ms c with | none=>[] | some j=>sE ms n j)
def bD(ms:bA)(c:Nat):List Nat:=sE ms (c + 1) c
theorem KG{ms:bA}(w:Wf ms):∀c:Nat,c < ms.length->∀n,c + 1<=n->sE ms n c=sE ms (c + 1) c:=by
 intro c
 induction c using Nat.strongRecOn with
 | ind c ih =>
  intro hc n hn;obtain⟨n',rfl⟩:∃n',n=n' + 1:=⟨n - 1,by omega⟩;show(c::(match pR ms c with | none=>[] | some j=>sE ms n' j))=c::(match pR ms c with | none=>[] | some j=>sE ms c j);obtain⟨m,_,e,hj⟩:=w.el hc
  cases q:pR ms c with
  | none=>rfl
  | some j =>
   have hlt:j < c:=hj j (by rw[← e,q]);show c::sE ms n' j=c::sE ms c j;rw[ih j hlt (by omega) n' (by omega),ih j hlt (by omega) c (by omega)]
def rest(ms:bA):Option Nat->List Nat
 | none=>[]
 | some j=>bD ms j
theorem eI{ms:bA}(w:Wf ms){c:Nat}(hc:c < ms.length):bD ms c=c::rest ms (pR ms c):=by
 show(c::(match pR ms c with | none=>[] | some j=>sE ms c j))=_;obtain⟨m,_,e,hj⟩:=w.el hc
 cases q:pR ms c with
 | none=>rfl
 | some j =>
  have hlt:j < c:=hj j (by rw[← e,q]);show c::sE ms c j=c::sE ms (j + 1) j;rw[KG w j (by omega) c (by omega)]
theorem mv{ms:bA}(w:Wf ms):∀c:Nat,c < ms.length->(bD ms c).length<=c + 1/\∀x∈bD ms c,x<=c:=by
 intro c
 induction c using Nat.strongRecOn with
 | ind c ih =>
  intro hc;rw[eI w hc];obtain⟨m,_,e,hj⟩:=w.el hc
  cases q:pR ms c with
  | none=>exact⟨by simp[rest],λx hx=>by simp[rest]at hx;omega⟩
  | some j =>
   have hlt:j < c:=hj j (by rw[← e,q]);obtain⟨h1,h2⟩:=ih j hlt (by omega);refine⟨by simp only[rest,List.length_cons];omega,λx hx=>?_⟩;rcases List.mem_cons.mp hx with z | z
   ·omega
   ·have:=h2 x z;omega
abbrev kh(l:List Nat):List V:=l.map λ(n:Nat)=>V.int (n:Int)
theorem yv(n:Nat):∀l:List Nat,Bm (.int (n:Int)) (kh l)=decide (n∈l)
 | []=>by simp[Bm,kh]
 | x::r=>by
  have ih:=yv n r;show(CG (.int (x:Int)) (.int (n:Int))||Bm (.int (n:Int)) (kh r))=decide (n∈x::r);rw[ih];show(((x:Int) == (n:Int))||decide (n∈r))=_;by_cases h:n=x
  ·subst h;simp
  ·have h':((x:Int) == (n:Int))=false:=by
    rw[acQ];intro z;exact h (Int.ofNat.inj z).symm
   rw[h'];simp[h]
theorem vf:∀l:List Nat,(kh l).all gJ=true
 | []=>rfl
 | _::r=>by show(true&&(kh r).all gJ)=true;rw[vf r];rfl
def U9(K:aC)(H:Hp)(xs:List V)(ms:bA):Prop:=xs.length=ms.length/\∀(i:Nat) x m,xs[i]?=some x->ms[i]?=some m->∃(t l:Addr) (ks:List V),x=.ref t/\bz K H t [U8 m.1,.ref l]/\cG K H l ks/\aP K H ks (m.2.map λk=>.tuple (cH k))
def ff(K:aC)(H:Hp)(a:Addr)(ms:bA):Prop:=∃xs,cG K H a xs/\U9 K H xs ms
theorem U9.same{K:aC}{H H':Hp}{xs:List V}{ms:bA}(e:aK H H')(h:U9 K H xs ms):U9 K H' xs ms:=⟨h.1,λi x m h1 h2=>by
 obtain⟨t,l,ks,e1,e2,e3,e4⟩:=h.2 i x m h1 h2;exact⟨t,l,ks,e1,e.tup e2,e.seq e3,e4.same e⟩⟩
theorem ff.same{K:aC}{H H':Hp}{a:Addr}{ms:bA}(e:aK H H')(h:ff K H a ms):ff K H' a ms:=let ⟨xs,h1,h2⟩:=h;⟨xs,e.seq h1,h2.same e⟩
def cV(zs:List Nat):Kd->Prop
 | .any=>True
 | .num=>True
 | .whole c=>c < zs.length
 | .raw c m=>∃z,zs[c]?=some z/\m < 2 ^ z
theorem sN{H:Hp}{p:Addr}(h:H p=none)(o:HO):aK H (upd H p o):=λb u q=>by rw[uN (nN q h)];exact q
theorem ou{K:aC}{H:Hp}{t r:Addr}{xs ys:List V}{o:HO}(h:bz K H t xs)(hr:H r=some (.lst ys)):bz K (upd H r o) t xs:=by
 rcases h with(h | ⟨u,h⟩) | h
 ·exact .inl (.inl (by rw[uN (rC h hr (by intro z;cases z))];exact h))
 ·exact .inl (.inr ⟨u,by rw[uN (rC h hr (by intro z;cases z))];exact h⟩)
 ·exact .inr h
theorem vg{K:aC}{H:Hp}{t:Addr}{k:Kd}(h:bz K H t (M9 k)):aO K H (.ref t) (.tuple (cH k)):=by
 refine .iQ h ?_
 cases k with
 | any=>exact .cons (.str _) .nil
 | num=>exact .cons (.str _) .nil
 | whole c=>exact .cons (.str _) (.cons (.int _) .nil)
 | raw c m=>exact .cons (.str _) (.cons (.int _) (.cons (.int _) .nil))
structure yw(sh:List (Option Nat×Nat))(zs:List Nat):Prop where
 len:sh.length=zs.length
 ne:0 < sh.length
 s0:sh[0]?=some (none,0)
 z0:zs[0]?=some 0
 six:∀z∈zs,z<=6
 go:∀(i:Nat) (s:Option Nat×Nat),0 < i->sh[i]?=some s->∃j z,s.1=some j/\j < i/\zs[j]?=some z/\zs[i]?=some (z + s.2)
theorem yw.snoc{sh:List (Option Nat×Nat)}{zs:List Nat}(h:yw sh zs){j n z:Nat}(hj:j < sh.length)(hz:zs[j]?=some z)(h6:z + n<=6):yw (sh++[(some j,n)]) (zs++[z + n]) where
 len:=by simp[h.len]
 ne:=by simp
 s0:=by rw[aab h.ne];exact h.s0
 z0:=by rw[aab (by rw[← h.len];exact h.ne)];exact h.z0
 six:=λx hx=>by
  rcases aaE.mp hx with q | q
  ·exact h.six x q
  ·simp at q;omega
 go:=λi s h0 hs=>by
  by_cases hi:i < sh.length
  ·rw[aab hi]at hs;obtain⟨j',z',e1,e2,e3,e4⟩:=h.go i s h0 hs;exact⟨j',z',e1,e2,by rw[aab (by rw[← h.len];omega)];exact e3,by rw[aab (by rw[← h.len];exact hi)];exact e4⟩
  ·have hl:i < (sh++[(some j,n)]).length:=(bX hs).1;have e:i=sh.length:=by simp at hl;omega
   subst e;rw[List.getElem?_append_right (Nat.le_refl _)]at hs;simp at hs;subst hs;refine⟨j,z,rfl,hj,by rw[List.getElem?_append_left (by rw[← h.len];exact hj)];exact hz,?_⟩;rw[h.len,List.getElem?_append_right (Nat.le_refl _)];simp
structure Good(ms:bA)(zs:List Nat):Prop where
 wf:Wf ms
 len:ms.length=zs.length
 Tj:∀m,ms[0]?=some m->m.2=[]
 z0:zs[0]?=some 0
 six:∀z∈zs,z<=6
 go:∀(i:Nat) m,0 < i->ms[i]?=some m->∃j z,m.1=some j/\j < i/\zs[j]?=some z/\zs[i]?=some (z + m.2.length)
 kds:∀(i:Nat) m,ms[i]?=some m->∀k∈m.2,cV zs k
def fc(K:aC)(H:Hp)(ys:List V)(ks:List Kd):Prop:=ys.length=ks.length/\∀(j:Nat) y k,ys[j]?=some y->ks[j]?=some k->∃t:Addr,y=.ref t/\bz K H t (M9 k)
theorem fc.nil(K:aC)(H:Hp):fc K H [] []:=⟨rfl,λi x m h=>by simp at h⟩
theorem fc.same{K:aC}{H H':Hp}{ys:List V}{ks:List Kd}(e:aK H H')(h:fc K H ys ks):fc K H' ys ks:=⟨h.1,λi x s h1 h2=>by
 obtain⟨t,e1,e2⟩:=h.2 i x s h1 h2;exact⟨t,e1,e.tup e2⟩⟩
theorem fc.rd{K:aC}{H:Hp}{ys:List V}{ks:List Kd}(h:fc K H ys ks):aP K H ys (ks.map λk=>.tuple (cH k)):=by
 refine⟨by rw[aac];exact h.1,λi x d hx hd=>?_⟩;rw[aaq]at hd
 cases q:ks[i]? with
 | none=>rw[q]at hd;cases hd
 | some k =>
  rw[q]at hd;cases hd;obtain⟨t,rfl,e2⟩:=h.2 i x k hx q;exact vg e2
theorem Gm{xs:List V}{n:Nat}:jz xs none (some (n:Int))=xs.take n:=by
 unfold jz;rw[HT.kz,HT.mj,List.drop_zero,Nat.sub_zero];exact List.take_eq_take_iff.mpr (by omega)
def ownOf(ms:bA)(c:Nat):List Kd:=match ms[c]? with | some m=>m.2 | none=>[]
def cB(ms:bA):List Nat->List Kd
 | []=>[]
 | e::r=>cB ms r++ownOf ms e
def fields(ms:bA)(c:Nat):List Kd:=cB ms (bD ms c)
theorem gm(ms:bA):∀l:List Nat,cB ms l=(l.reverse.map (ownOf ms)).flatten
 | []=>rfl
 | e::r=>by
  show cB ms r++ownOf ms e=_;rw[gm ms r];simp
theorem ql{ms:bA}(w:Wf ms){c:Nat}(hc:c < ms.length):fields ms c=cB ms (rest ms (pR ms c))++ownOf ms c:=by
 unfold fields;rw[eI w hc];rfl
theorem Good.fk{ms:bA}{zs:List Nat}(g:Good ms zs):∀c:Nat,c < ms.length->∃z,zs[c]?=some z/\(fields ms c).length=z:=by
 intro c
 induction c using Nat.strongRecOn with
 | ind c ih =>
  intro hc;have hm:=cW hc;rw[ql g.wf hc];have own:ownOf ms c=(ms[c]).2:=by unfold ownOf;rw[hm]
  have el:pR ms c=(ms[c]).1:=by unfold pR;rw[hm];rfl
  rcases acX c with z | z
  ·subst z;refine⟨0,g.z0,?_⟩;rw[own,g.Tj _ hm,el,g.wf.first _ hm];rfl
  ·obtain⟨j,y,e1,e2,e3,e4⟩:=g.go c _ z hm;obtain⟨z',f1,f2⟩:=ih j e2 (by omega);rw[e3]at f1;cases f1;refine⟨_,e4,?_⟩;rw[own,el,e1,aaC];show(fields ms j).length + _=_;rw[f2]
theorem Good.gY{ms:bA}{zs:List Nat}(g:Good ms zs){c:Nat}(hc:c < ms.length):(fields ms c).length<=6:=by
 obtain⟨z,h1,h2⟩:=g.fk c hc;have:=g.six z (aaf h1);omega
theorem aP.append{K:aC}{H:Hp}:∀{xs ys:List V} {ds es:List PyData},aP K H xs ds->aP K H ys es->aP K H (xs++ys) (ds++es)
 | [],_,[],_,_,r=>r
 | [],_,_::_,_,h,_=>nomatch h.1
 | _::_,_,[],_,h,_=>nomatch h.1
 | x::xs,ys,d::ds,es,h,r=>aP.cons (h.2 0 x d rfl rfl) (aP.append ⟨by simpa using h.1,λi a b h1 h2=>h.2 (i + 1) a b (by simpa using h1) (by simpa using h2)⟩ r)
abbrev aA(ks:List Kd):List PyData:=ks.map λk=>PyData.tuple (cH k)
theorem sF(m n:Nat):Builtin.bitAnd (m:Int) (n:Int)=((m&&&n:Nat):Int):=by
 unfold Builtin.bitAnd;simp
def below(ms:bA):Kd->Kd->Bool
 | _,.any=>true
 | .num,.num=>true
 | .whole c,.whole d=>decide (d∈bD ms c)
 | .raw c m,.raw d n=>decide (c=d)&&decide (m&&&n=n)
 | _,_=>false
def Gn(K:aC)(H:Hp)(v:V)(k:Kd):Prop:=∃t:Addr,v=.ref t/\bz K H t (M9 k)
theorem Gn.same{K:aC}{H H':Hp}{v:V}{k:Kd}(e:aK H H')(h:Gn K H v k):Gn K H' v k:=let ⟨t,a,b⟩:=h;⟨t,a,e.tup b⟩
theorem fc.at{K:aC}{H:Hp}{ys:List V}{ks:List Kd}(h:fc K H ys ks){i:Nat}{y:V}(hy:ys[i]?=some y):∃k,ks[i]?=some k/\Gn K H y k:=by
 have hi:i < ks.length:=by rw[← h.1];exact(bX hy).1
 obtain⟨t,e1,e2⟩:=h.2 i y _ hy (cW hi);exact⟨ks[i],cW hi,t,e1,e2⟩
theorem zZ(k:Kd):PySem.SeqAt.shaped (.tuple (cH k))=true:=by
 cases k<;>(simp only[cH,PySem.SeqAt.shaped,PyData.canLay0,PyData.canLayAll0,PyData.depth,PyData.depthAll];decide +kernel)
theorem Df{a b:Nat}:(V.int (a:Int)=V.int (b:Int))↔a=b:=⟨λh=>by
 have h':(a:Int)=(b:Int):=V.int.inj h;omega,λh=>by rw[h]⟩
theorem B2(a b:Nat):decide (V.int (a:Int)=V.int (b:Int))=decide (a=b):=acs.mpr Df
theorem Z7:¬ (V.str "whole"=V.str "any"):=by decide +kernel
theorem Z8:¬ (V.str "raw"=V.str "any"):=by decide +kernel
theorem Z9:¬ (V.str "number"=V.str "any"):=by decide +kernel
theorem nAN:¬ (V.str "any"=V.str "number"):=by decide +kernel
theorem nAW:¬ (V.str "any"=V.str "whole"):=by decide +kernel
theorem nAR:¬ (V.str "any"=V.str "raw"):=by decide +kernel
theorem Yr:¬ (V.str "number"=V.str "whole"):=by decide +kernel
theorem Ys:¬ (V.str "number"=V.str "raw"):=by decide +kernel
theorem nWN:¬ (V.str "whole"=V.str "number"):=by decide +kernel
theorem nWR:¬ (V.str "whole"=V.str "raw"):=by decide +kernel
theorem nRN:¬ (V.str "raw"=V.str "number"):=by decide +kernel
theorem Yt:¬ (V.str "raw"=V.str "whole"):=by decide +kernel
theorem fc.set{K:aC}{H:Hp}{t:Addr}{k:Kd}{ys:List V}{ks:List Kd}{i:Nat}(h:fc K H ys ks)(ht:bz K H t (M9 k)):fc K H (ys.set i (.ref t)) (ks.set i k):=by
 refine⟨by simp[h.1],λj y n h1 h2=>?_⟩;by_cases e:i=j
 ·subst e;have l1:i < (ys.set i (.ref t)).length:=(bX h1).1;have l2:i < (ks.set i k).length:=(bX h2).1;rw[aaz]at l1 l2;rw[aao l1]at h1;rw[aao l2]at h2;cases h1;cases h2;exact⟨t,rfl,ht⟩
 ·rw[aat e]at h1 h2;exact h.2 j y n h1 h2
theorem fc.append{K:aC}{H:Hp}{xs ys:List V}{js ks:List Kd}(h:fc K H xs js)(r:fc K H ys ks):fc K H (xs++ys) (js++ks):=by
 refine⟨by simp[h.1,r.1],λi y n h1 h2=>?_⟩;by_cases hi:i < xs.length
 ·rw[aab hi]at h1;rw[aab (by rw[← h.1];exact hi)]at h2;exact h.2 i y n h1 h2
 ·rw[aaj (by omega)]at h1;rw[aaj (by rw[← h.1];omega),← h.1]at h2;exact r.2 _ y n h1 h2
theorem aO.bq{K:aC}{H:Hp}{v:V}{ds:List PyData}(h:aO K H v (.tuple ds)):∃(a:Addr) (xs:List V),v=.ref a/\bz K H a xs/\aP K H xs ds:=by
 cases h with
 | tup h hl hi=>exact⟨_,_,rfl,h,hl,hi⟩
theorem aO.aU{K:aC}{H:Hp}{v:V}{i:Int}(h:aO K H v (.int i)):v=.int i:=by cases h;rfl
def KH(ms:bA):Prop:=∀(i:Nat) m,ms[i]?=some m->m.2.length<=50
theorem Good.Gp{ms:bA}{zs:List Nat}(g:Good ms zs):KH ms:=λi m hm=>by
 rcases acX i with z | z
 ·subst z;rw[g.Tj m hm]
  decide
 ·obtain⟨j,y,_,_,_,e4⟩:=g.go i m z hm;have:=g.six _ (aaf e4);omega
theorem KH.up{ms:bA}(f:KH ms):∀l:List Nat,(cB ms l).length<=50 * l.length
 | []=>aag _
 | e::r=>by
  have ih:=f.up r;show(cB ms r++ownOf ms e).length<=_;rw[aaC,abu]
  have:(ownOf ms e).length<=50:=by
   unfold ownOf
   cases q:ms[e]? with
   | none=>simp
   | some m=>exact f e m q
  omega
theorem KH.fields{ms:bA}(f:KH ms)(w:Wf ms){c:Nat}(hc:c < ms.length):(Mine.fields ms c).length<=400:=by
 have h1:=f.up (bD ms c);have h2:=(mv w c hc).1;have h3:=w.few;show(cB ms (bD ms c)).length<=400;omega
theorem Dg{K:aC}{H:Hp}{v:V}{k:Kd}{l:Addr}{zs:List V}{o:HO}(h:aO K H v (.tuple (cH k)))(hl:H l=some (.lst zs)):aO K (upd H l o) v (.tuple (cH k)):=by
 obtain⟨a,xs,rfl,ha,hR⟩:=aO.bq h;refine .iQ (ou ha hl) ⟨hR.1,λi x d hx hd=>?_⟩;have z:=hR.2 i x d hx hd;have hm:d∈cH k:=aaf hd
 have hat:(∃s,d=.str s)∨∃n,d=.int n:=by
  cases k<;>simp[cH]at hm
  ·exact .inl ⟨_,hm⟩
  ·exact .inl ⟨_,hm⟩
  ·rcases hm with e | e
   ·exact .inl ⟨_,e⟩
   ·exact .inr ⟨_,e⟩
  ·rcases hm with e | e | e
   ·exact .inl ⟨_,e⟩
   ·exact .inr ⟨_,e⟩
   ·exact .inr ⟨_,e⟩
 rcases hat with⟨s,rfl⟩ | ⟨n,rfl⟩
 ·cases z;exact .str _
 ·cases z;exact .int _
theorem ow{K:aC}{H:Hp}{xs:List V}{ks:List Kd}{l:Addr}{zs:List V}{o:HO}(h:aP K H xs (aA ks))(hl:H l=some (.lst zs)):aP K (upd H l o) xs (aA ks):=by
 refine⟨h.1,λi x d hx hd=>?_⟩;have z:=h.2 i x d hx hd;rw[aaq]at hd
 cases q:ks[i]? with
 | none=>rw[q]at hd;cases hd
 | some k =>
  rw[q]at hd;cases hd;exact Dg z hl
def near(ms:bA)(c d:Nat):Nat:=((bD ms c).filter λe=>decide (e∈bD ms d)).headD 0
def join(ms:bA):Kd->Kd->Kd
 | .num,.num=>.num
 | .whole c,.whole d=>.whole (near ms c d)
 | .raw c m,.raw d n=>if c=d then .raw c (m&&&n)else .any
 | _,_=>.any
def Pz(ms:bA)(k:Kd):Prop:=∀c,k=.whole c->c < ms.length
theorem cV.Va{ms:bA}{zs:List Nat}(g:Good ms zs){k:Kd}(h:cV zs k):Pz ms k:=λc e=>by
 rw[e]at h;rw[g.len];exact h
theorem sAN:(Str.ofString "any" == Str.ofString "number")=false:=by decide +kernel
theorem sAW:(Str.ofString "any" == Str.ofString "whole")=false:=by decide +kernel
theorem sAR:(Str.ofString "any" == Str.ofString "raw")=false:=by decide +kernel
theorem sNA:(Str.ofString "number" == Str.ofString "any")=false:=by decide +kernel
theorem sNW:(Str.ofString "number" == Str.ofString "whole")=false:=by decide +kernel
theorem sNR:(Str.ofString "number" == Str.ofString "raw")=false:=by decide +kernel
theorem sWA:(Str.ofString "whole" == Str.ofString "any")=false:=by decide +kernel
theorem sWN:(Str.ofString "whole" == Str.ofString "number")=false:=by decide +kernel
theorem sWR:(Str.ofString "whole" == Str.ofString "raw")=false:=by decide +kernel
theorem sRA:(Str.ofString "raw" == Str.ofString "any")=false:=by decide +kernel
theorem sRN:(Str.ofString "raw" == Str.ofString "number")=false:=by decide +kernel
theorem sRW:(Str.ofString "raw" == Str.ofString "whole")=false:=by decide +kernel
theorem KI(a b:Nat):((a:Int) == (b:Int))=decide (a=b):=by
 rw[acy,acM,ab7];omega
theorem Gq(k k':Kd):PyData.eqv (.tuple (cH k)) (.tuple (cH k'))=decide (k=k'):=by
 cases k<;>cases k'<;>simp only[cH,PyData.eqv,PyData.eqvAll,sAN,sAW,sAR,sNA,sNW,sNR,sWA,sWN,sWR,sRA,sRN,sRW,Bool.false_and,Bool.true_and,Bool.and_true,beq_self_eq_true,KI]<;>simp
def dQ:List Str:=["push","load","store","dup","swap","drop","add","sub","mul","div","rem","less","same","jump","zero","kin","make","fill","begin","get","put","call","toss","say","give"]
theorem k9(n:Str):∀l:List Str,Bm (.str n) (l.map V.str)=decide (n∈l)
 | []=>by simp[Bm]
 | x::r=>by
  have ih:=k9 n r;show(CG (.str x) (.str n)||Bm (.str n) (r.map V.str))=decide (n∈x::r);rw[ih];by_cases h:x=n
  ·subst h;simp[CG]
  ·have h':¬ n=x:=λe=>h e.symm
   simp[CG,h,h',List.mem_cons]
theorem jj:∀l:List Str,(l.map V.str).all gJ=true
 | []=>rfl
 | x::r=>by show(gJ (.str x)&&(r.map V.str).all gJ)=true;rw[jj r];rfl
inductive Rw where
 | push (w:Int) | load (b:Nat) | store (b:Nat) | bare (s:Str) | jump (t:Nat) | zero (t:Nat) | kin (c t:Nat) | make (c:Nat) | beg (c:Nat) | fill (c f:Nat) | get (c f:Nat) | put (c f:Nat) | call (p:Nat)
def cj:Rw->Str
 | .push _=>"push" | .load _=>"load" | .store _=>"store" | .bare s=>s | .jump _=>"jump" | .zero _=>"zero" | .kin _ _=>"kin" | .make _=>"make" | .beg _=>"begin" | .fill _ _=>"fill" | .get _ _=>"get" | .put _ _=>"put" | .call _=>"call"
def wz:Rw->List Int
 | .push w=>[w] | .load b=>[b] | .store b=>[b] | .bare _=>[] | .jump t=>[t] | .zero t=>[t] | .kin c t=>[c,t] | .make c=>[c] | .beg c=>[c] | .fill c f=>[c,f] | .get c f=>[c,f] | .put c f=>[c,f] | .call p=>[p]
def Na(r:Rw):List V:=.str (cj r)::(wz r).map V.int
def ki(r:Rw):PyData:=.tuple (.str (cj r)::(wz r).map PyData.int)
def cC:List Str:=["dup","swap","drop","add","sub","mul","div","rem","less","same","toss","say","give"]
def Rw.Ok(zs:List Nat)(np nb nr:Nat):Rw->Prop
 | .push w=>-2147483648<=w/\w < 2147483648
 | .load b=>b < nb
 | .store b=>b < nb
 | .bare s=>s∈cC
 | .jump t=>t < nr
 | .zero t=>t < nr
 | .kin c t=>c < zs.length/\t < nr
 | .make c=>c < zs.length
 | .beg c=>c < zs.length
 | .fill c f=>∃z,zs[c]?=some z/\f < z
 | .get c f=>∃z,zs[c]?=some z/\f < z
 | .put c f=>∃z,zs[c]?=some z/\f < z
 | .call p=>p < np
structure Pt where
 takes:List Kd
 gives:Kd
 boxes:Nat
 height:Nat
 rows:List Rw
 spans:List (Nat×Nat×Nat)
def Tn(s:Nat×Nat×Nat):PyData:=.tuple [.int (s.1:Int),.int (s.2.1:Int),.int (s.2.2:Int)]
def eF(p:Pt):PyData:=.tuple [.list (aA p.takes),.tuple (cH p.gives),.int (p.boxes:Int),.int (p.height:Int),.list (p.rows.map ki),.list (p.spans.map Tn)]
def oy(ms:bA)(ps:List Pt):PyData:=.tuple [eE ms,.list (ps.map eF)]
structure mJ(zs:List Nat)(np:Nat)(p:Pt):Prop where
 tk:∀k∈p.takes,cV zs k
 gv:cV zs p.gives
 bx:p.boxes<=8
 tb:p.takes.length<=p.boxes
 h1:1<=p.height
 h8:p.height<=8
 r1:1<=p.rows.length
 r2:p.rows.length<=100
 ro:∀r∈p.rows,r.Ok zs np p.boxes p.rows.length
 la:∃l r,p.rows=l++[r]/\(r=.bare "toss"∨r=.bare "give"∨∃t,r=.jump t)
 s8:p.spans.length<=8
 so:∀s∈p.spans,s.1 < s.2.1/\s.2.1<=p.rows.length/\s.2.2 < p.rows.length
theorem aO.dn{K:aC}{H:Hp}{v:V}{ds:List PyData}(h:aO K H v (.list ds)):∃(a:Addr) (xs:List V),v=.ref a/\cG K H a xs/\aP K H xs ds:=by
 cases h with
 | lst h hl hi=>exact⟨_,_,rfl,h,hl,hi⟩
theorem aP.at{K:aC}{H:Hp}{xs:List V}{ds:List PyData}{i:Nat}{d:PyData}(h:aP K H xs ds)(hd:ds[i]?=some d):∃x,xs[i]?=some x/\aO K H x d:=by
 have hi:i < xs.length:=by rw[h.1];exact(bX hd).1
 exact⟨xs[i],cW hi,h.2 i _ d (cW hi) hd⟩
theorem To{K:aC}{H:Hp}{v:V}{o:Option Nat}(h:aO K H v (wy o)):v=U8 o:=by
 cases o with
 | none=>cases h;rfl
 | some n=>cases h;rfl
theorem ff.z8{K:aC}{H:Hp}{v:V}{ms:bA}(h:aO K H v (eE ms)):∃a,v=.ref a/\ff K H a ms:=by
 obtain⟨a,xs,rfl,hS,hR⟩:=aO.dn h;refine⟨a,rfl,xs,hS,by have:=hR.1;simpa using this,λi x m hx hm=>?_⟩;have z:=hR.2 i x (ve m) hx (by rw[List.getElem?_map,hm];rfl);obtain⟨t,ys,rfl,hT,hY⟩:=aO.bq z;have hl:=hY.1;obtain⟨y0,y1,rfl⟩:=Py hl;have e0:=To (hY.2 0 y0 (wy m.1) rfl rfl);obtain⟨l,ks,e1,hls,hk⟩:=aO.dn (hY.2 1 y1 _ rfl rfl);subst e0;subst e1;exact⟨t,l,ks,rfl,hT,hls,hk⟩
theorem sG{K:aC}{H:Hp}{v:V}{ms:bA}{ps:List Pt}(hB:aO K H v (oy ms ps)):∃(b mk pl:Addr) (xs:List V),v=.ref b/\bz K H b [.ref mk,.ref pl]/\ff K H mk ms/\cG K H pl xs/\aP K H xs (ps.map eF):=by
 obtain⟨b',bs,e,hT,hR⟩:=aO.bq hB;have hl:=hR.1;obtain⟨v0,v1,rfl⟩:=Py hl;obtain⟨mk,rfl,hM⟩:=ff.z8 (hR.2 0 v0 _ rfl rfl);obtain⟨pl,xs,rfl,hL,hP⟩:=aO.dn (hR.2 1 v1 _ rfl rfl);exact⟨b',mk,pl,xs,e,hT,hM,hL,hP⟩
theorem pS{K:aC}{H:Hp}{v:V}{p:Pt}(h:aO K H v (eF p)):∃(t l0 l4 l5:Addr) (ks IK Gr:List V) (g:V),v=.ref t/\bz K H t [.ref l0,g,.int (p.boxes:Int),.int (p.height:Int),.ref l4,.ref l5]/\cG K H l0 ks/\aP K H ks (aA p.takes)/\aO K H g (.tuple (cH p.gives))/\cG K H l4 IK/\aP K H IK (p.rows.map ki)/\cG K H l5 Gr/\aP K H Gr (p.spans.map Tn):=by
 obtain⟨t,fs,e,hT,hR⟩:=aO.bq h;have hfl:=hR.1;obtain⟨f0,f1,f2,f3,f4,f5,rfl⟩:=Ti hfl;obtain⟨l0,ks,z0,IL,hk⟩:=aO.dn (hR.2 0 f0 _ rfl rfl);have rg:=hR.2 1 f1 _ rfl rfl;have z2:=aO.aU (hR.2 2 f2 _ rfl rfl);have z3:=aO.aU (hR.2 3 f3 _ rfl rfl);obtain⟨l4,IK,z4,KJ,KL⟩:=aO.dn (hR.2 4 f4 _ rfl rfl);obtain⟨l5,Gr,z5,Nb,IF⟩:=aO.dn (hR.2 5 f5 _ rfl rfl);subst z0;subst z2;subst z3;subst z4;subst z5;exact⟨t,l0,l4,l5,ks,IK,Gr,f1,e,hT,IL,hk,rg,KJ,KL,Nb,IF⟩
theorem sK{n:Nat}(h:n<=1000):n < sizeLine:=aaT h (by decide)
def Pt.wt(p:Pt)(tk:List Kd):Pt:={p with takes:=tk}
def Nd(ls:List Addr)(H HX:Hp):Prop:=∀c o,c∉ls->H c=some o->HX c=some o
structure Wo(K:aC)(H:Hp)(mk pl:Addr)(ys:List V)(ls:List Addr)(ms:bA)(ps:List Pt):Prop where
 ln:ls.length=ps.length
 nd:ls.Nodup
 pls:H pl=some (.lst ys)
 np:pl∉ls
 my:∀HX,Nd ls H HX->ff K HX mk ms
 pt:∀HX,Nd ls H HX->∀(j:Nat) (p:Pt) (l:Addr),ps[j]?=some p->ls[j]?=some l->∃(t:Addr) (g r s:V) (ks:List V),ys[j]?=some (.ref t)/\bz K HX t [.ref l,g,.int (p.boxes:Int),.int (p.height:Int),r,s]/\H l=some (.lst ks)/\aP K HX ks (aA p.takes)/\∀vs tk,HX l=some (.lst vs)->aP K HX vs (aA tk)->aO K HX (.ref t) (eF (p.wt tk))
def jt(b s:List Kd):PyData:=.tuple [.tuple (aA b),.tuple (aA s)]
def cf(p:Pt):List Kd:=p.takes++List.replicate (p.boxes - p.takes.length) Kd.any
theorem Gs{K:aC}{H:Hp}{v:V}{d:PyData}(h:aO K H v d):∀n:Nat,aP K H (List.replicate n v) (List.replicate n d)
 | 0=>.nil
 | n + 1=>.cons h (Gs h n)
theorem mw{K:aC}{H:Hp}{xs:List V}{ps:List Pt}{j:Nat}{p:Pt}(hP:aP K H xs (ps.map eF))(hp:ps[j]?=some p):∃v,xs[j]?=some v/\aO K H v (eF p):=by
 obtain⟨v,h1,h2⟩:=aP.at hP (i:=j) (d:=eF p) (by rw[aaq,hp];rfl);exact⟨v,h1,h2⟩
theorem aS{t u:TS}{D:Ends}{σ:St}{H:Hp}(h:∀R:St->Hp->Prop,(∀σ' H',u D σ' H'->R σ' H')->t {D with nx:=R} σ H):Je t u D σ H:=h _ λ_ _ x=>x
inductive z9(ms:bA):Str->List V->List Kd->Prop
 | begin {c:Nat} (hc:c < ms.length):z9 ms "begin" [.int c] [.raw c (2 ^ (fields ms c).length - 1)]
 | get {c f:Nat}:z9 ms "get" [.int c,.int f] [.whole c]
 | fill {c f:Nat} {k:Kd} (hc:c < ms.length) (hf:(fields ms c)[f]?=some k):z9 ms "fill" [.int c,.int f] [.raw c 0,k]
 | put {c f:Nat} {k:Kd} (hc:c < ms.length) (hf:(fields ms c)[f]?=some k):z9 ms "put" [.int c,.int f] [.whole c,k]
inductive vh(K:aC)(H:Hp)(mk pl:Addr)(part:Nat):Str->List V->List Kd->Prop
 | always {sign:Str} {xs:List V} {ks:List Kd} (h:eS bp sign=some (.tuple (aA ks))):vh K H mk pl part sign xs ks
 | call {q:Nat} {ys rest vs:List V} {t l:Addr} {ks:List Kd} (h1:cG K H pl ys) (h2:ys[q]?=some (.ref t)) (h3:bz K H t (.ref l::rest)) (h4:cG K H l vs) (h5:aP K H vs (aA ks)):vh K H mk pl part "call" [.int q] ks
 | give {ys rest:List V} {t:Addr} {v0 v:V} {k:Kd} (h1:cG K H pl ys) (h2:ys[part]?=some (.ref t)) (h3:bz K H t (v0::v::rest)) (h4:aO K H v (.tuple (cH k))):vh K H mk pl part "give" [] [k]
 | ofR {ms:bA} {sign:Str} {xs:List V} {ks:List Kd} (hM:ff K H mk ms) (hw:Wf ms) (hf:KH ms) (h:z9 ms sign xs ks):vh K H mk pl part sign xs ks
def lg(sign:Str):Int:=match eS mr sign with | some (.int i)=>i | _=>1
theorem Gu{kds:List (Str×PyData)}{k:Str}{d:PyData}(h:eS kds k=some d):∃kv∈kds,kv.2=d:=by
 unfold eS at h;obtain⟨kv,h1,h2⟩:=Option.map_eq_some_iff.mp h;exact⟨kv,List.mem_of_find?_eq_some h1,h2⟩
theorem Gv{sign:Str}{d:PyData}(h:eS mr sign=some d):∃i,d=.int i:=by
 obtain⟨kv,h1,rfl⟩:=Gu h;simp[mr]at h1;rcases h1 with e | e | e | e | e | e | e | e | e | e<;>exact⟨_,by rw[e]⟩
theorem Aa{ms:bA}(w:Wf ms):∀{k:Kd},Pz ms k->below ms k k=true
 | .any,_=>rfl
 | .num,_=>rfl
 | .whole c,h=>aaD (by rw[eI w (h c rfl)];exact aaN)
 | .raw c m,_=>by show(decide (c=c)&&decide (m&&&m=m))=true;rw[Nat.and_self];simp
theorem Gw{K:aC}{H:Hp}{v:V}{k:Kd}(h:aO K H v (.tuple (cH k))):Gn K H v k:=by
 obtain⟨t,xs,rfl,hT,hR⟩:=aO.bq h;refine⟨t,rfl,?_⟩
 have e:xs=M9 k:=by
  have hl:=hR.1;have at':∀(i:Nat) (x:V) (d:PyData),xs[i]?=some x->(cH k)[i]?=some d->aO K H x d:=hR.2
  cases k with
  | any =>
   obtain⟨x0,rfl⟩:=Wm hl;have z:=at' 0 x0 _ rfl rfl;cases z;rfl
  | num =>
   obtain⟨x0,rfl⟩:=Wm hl;have z:=at' 0 x0 _ rfl rfl;cases z;rfl
  | whole c =>
   obtain⟨x0,x1,rfl⟩:=Py hl;have z:=at' 0 x0 _ rfl rfl;have z1:=aO.aU (at' 1 x1 _ rfl rfl);cases z;rw[z1];rfl
  | raw c m =>
   obtain⟨x0,x1,x2,rfl⟩:=Wn hl;have z:=at' 0 x0 _ rfl rfl;have z1:=aO.aU (at' 1 x1 _ rfl rfl);have z2:=aO.aU (at' 2 x2 _ rfl rfl);cases z;rw[z1,z2];rfl
 rw[← e];exact hT
theorem fc.z8{K:aC}{H:Hp}{ys:List V}{ks:List Kd}(h:aP K H ys (aA ks)):fc K H ys ks:=by
 refine⟨by rw[h.1,aac],λj y k hy hk=>?_⟩;exact Gw (h.2 j y _ hy (by rw[aaq,hk];rfl))
def bV(ms:bA)(ks js:List Kd):Bool:=decide (ks.length=js.length)&&(List.zipWith (below ms) ks js).all id
def aX:List Str:=["add","sub","mul","div","rem","less","same"]
def cq(ms:bA)(ps:List Pt)(p:Pt):Rw->List Kd
 | .push _=>[]
 | .load _=>[]
 | .jump _=>[]
 | .make _=>[]
 | .store _=>[.any]
 | .zero _=>[.num]
 | .kin _ _=>[.whole 0]
 | .beg c=>[.raw c (2 ^ (fields ms c).length - 1)]
 | .get c _=>[.whole c]
 | .fill c f=>[.raw c 0,((fields ms c)[f]?).getD .any]
 | .put c f=>[.whole c,((fields ms c)[f]?).getD .any]
 | .call q=>((ps[q]?).map Pt.takes).getD []
 | .bare s=>if s∈(["dup","drop"]:List Str)then [.any]else if s="swap" then [.any,.any]else if s∈aX then [.num,.num]else if s∈(["toss","say"]:List Str)then [.num]else [p.gives]
def iX(s:Str):Int:=if s∈(["store","drop","jump","zero","put","toss","say","give"]:List Str)then 0 else if s∈(["dup","swap"]:List Str)then 2 else 1
theorem pT:∀s∈dQ,lg s=iX s:=by decide +kernel
theorem rw_sign{zs:List Nat}{np nb nr:Nat}{r:Rw}(h:r.Ok zs np nb nr):cj r∈dQ:=by
 have all:∀s∈cC,s∈dQ:=by decide +kernel
 cases r with
 | bare s=>exact all s h
 | push w=>exact(by decide +kernel:("push" : Str)∈dQ)
 | load w=>exact(by decide +kernel:("load" : Str)∈dQ)
 | store w=>exact(by decide +kernel:("store" : Str)∈dQ)
 | jump w=>exact(by decide +kernel:("jump" : Str)∈dQ)
 | zero w=>exact(by decide +kernel:("zero" : Str)∈dQ)
 | kin c w=>exact(by decide +kernel:("kin" : Str)∈dQ)
 | make c=>exact(by decide +kernel:("make" : Str)∈dQ)
 | beg c=>exact(by decide +kernel:("begin" : Str)∈dQ)
 | fill c w=>exact(by decide +kernel:("fill" : Str)∈dQ)
 | get c w=>exact(by decide +kernel:("get" : Str)∈dQ)
 | put c w=>exact(by decide +kernel:("put" : Str)∈dQ)
 | call w=>exact(by decide +kernel:("call" : Str)∈dQ)
def bW(ms:bA)(ps:List Pt)(p:Pt)(r:Rw)(st:List Kd):Option Str :=
 if st.length < (cq ms ps p r).length then some "empty"
 else if bV ms (st.drop (st.length - (cq ms ps p r).length)) (cq ms ps p r)=false then some "kind"
 else if (p.height:Int) < ((st.length - (cq ms ps p r).length:Nat):Int) + iX (cj r)then some "high" else none
def brV:Option Str->V
 | none=>.non
 | some s=>.str s
theorem Gx:∀s∈cC,s≠"give"->eS bp s=some (.tuple (aA (if s∈(["dup","drop"]:List Str)then [.any]else if s="swap" then [.any,.any]else if s∈aX then [.num,.num]else if s∈(["toss","say"]:List Str)then [.num]else []))):=by
 intro s hs hg;simp only[cC,List.mem_cons,List.not_mem_nil,or_false]at hs;rcases hs with rfl | rfl | rfl | rfl | rfl | rfl | rfl | rfl | rfl | rfl | rfl | rfl | rfl
 all_goals first | rfl | exact absurd rfl hg
theorem PB{ms:bA}{zs:List Nat}(g:Good ms zs)(c:Nat):∀k∈ownOf ms c,cV zs k:=λk hk=>by
 unfold ownOf at hk
 cases e:ms[c]? with
 | none=>rw[e]at hk;cases hk
 | some m=>rw[e]at hk;exact g.kds c m e k hk
theorem yy{ms:bA}{zs:List Nat}(g:Good ms zs):∀l:List Nat,∀k∈cB ms l,cV zs k:=λl k hk=>by
 rw[gm]at hk;obtain⟨ks,h1,h2⟩:=abw.mp hk;obtain⟨c,_,rfl⟩:=acu.mp h1;exact PB g c k h2
theorem yz{ms:bA}{zs:List Nat}(g:Good ms zs)(c f:Nat):cV zs (((fields ms c)[f]?).getD .any):=by
 cases e:(fields ms c)[f]? with
 | none=>exact trivial
 | some k=>exact yy g _ k (aaf e)
theorem gc{xs:List V}{lo hi:Option Int}:∀y∈jz xs lo hi,y∈xs:=λy hy=>by
 unfold jz at hy;exact List.mem_of_mem_drop (List.mem_of_mem_take hy)
theorem Gy{ms:bA}{ps:List Pt}{p:Pt}:cq ms ps p (.bare "dup")=[.any]:=by
 show(if ("dup" : Str)∈(["dup","drop"]:List Str)then [Kd.any]else if ("dup" : Str)="swap" then [.any,.any]else if ("dup" : Str)∈aX then [.num,.num]else if ("dup" : Str)∈(["toss","say"]:List Str)then [.num]else [p.gives])=_;rw[aan (by decide +kernel)]
theorem pU{ms:bA}{ps:List Pt}{p:Pt}:cq ms ps p (.bare "swap")=[.any,.any]:=by
 show(if ("swap" : Str)∈(["dup","drop"]:List Str)then [Kd.any]else if ("swap" : Str)="swap" then [.any,.any]else if ("swap" : Str)∈aX then [.num,.num]else if ("swap" : Str)∈(["toss","say"]:List Str)then [.num]else [p.gives])=_;rw[aak (by decide +kernel),aan rfl]
theorem Gz(m n:Nat):Builtin.bitOr (m:Int) (n:Int)=((m ||| n:Nat):Int):=by
 have h1:Builtin.bitNot (m:Int) < 0:=by unfold Builtin.bitNot;omega
 have h2:Builtin.bitNot (n:Int) < 0:=by unfold Builtin.bitNot;omega
 unfold Builtin.bitOr
 rw[show Builtin.bitAnd (Builtin.bitNot (m:Int)) (Builtin.bitNot (n:Int))=Builtin.bitNot (((Builtin.bitNot (Builtin.bitNot (m:Int))).toNat ||| (Builtin.bitNot (Builtin.bitNot (n:Int))).toNat:Nat):Int)by
  unfold Builtin.bitAnd;rw[decide_eq_false (show ¬ Builtin.bitNot (m:Int) ≥ 0 by omega),decide_eq_false (show ¬ Builtin.bitNot (n:Int) ≥ 0 by omega)]]
 have e:∀x:Int,Builtin.bitNot (Builtin.bitNot x)=x:=λx=>by unfold Builtin.bitNot;omega
 rw[e,e,e];simp
theorem fc.drop{K:aC}{H:Hp}{ys:List V}{ks:List Kd}(h:fc K H ys ks)(n:Nat):fc K H (ys.drop n) (ks.drop n):=by
 refine⟨by rw[aaW,aaW,h.1],λj y k hy hk=>?_⟩;rw[aa9]at hy hk;exact h.2 _ y k hy hk
theorem sH{xs:List V}{n:Nat}(h:n<=xs.length):jz xs (some (n:Int)) none=xs.drop n:=by
 unfold jz;rw[HT.kz,HT.mj];have:min n xs.length=n:=by omega
 rw[this,List.take_of_length_le (by simp)]
theorem B3{K:aC}{H:Hp}{mk pl:Addr}{ms:bA}{zs:List Nat}{ps:List Pt}{xs:List V}{j:Nat}{p:Pt}{r:Rw}(hM:ff K H mk ms)(hg:Good ms zs)(hL:cG K H pl xs)(hP:aP K H xs (ps.map eF))(hp:ps[j]?=some p)(hr:r.Ok zs ps.length p.boxes p.rows.length):vh K H mk pl j (cj r) ((wz r).map V.int) (cq ms ps p r):=by
 have cl:∀c,c < zs.length->c < ms.length:=λc h=>by rw[hg.len];exact h
 have fl:∀c f z,zs[c]?=some z->f < z->c < ms.length/\(fields ms c)[f]?=some (((fields ms c)[f]?).getD .any):=λc f z hz hf=>by
  have hc:=cl c (bX hz).1;obtain⟨z',h1,h2⟩:=hg.fk c hc;rw[hz]at h1;cases h1;refine⟨hc,?_⟩;rw[cW (by omega)];rfl
 cases r with
 | push w=>exact .always (by show eS bp "push"=some (.tuple (aA []));rfl)
 | load w=>exact .always (by show eS bp "load"=some (.tuple (aA []));rfl)
 | store w=>exact .always (by show eS bp "store"=some (.tuple (aA [.any]));rfl)
 | jump w=>exact .always (by show eS bp "jump"=some (.tuple (aA []));rfl)
 | zero w=>exact .always (by show eS bp "zero"=some (.tuple (aA [.num]));rfl)
 | kin c w=>exact .always (by show eS bp "kin"=some (.tuple (aA [.whole 0]));rfl)
 | make c=>exact .always (by show eS bp "make"=some (.tuple (aA []));rfl)
 | beg c=>exact .ofR hM hg.wf hg.Gp (.begin (cl c hr))
 | get c f=>exact .ofR hM hg.wf hg.Gp .get
 | fill c f =>
  obtain⟨z,h1,h2⟩:∃z,zs[c]?=some z/\f < z:=hr;obtain⟨h3,h4⟩:=fl c f z h1 h2;exact .ofR hM hg.wf hg.Gp (.fill h3 h4)
 | put c f =>
  obtain⟨z,h1,h2⟩:∃z,zs[c]?=some z/\f < z:=hr;obtain⟨h3,h4⟩:=fl c f z h1 h2;exact .ofR hM hg.wf hg.Gp (.put h3 h4)
 | call q =>
  have hq:q < ps.length:=hr;obtain⟨v,hv,hvr⟩:=mw hP (cW hq);obtain⟨t,l0,l4,l5,ks,IK,Gr,f1,rfl,hTt,IL,hk,rg,KJ,KL,Nb,IF⟩:=pS hvr
  have e:cq ms ps p (.call q)=ps[q].takes:=by
   show((ps[q]?).map Pt.takes).getD []=_;rw[cW hq];rfl
  rw[e];exact .call hL hv hTt IL hk
 | bare s =>
  by_cases hgv:s="give"
  ·subst hgv;obtain⟨v,hv,hvr⟩:=mw hP hp;obtain⟨t,l0,l4,l5,ks,IK,Gr,f1,rfl,hTt,IL,hk,rg,KJ,KL,Nb,IF⟩:=pS hvr
   have e:cq ms ps p (.bare "give")=[p.gives]:=by
    show(if ("give" : Str)∈(["dup","drop"]:List Str)then [Kd.any]else if ("give" : Str)="swap" then [Kd.any,.any]else if ("give" : Str)∈aX then [Kd.num,.num]else if ("give" : Str)∈(["toss","say"]:List Str)then [Kd.num]else [p.gives])=[p.gives];rw[aak (by decide +kernel),aak (by decide +kernel),aak (by decide +kernel),aak (by decide +kernel)]
   rw[e];exact .give hL hv hTt rg
  ·have z:=Gx s hr hgv;refine .always ?_;show eS bp s=some (.tuple (aA (if s∈(["dup","drop"]:List Str)then [.any]else if s="swap" then [.any,.any]else if s∈aX then [.num,.num]else if s∈(["toss","say"]:List Str)then [.num]else [p.gives])))
   have hin:s∈(["dup","drop"]:List Str)∨s="swap"∨s∈aX∨s∈(["toss","say"]:List Str):=by
    have all:∀s∈cC,s≠"give"->s∈(["dup","drop"]:List Str)∨s="swap"∨s∈aX∨s∈(["toss","say"]:List Str):=by decide +kernel
    exact all s hr hgv
   rw[z];by_cases a1:s∈(["dup","drop"]:List Str)
   ·rw[aan a1,aan a1]
   ·rw[aak a1,aak a1];by_cases a2:s="swap"
    ·rw[aan a2,aan a2]
    ·rw[aak a2,aak a2];by_cases a3:s∈aX
     ·rw[aan a3,aan a3]
     ·rw[aak a3,aak a3]
      have a4:s∈(["toss","say"]:List Str):=by
       rcases hin with h | h | h | h
       ·exact absurd h a1
       ·exact absurd h a2
       ·exact absurd h a3
       ·exact h
      rw[aan a4,aan a4]
theorem jb{x y:Str}{A B:Prop}(h1:x=y->A)(h2:¬ x=y->B):if decide (V.str x=V.str y)=true then A else B:=by
 by_cases e:x=y
 ·rw[aan (aaD (abl V.str e))];exact h1 e
 ·rw[aak (λz=>e (V.str.inj (aaH z)))];exact h2 e
theorem GA{x:Str}{l:List Str}{A B:Prop}(h1:x∈l->A)(h2:¬ x∈l->B):if Bm (.str x) (l.map V.str)=true then A else B:=by
 rw[k9];by_cases e:x∈l
 ·rw[aan (aaD e)];exact h1 e
 ·rw[aak (λz=>e (aaH z))];exact h2 e
def GC:Kd->Nat
 | .raw _ m=>m
 | _=>0
def putK(ms:bA)(ps:List Pt)(bx tk:List Kd):Rw->List Kd
 | .push _=>[.num]
 | .load b=>[(bx[b]?).getD .any]
 | .store _=>[]
 | .jump _=>[]
 | .zero _=>[]
 | .kin _ _=>[(tk[0]?).getD .any]
 | .make c=>[.raw c 0]
 | .beg c=>[.whole c]
 | .get c f=>[((fields ms c)[f]?).getD .any]
 | .fill c f=>[.raw c (GC ((tk[0]?).getD .any) ||| 2 ^ f)]
 | .put _ _=>[]
 | .call q=>[((ps[q]?).map Pt.gives).getD .any]
 | .bare s=>if s="dup" then [(tk[0]?).getD .any,(tk[0]?).getD .any]else if s="swap" then [(tk[1]?).getD .any,(tk[0]?).getD .any]else if s∈aX then [.num]else []
structure Dh(ms:bA)(ps:List Pt)(p:Pt)(r:Rw)(tk:List Kd):Prop where
 len:tk.length=(cq ms ps p r).length
 fill:∀c f,r=.fill c f->∃m,tk[0]?=some (.raw c m)
theorem B4{zs:List Nat}{np nb nr:Nat}{r:Rw}(h:r.Ok zs np nb nr)(e:cj r="load"):∃w,r=.load w:=by
 cases r with
 | load w=>exact⟨w,rfl⟩
 | bare s=>exact absurd e ((by decide +kernel:∀s∈cC,¬ s="load") s h)
 | _=>dsimp only[cj]at e;exact absurd e (by decide +kernel)
theorem sI{zs:List Nat}{np nb nr:Nat}{r:Rw}(h:r.Ok zs np nb nr)(e:cj r="store"):∃w,r=.store w:=by
 cases r with
 | store w=>exact⟨w,rfl⟩
 | bare s=>exact absurd e ((by decide +kernel:∀s∈cC,¬ s="store") s h)
 | _=>dsimp only[cj]at e;exact absurd e (by decide +kernel)
theorem PD{zs:List Nat}{np nb nr:Nat}{r:Rw}(h:r.Ok zs np nb nr)(e:cj r="kin"):∃c w,r=.kin c w:=by
 cases r with
 | kin c w=>exact⟨c,w,rfl⟩
 | bare s=>exact absurd e ((by decide +kernel:∀s∈cC,¬ s="kin") s h)
 | _=>dsimp only[cj]at e;exact absurd e (by decide +kernel)
theorem B5{zs:List Nat}{np nb nr:Nat}{r:Rw}(h:r.Ok zs np nb nr)(e:cj r="make"):∃c,r=.make c:=by
 cases r with
 | make c=>exact⟨c,rfl⟩
 | bare s=>exact absurd e ((by decide +kernel:∀s∈cC,¬ s="make") s h)
 | _=>dsimp only[cj]at e;exact absurd e (by decide +kernel)
theorem GD{zs:List Nat}{np nb nr:Nat}{r:Rw}(h:r.Ok zs np nb nr)(e:cj r="begin"):∃c,r=.beg c:=by
 cases r with
 | beg c=>exact⟨c,rfl⟩
 | bare s=>exact absurd e ((by decide +kernel:∀s∈cC,¬ s="begin") s h)
 | _=>dsimp only[cj]at e;exact absurd e (by decide +kernel)
theorem GF{zs:List Nat}{np nb nr:Nat}{r:Rw}(h:r.Ok zs np nb nr)(e:cj r="get"):∃c f,r=.get c f:=by
 cases r with
 | get c f=>exact⟨c,f,rfl⟩
 | bare s=>exact absurd e ((by decide +kernel:∀s∈cC,¬ s="get") s h)
 | _=>dsimp only[cj]at e;exact absurd e (by decide +kernel)
theorem B6{zs:List Nat}{np nb nr:Nat}{r:Rw}(h:r.Ok zs np nb nr)(e:cj r="fill"):∃c f,r=.fill c f:=by
 cases r with
 | fill c f=>exact⟨c,f,rfl⟩
 | bare s=>exact absurd e ((by decide +kernel:∀s∈cC,¬ s="fill") s h)
 | _=>dsimp only[cj]at e;exact absurd e (by decide +kernel)
theorem GG{zs:List Nat}{np nb nr:Nat}{r:Rw}(h:r.Ok zs np nb nr)(e:cj r="put"):∃c f,r=.put c f:=by
 cases r with
 | put c f=>exact⟨c,f,rfl⟩
 | bare s=>exact absurd e ((by decide +kernel:∀s∈cC,¬ s="put") s h)
 | _=>dsimp only[cj]at e;exact absurd e (by decide +kernel)
theorem B7{zs:List Nat}{np nb nr:Nat}{r:Rw}(h:r.Ok zs np nb nr)(e:cj r="call"):∃w,r=.call w:=by
 cases r with
 | call w=>exact⟨w,rfl⟩
 | bare s=>exact absurd e ((by decide +kernel:∀s∈cC,¬ s="call") s h)
 | _=>dsimp only[cj]at e;exact absurd e (by decide +kernel)
theorem iy{zs:List Nat}{np nb nr:Nat}{r:Rw}(h:r.Ok zs np nb nr)(e:cj r∈cC):r=.bare (cj r):=by
 cases r with
 | bare s=>rfl
 | _=>dsimp only[cj]at e;exact absurd e (by decide +kernel)
def tZ:List Str:=["make","fill","begin","get","put"]
theorem GH{ms:bA}{ps:List Pt}{bx tk:List Kd}{zs:List Nat}{np nb nr:Nat}{r:Rw}(h:r.Ok zs np nb nr)(e1:¬ cj r="load")(e2:¬ cj r="dup")(e3:¬ cj r="swap")(e4:¬ cj r="kin")(e5:¬ cj r="call")(e6:¬ cj r∈tZ):∃n:Nat,n<=1/\lg (cj r)=(n:Int)/\putK ms ps bx tk r=List.replicate n .num:=by
 rw[pT _ (rw_sign h)]
 cases r with
 | push w=>exact⟨1,aag _,(by decide +kernel:iX "push"=1),rfl⟩
 | store w=>exact⟨0,by omega,(by decide +kernel:iX "store"=0),rfl⟩
 | jump w=>exact⟨0,by omega,(by decide +kernel:iX "jump"=0),rfl⟩
 | zero w=>exact⟨0,by omega,(by decide +kernel:iX "zero"=0),rfl⟩
 | load w=>exact absurd rfl e1
 | kin c w=>exact absurd rfl e4
 | call w=>exact absurd rfl e5
 | make c=>exact absurd (show("make" : Str)∈tZ by decide +kernel) e6
 | beg c=>exact absurd (show("begin" : Str)∈tZ by decide +kernel) e6
 | fill c f=>exact absurd (show("fill" : Str)∈tZ by decide +kernel) e6
 | get c f=>exact absurd (show("get" : Str)∈tZ by decide +kernel) e6
 | put c f=>exact absurd (show("put" : Str)∈tZ by decide +kernel) e6
 | bare s =>
  have e2:¬ s="dup":=e2;have e3:¬ s="swap":=e3;have ep:putK ms ps bx tk (.bare s)=if s="dup" then [(tk[0]?).getD .any,(tk[0]?).getD .any]else if s="swap" then [(tk[1]?).getD .any,(tk[0]?).getD .any]else if s∈aX then [.num]else []:=rfl
  rw[ep,aak e2,aak e3];by_cases e:s∈aX
  ·rw[aan e];exact⟨1,aag _,(by decide +kernel:∀s∈aX,iX s=1) s e,rfl⟩
  ·rw[aak e];exact⟨0,by omega,(by decide +kernel:∀s∈cC,¬ s="dup"->¬ s="swap"->¬ s∈aX->iX s=0) s h e2 e3 e,rfl⟩
theorem fc.PF{K:aC}{H:Hp}{v:V}{k:Kd}(h:Gn K H v k):fc K H [v] [k]:=by
 refine⟨rfl,λj y x hy hx=>?_⟩
 match j,hy,hx with
 | 0,hy,hx=>cases hy;cases hx;exact h
theorem fc.Yu{K:aC}{H:Hp}{v w:V}{k l:Kd}(h:Gn K H v k)(h':Gn K H w l):fc K H [v,w] [k,l]:=by
 refine⟨rfl,λj y x hy hx=>?_⟩
 match j,hy,hx with
 | 0,hy,hx=>cases hy;cases hx;exact h
 | 1,hy,hx=>cases hy;cases hx;exact h'
theorem fc.take{K:aC}{H:Hp}{ys:List V}{ks:List Kd}(h:fc K H ys ks)(n:Nat):fc K H (ys.take n) (ks.take n):=by
 refine⟨by rw[aaG,aaG,h.1],λj y k hy hk=>?_⟩;have hj:j < (ys.take n).length:=(bX hy).1;rw[aaG]at hj;rw[abD (by omega)]at hy hk;exact h.2 _ y k hy hk
theorem fc.rep{K:aC}{H:Hp}{v:V}{k:Kd}(h:Gn K H v k)(n:Nat):fc K H (List.replicate n v) (List.replicate n k):=by
 refine⟨by simp,λj y x hy hx=>?_⟩;have h1:=List.mem_of_getElem? hy;have h2:=List.mem_of_getElem? hx;rw[List.eq_of_mem_replicate h1,List.eq_of_mem_replicate h2];exact h
theorem fc.item{K:aC}{H:Hp}{ys:List V}{ks:List Kd}(h:fc K H ys ks){i:Nat}(hi:i < ks.length):∃y,ys[i]?=some y/\Gn K H y ((ks[i]?).getD .any):=by
 have hy:i < ys.length:=by rw[h.1];exact hi
 refine⟨ys[i],cW hy,?_⟩;rw[cW hi];exact h.2 i _ _ (cW hy) (cW hi)
theorem PH{K:aC}{H:Hp}{v:V}{b s:List Kd}(h:aO K H v (jt b s)):∃(t tb ts:Addr) (bs ss:List V),v=.ref t/\bz K H t [.ref tb,.ref ts]/\bz K H tb bs/\fc K H bs b/\bz K H ts ss/\fc K H ss s:=by
 obtain⟨t,fs,rfl,hT,hR⟩:=aO.bq h;have hl:=hR.1
 match fs,hl,hT,hR with
 | [f0,f1],_,hT,hR =>
  obtain⟨tb,bs,rfl,hb,hB⟩:=aO.bq (hR.2 0 f0 _ rfl rfl);obtain⟨ts,ss,rfl,hs,hS⟩:=aO.bq (hR.2 1 f1 _ rfl rfl);exact⟨t,tb,ts,bs,ss,rfl,hT,hb,fc.z8 hB,hs,fc.z8 hS⟩
theorem Tp{K:aC}{H:Hp}{t tb ts:Addr}{bs ss:List V}{b s:List Kd}(hT:bz K H t [.ref tb,.ref ts])(hb:bz K H tb bs)(hB:fc K H bs b)(hs:bz K H ts ss)(hS:fc K H ss s):aO K H (.ref t) (jt b s):=.iQ hT (.cons (.iQ hb hB.rd) (.cons (.iQ hs hS.rd) .nil))
theorem KN{K:aC}{H:Hp}{ss:List Str}{xs:List V}(h:aP K H xs (ss.map PyData.str)):xs=ss.map V.str:=by
 have hl:=h.1;rw[aac]at hl;apply acg;intro i;by_cases hi:i < xs.length
 ·have z:=h.2 i xs[i] (.str (ss[i]'(by omega))) (cW hi) (by rw[aaq,cW (by omega)];rfl)
  have e:xs[i]=.str (ss[i]'(by omega)):=by
   generalize xs[i]=y at z ⊢;cases z;rfl
  rw[cW hi,e,aaq,cW (by omega)];rfl
 ·rw[List.getElem?_eq_none (by omega),List.getElem?_eq_none (by simp;omega)]
theorem mx{K:aC}{d:Addr}{l:List Str}(c:∀H:Hp,aO K H (.ref d) (.tuple (l.map PyData.str)))(H:Hp):bz K H d (l.map V.str):=by
 obtain⟨a,xs,e,h1,h2⟩:=aO.bq (c H);cases e;have z:=KN (ss:=l) h2;rw[← z];exact h1
def oz(bx tk:List Kd):Rw->List Kd
 | .store b=>bx.set b ((tk[0]?).getD .any)
 | _=>bx
theorem yA{bx tk:List Kd}{r:Rw}(h:¬ cj r="store"):oz bx tk r=bx:=by
 cases r with
 | store b=>exact absurd rfl h
 | _=>rfl
theorem eA{ms:bA}{ps:List Pt}{bx tk:List Kd}{r:Rw}:(putK ms ps bx tk r).length<=2:=by
 cases r with
 | bare s =>
  show(if s="dup" then [(tk[0]?).getD .any,(tk[0]?).getD .any]else if s="swap" then [(tk[1]?).getD .any,(tk[0]?).getD .any]else if s∈aX then [.num]else([]:List Kd)).length<=2
  repeat' split
  all_goals simp
 | _=>simp[putK]
theorem B8{K:aC}{H:Hp}{v:V}{bx st:List Kd}{r:Addr}{ws:List V}{o:HO}(h:aO K H v (jt bx st))(hr:H r=some (.lst ws)):aO K (upd H r o) v (jt bx st):=by
 obtain⟨t,xs,rfl,hT,hX⟩:=aO.bq h;have hl:=hX.1;obtain⟨x0,x1,rfl⟩:=Py hl;obtain⟨t0,y0,rfl,Vb,hY0⟩:=aO.bq (hX.2 0 x0 _ rfl rfl);obtain⟨t1,y1,rfl,Yv,hY1⟩:=aO.bq (hX.2 1 x1 _ rfl rfl);exact .iQ (ou hT hr) (.cons (.iQ (ou Vb hr) (ow hY0 hr)) (.cons (.iQ (ou Yv hr) (ow hY1 hr)) .nil))
theorem rw_inv{K:aC}{H:Hp}{v:V}{r:Rw}(h:aO K H v (ki r)):∃t,v=.ref t/\bz K H t (Na r):=by
 obtain⟨rt,rx,rfl,hRT,hRR⟩:=aO.bq h
 have hrx:rx=Na r:=by
  match rx,hRR with
  | [],hRR=>have:=hRR.1;simp at this
  | y::ys,hRR =>
   have z:=hRR.2 0 y _ rfl rfl;cases z
   have el:ys=(wz r).map V.int:=by
    have hl:=hRR.1;simp at hl;apply List.ext_getElem?;intro n;by_cases hn:n < ys.length
    ·have zz:=hRR.2 (n + 1) ys[n] (.int ((wz r)[n]'(by omega))) (by rw[abg];exact cW hn) (by rw[abg,aaq,cW (by omega)];rfl);rw[cW hn,aO.aU zz,aaq,cW (by omega)];rfl
    ·rw[List.getElem?_eq_none (by omega),List.getElem?_eq_none (by simp;omega)]
   rw[el];rfl
 subst hrx;exact⟨rt,rfl,hRT⟩
structure Ld where
 how:Str
 at':Int
 bx:List Kd
 st:List Kd
def yB(K:aC)(H:Hp)(y:V)(l:Ld):Prop:=∃(t:Addr) (v:V),y=.ref t/\bz K H t [.str l.how,.int l.at',v]/\aO K H v (jt l.bx l.st)
theorem yB.same{K:aC}{H H':Hp}{y:V}{l:Ld}(e:aK H H')(h:yB K H y l):yB K H' y l:=by
 obtain⟨t,v,h1,h2,h3⟩:=h;exact⟨t,v,h1,e.tup h2,h3.same e⟩
theorem yB.Wq{K:aC}{H:Hp}{y:V}{l:Ld}{r:Addr}{ws:List V}{o:HO}(h:yB K H y l)(hr:H r=some (.lst ws)):yB K (upd H r o) y l:=by
 obtain⟨t,v,h1,h2,h3⟩:=h;exact⟨t,v,h1,ou h2 hr,B8 h3 hr⟩
def GI(K:aC)(H:Hp)(ys:List V)(ls:List Ld):Prop:=ys.length=ls.length/\∀(j:Nat) y l,ys[j]?=some y->ls[j]?=some l->yB K H y l
theorem GI.nil(K:aC)(H:Hp):GI K H [] []:=⟨rfl,λj y l h=>by simp at h⟩
theorem GI.same{K:aC}{H H':Hp}{ys:List V}{ls:List Ld}(e:aK H H')(h:GI K H ys ls):GI K H' ys ls:=⟨h.1,λj y l h1 h2=>(h.2 j y l h1 h2).same e⟩
theorem GI.snoc{K:aC}{H:Hp}{ys:List V}{ls:List Ld}{y:V}{l:Ld}(h:GI K H ys ls)(hy:yB K H y l):GI K H (ys++[y]) (ls++[l]):=by
 refine⟨by simp[h.1],λj x k hx hk=>?_⟩;by_cases hj:j < ys.length
 ·rw[aab hj]at hx;rw[aab (by rw[← h.1];exact hj)]at hk;exact h.2 j x k hx hk
 ·have hl:j=ys.length:=by
   have:=(bX hx).1;simp at this;omega
  subst hl;rw[aaj (aag _),aa0]at hx;rw[h.1,aaj (aag _),aa0]at hk;cases hx;cases hk;exact hy
def Di(K:aC)(H:Hp)(L:Addr)(ls:List Ld)(H':Hp):Prop:=aK H H'/\∃ys,H' L=some (.lst ys)/\GI K H' ys ls
theorem Di.add{K:aC}{H H2:Hp}{L u:Addr}{ls:List Ld}{ys:List V}{how:Str}{i:Int}{v:V}{b s:List Kd}(hL:H L=none)(e:aK H H2)(g:H2 L=some (.lst ys))(hI:GI K H2 ys ls)(hu:bz K H2 u [.str how,.int i,v])(hv:aO K H2 v (jt b s)):Di K H L (ls++[⟨how,i,b,s⟩]) (upd H2 L (.lst (ys++[.ref u]))):=by
 refine⟨λc o q=>?_,_,uS,?_⟩
 ·rw[uN (nN q hL)];exact e c o q
 ·have z:=hI.snoc (y:=.ref u) (l:=⟨how,i,b,s⟩) ⟨u,v,rfl,hu,hv⟩;exact⟨z.1,λj y l h1 h2=>(z.2 j y l h1 h2).Wq g⟩
def nv:List Str:=["jump","toss","give"]
def km:List Str:=["jump","zero","kin"]
def GJ:List Str:=["div","rem","toss","call"]
def Wr(ss:List (Nat×Nat×Nat)):List (Int×Int×Int):=ss.map λx=>((x.1:Int),(x.2.1:Int),(x.2.2:Int))
def nextK(r:Rw)(i:Nat)(b s:List Kd):List Ld:=if cj r∈nv then []else [⟨"next",(i:Int) + 1,b,s⟩]
def Nf(b lo s:List Kd):Rw->List Ld
 | .kin c t=>[⟨"jump",(t:Int),b,lo++[.whole c]⟩]
 | .jump t=>[⟨"jump",(t:Int),b,s⟩]
 | .zero t=>[⟨"jump",(t:Int),b,s⟩]
 | _=>[]
abbrev Sts:=List (Int×Int×Int)
def zU(ss:Sts)(p:Int):Option Int:=(ss.find? λx=>decide (x.1<=p)&&decide (p < x.2.1)).map (·.2.2)
def PJ(b:List Kd):Option Int->List Ld
 | some g=>[⟨"catch",g,b,[.num]⟩]
 | none=>[]
def GK(r:Rw)(ss:List (Nat×Nat×Nat))(i:Nat)(b:List Kd):List Ld:=if cj r∈GJ then PJ b (zU (Wr ss) (i:Int))else []
def Tq(ms:bA)(ps:List Pt)(p:Pt)(r:Rw)(i:Nat)(bx lo tk:List Kd):List Ld:=nextK r i (oz bx tk r) (lo++putK ms ps bx tk r)++Nf (oz bx tk r) lo (lo++putK ms ps bx tk r) r++GK r p.spans i bx
def KT(K:aC)(H:Hp)(t:Addr)(ks:List Kd):Prop:=∃xs,bz K H t xs/\fc K H xs ks
abbrev Ng(ms:bA)(ks js:List Kd):List Kd:=List.zipWith (join ms) ks js
theorem vj{ms:bA}{k:Kd}{c m:Nat}(h:below ms k (.raw c m)=true):∃m',k=.raw c m':=by
 cases k with
 | raw c' m' =>
  simp[below]at h;exact⟨m',by rw[h.1]⟩
 | any=>simp[below]at h
 | num=>simp[below]at h
 | whole c'=>simp[below]at h
theorem sJ{ms:bA}{ps:List Pt}{p:Pt}{r:Rw}{st:List Kd}(h:bW ms ps p r st=none):st.length=(st.length - (cq ms ps p r).length) + (cq ms ps p r).length/\Dh ms ps p r (st.drop (st.length - (cq ms ps p r).length)):=by
 unfold bW at h;split at h
 ·cases h
 rename_i h1;split at h
 ·cases h
 rename_i h2
 have h2':bV ms (st.drop (st.length - (cq ms ps p r).length)) (cq ms ps p r)=true:=by
  cases e:bV ms (st.drop (st.length - (cq ms ps p r).length)) (cq ms ps p r)with
  | true=>rfl
  | false=>exact absurd e h2
 refine⟨by omega,by rw[List.length_drop];omega,λc f e=>?_⟩;subst e;unfold bV at h2';obtain⟨a,b⟩:=Bool.and_eq_true_iff.mp h2';have a':=of_decide_eq_true a;rw[List.all_eq_true]at b;have l2:(cq ms ps p (.fill c f)).length=2:=rfl;generalize st.drop (st.length - (cq ms ps p (.fill c f)).length)=tk at a' b;obtain⟨k0,k1,rfl⟩:=Py (a'.trans l2);have z:=b (below ms k0 (.raw c 0)) (List.mem_of_getElem? (i:=0) rfl);obtain⟨m,rfl⟩:=vj z;exact⟨m,rfl⟩
def Vc:Option Str->PyData
 | none=>.none
 | some s=>.str s
abbrev Sd:=List Kd×List Kd
def Yw:Option Sd->PyData
 | none=>.none
 | some s=>jt s.1 s.2
def Tr(ms:bA)(g s:Sd):Sd:=(Ng ms g.1 s.1,Ng ms g.2 s.2)
def OG(ms:bA):Option Sd->Sd->Option Sd
 | none,s=>some s
 | some g,s=>if g.2.length=s.2.length then some (Tr ms g s)else none
abbrev WF:=List (Option Sd)
inductive sL(ms:bA):List Ld->WF->List Nat->WF->List Nat->Prop where
 | nil {F:WF} {w:List Nat}:sL ms [] F w F w
 | same {l:Ld} {r:List Ld} {F F':WF} {w w':List Nat} {a:Nat} {o:Option Sd} {s:Sd}:l.at'=(a:Int)->F[a]?=some o->OG ms o (l.bx,l.st)=some s->o=some s->sL ms r F w F' w'->sL ms (l::r) F w F' w'
 | more {l:Ld} {r:List Ld} {F F':WF} {w w':List Nat} {a:Nat} {o:Option Sd} {s:Sd}:l.at'=(a:Int)->F[a]?=some o->OG ms o (l.bx,l.st)=some s->o≠some s->sL ms r (F.set a (some s)) (w++[a]) F' w'->sL ms (l::r) F w F' w'
def kj(ms:bA)(ps:List Pt)(p:Pt)(r:Rw)(st:List Kd):Nat:=st.length - (cq ms ps p r).length
def wA(ms:bA)(ps:List Pt)(p:Pt)(r:Rw)(i:Nat)(s:Sd):List Ld:=Tq ms ps p r i s.1 (s.2.take (kj ms ps p r s.2)) (s.2.drop (kj ms ps p r s.2))
inductive Wd(ms:bA)(ps:List Pt)(p:Pt):WF->List Nat->Prop where
 | start:Wd ms ps p ((List.replicate p.rows.length none).set 0 (some (cf p,[]))) [0]
 | step {F F':WF} {w w':List Nat} {a:Nat} {s:Sd} {r:Rw}:Wd ms ps p F (w++[a])->F[a]?=some (some s)->p.rows[a]?=some r->bW ms ps p r s.2=none->sL ms (wA ms ps p r a s) F w F' w'->Wd ms ps p F' w'
inductive Ts(ms:bA)(ps:List Pt)(p:Pt):Nat->Str->Prop where
 | brk {F:WF} {w:List Nat} {a:Nat} {s:Sd} {r:Rw} {x:Str}:Wd ms ps p F (w++[a])->F[a]?=some (some s)->p.rows[a]?=some r->bW ms ps p r s.2=some x->Ts ms ps p a x
 | meet {F F':WF} {w w':List Nat} {a b:Nat} {s g:Sd} {r:Rw} {l:Ld} {ls rs:List Ld}:Wd ms ps p F (w++[a])->F[a]?=some (some s)->p.rows[a]?=some r->bW ms ps p r s.2=none->wA ms ps p r a s=ls++l::rs->sL ms ls F w F' w'->l.at'=(b:Int)->F'[b]?=some (some g)->g.2.length≠l.st.length->Ts ms ps p b "meet"
structure qL(zs:List Nat)(p:Pt)(s:Sd):Prop where
 bx:s.1.length=p.boxes
 st:s.2.length<=p.height
 k1:∀k∈s.1,cV zs k
 k2:∀k∈s.2,cV zs k
def Tt(zs:List Nat)(p:Pt)(F:WF):Prop:=F.length=p.rows.length/\∀(i:Nat) s,F[i]?=some (some s)->qL zs p s
theorem mz{zs:List Nat}{l:List Kd}(h:∀k∈l,cV zs k)(i:Nat):cV zs ((l[i]?).getD .any):=by
 cases e:l[i]? with
 | none=>trivial
 | some k=>exact h k (aaf e)
theorem B9{ms:bA}{ps:List Pt}{bx tk:List Kd}{zs:List Nat}{np nb nr:Nat}{r:Rw}(h:r.Ok zs np nb nr):((putK ms ps bx tk r).length:Int)=iX (cj r):=by
 cases r with
 | bare s =>
  have h:s∈cC:=h;simp only[cC,List.mem_cons,List.not_mem_nil,or_false]at h;rcases h with rfl | rfl | rfl | rfl | rfl | rfl | rfl | rfl | rfl | rfl | rfl | rfl | rfl<;>rfl
 | _=>rfl
theorem PK{ms:bA}{zs:List Nat}(g:Good ms zs){ps:List Pt}(hps:∀p∈ps,mJ zs ps.length p){p:Pt}{bx tk:List Kd}{r:Rw}{nb nr:Nat}(hok:r.Ok zs ps.length nb nr)(hb:∀k∈bx,cV zs k)(ht:∀k∈tk,cV zs k)(hk:Dh ms ps p r tk):∀k∈putK ms ps bx tk r,cV zs k:=by
 have one:∀x:Kd,cV zs x->∀k∈[x],cV zs k:=λx h k hk=>by rw[jr hk];exact h
 cases r with
 | push w=>exact one _ trivial
 | load b=>exact one _ (mz hb b)
 | store b=>exact λk hk=>nomatch hk
 | jump b=>exact λk hk=>nomatch hk
 | zero b=>exact λk hk=>nomatch hk
 | put c f=>exact λk hk=>nomatch hk
 | kin c t=>exact one _ (mz ht 0)
 | make c =>
  have hc:c < zs.length:=hok;exact one _ ⟨zs[c],cW hc,Nat.two_pow_pos _⟩
 | beg c=>exact one _ hok
 | get c f=>exact one _ (yz g c f)
 | fill c f =>
  obtain⟨z,hz,hf⟩:=hok;obtain⟨m,hm⟩:=hk.fill c f rfl;obtain⟨z',hz',hm'⟩:=ht _ (aaf hm);rw[hz]at hz';cases hz';refine one _ ⟨z,hz,?_⟩;rw[hm];exact Nat.or_lt_two_pow hm' (Nat.pow_lt_pow_right (by decide) hf)
 | call q =>
  refine one _ ?_
  cases e:ps[q]? with
  | none=>trivial
  | some p'=>exact(hps p' (aaf e)).gv
 | bare s =>
  have two:∀x y:Kd,cV zs x->cV zs y->∀k∈[x,y],cV zs k:=λx y hx hy k hk=>by
   rcases aap.mp hk with rfl | hk
   ·exact hx
   ·rw[jr hk];exact hy
  show ∀k∈(if s="dup" then [(tk[0]?).getD .any,(tk[0]?).getD .any]else if s="swap" then [(tk[1]?).getD .any,(tk[0]?).getD .any]else if s∈aX then [.num]else []),cV zs k;split
  ·exact two _ _ (mz ht 0) (mz ht 0)
  ·split
   ·exact two _ _ (mz ht 1) (mz ht 0)
   ·split
    ·exact one _ trivial
    ·exact λk hk=>nomatch hk
def Tu:Kd->Nat
 | .any=>0
 | .num=>1
 | .whole c=>c + 1
 | .raw _ m=>m + 1
def Nh(l:List Kd):Nat:=(l.map Tu).sum
def Tv(s:Sd):Nat:=Nh s.1 + Nh s.2
def Tw:Option Sd->Nat
 | none=>2000
 | some s=>Tv s
def Tx(F:WF):Nat:=(F.map Tw).sum
def fZ(l:List Nat):List PyData:=l.map λ(n:Nat)=>PyData.int (n:Int)
theorem Dj(l:List Nat)(x:Nat):fZ l++[.int (x:Int)]=fZ (l++[x]):=by unfold fZ;rw[List.map_append];rfl
theorem vk(l:List Nat):(fZ l).length=l.length:=aac ..
structure Yx(ms:bA)(zs:List Nat)(ps:List Pt)(p:Pt)(F:WF)(w:List Nat):Prop where
 wd:Wd ms ps p F w
 ok:Tt zs p F
 at':∀a∈w,∃s,F[a]?=some (some s)
 few:2 * Tx F + w.length<=400100
def GL(ms:bA)(s t:Sd):Prop:=bV ms s.1 t.1=true/\bV ms s.2 t.2=true
structure Tz(ms:bA)(zs:List Nat)(ps:List Pt)(p:Pt)(G:List Sd):Prop where
 len:G.length=p.rows.length
 ok:∀s∈G,qL zs p s
 ent:∃s,G[0]?=some s/\GL ms (cf p,[]) s
 row:∀(i:Nat) r s,p.rows[i]?=some r->G[i]?=some s->bW ms ps p r s.2=none/\∀l∈wA ms ps p r i s,∃(a:Nat) (t:Sd),l.at'=(a:Int)/\G[a]?=some t/\GL ms (l.bx,l.st) t
def Ws(ms:bA)(F:WF)(G:List Sd):Prop:=∀(i:Nat) s,F[i]?=some (some s)->∃t,G[i]?=some t/\GL ms s t
def PL(ms:bA)(ps:List Pt)(p:Pt)(F:WF)(a:Nat)(s:Sd)(r:Rw):Prop:=bW ms ps p r s.2=none/\∀l∈wA ms ps p r a s,∃(b:Nat) (t:Sd),l.at'=(b:Int)/\F[b]?=some (some t)/\GL ms (l.bx,l.st) t
def PM(p:Pt)(r:Rw)(i:Nat):List Int:=(nextK r i [] []++Nf [] [] [] r++GK r p.spans i []).map (·.at')
inductive Vd(p:Pt):Nat->Prop where
 | zero:Vd p 0
 | go {a b:Nat} {r:Rw}:Vd p a->p.rows[a]?=some r->(b:Int)∈PM p r a->Vd p b
structure Found(ms:bA)(zs:List Nat)(ps:List Pt)(p:Pt)(F:WF):Prop where
 ok:Tt zs p F
 ent:∃s,F[0]?=some (some s)/\GL ms (cf p,[]) s
 shut:∀(a:Nat) s r,F[a]?=some (some s)->p.rows[a]?=some r->PL ms ps p F a s r
 rch:∀i:Nat,(∃s,F[i]?=some (some s))↔Vd p i
 low:∀G,Tz ms zs ps p G->Ws ms F G
theorem mB{l:List Nat}{i v:Nat}(h:l[i]?=some v):kA (fZ l) (i:Int)=some (.int (v:Int)):=bO (f:=λ(n:Nat)=>PyData.int (n:Int)) h
theorem gZ(v:Int){m:Int}{n:Nat}(e:m=(n:Int))(h:0 < n):∃c:Nat,v % m=(c:Int)/\c < n:=by
 subst e;have a:=aaV v (show(n:Int)≠0 by omega);have b:=aaO v (show(0:Int) < (n:Int)by omega);exact⟨(v % (n:Int)).toNat,by omega,by omega⟩
theorem GN{α:Type}{fin:List PyData->aI->DC->Prop}{dg:qj}{dt:DT}{de:DX}{xs:List PyData}{env:bQ}{aF:aI}{Q:DC}(P:α->Prop)(f:α->PyData)(hl:xs.length<=1000000)
  (hs:∀(i:Nat) d,xs[i]?=some d->∀(W:PyData->Prop) (N:Prop),(∀a,P a->W (f a))->dg (.dat d) env aF λgk bJ=>bJ=aF/\dt gk aF λb kc=>kc=aF/\if b=true then de gk aF λy vS=>mL y vS λdy zw=>zw=aF/\W dy else N)
  (hd:∀as:List α,as.length=xs.length->(∀a∈as,P a)->fin (as.map f) aF Q):U5 fin dg dt de xs (λ_=>True) env aF Q:=by
 refine FX (λi ys=>∃as:List α,ys=as.map f/\as.length=i/\∀a∈as,P a) hl ⟨[],rfl,rfl,(λ_ h=>nomatch h)⟩ (λi ys d hd' hy=>?_) (λys hy=>?_)
 ·obtain⟨as,rfl,ha,hp⟩:=hy;refine hs i d hd' (λdy=>∃bs:List α,as.map f++[dy]=bs.map f/\bs.length=i + 1/\∀a∈bs,P a) _ λa h=>⟨as++[a],by rw[List.map_append];rfl,by simp[ha],λb hb=>?_⟩
  rcases aaE.mp hb with z | z
  ·exact hp b z
  ·rw[jr z];exact h
 ·obtain⟨as,rfl,ha,hp⟩:=hy;exact hd as ha hp
theorem GO{α:Type}{fin:List PyData->aI->DC->Prop}{dg:qj}{dt:DT}{de:DX}{xs:List PyData}{env:bQ}{aF:aI}{Q:DC}(as:List α)(g f:α->PyData)(hx:xs=as.map g)(hl:as.length<=1000000)
  (hs:∀(i:Nat) a,as[i]?=some a->∀(P:PyData->Prop) (N:Prop),P (f a)->dg (.dat (g a)) env aF λgk bJ=>bJ=aF/\dt gk aF λb kc=>kc=aF/\if b=true then de gk aF λy vS=>mL y vS λdy zw=>zw=aF/\P dy else N)
  (hd:fin (as.map f) aF Q):U5 fin dg dt de xs (λ_=>True) env aF Q:=by
 subst hx;refine FX (λi ys=>ys=(as.take i).map f) (by rw[List.length_map];exact hl) (by simp) (λi ys d hd' hy=>?_) (λys hy=>?_)
 ·rw[aaq]at hd'
  cases w:as[i]? with
  | none=>rw[w]at hd';cases hd'
  | some a =>
   rw[w]at hd';cases hd';refine hs i a w (λdy=>ys++[dy]=(as.take (i + 1)).map f) (ys=(as.take (i + 1)).map f) ?_;rw[hy,ace,w,aa6];rfl
 ·rw[aac,List.take_length]at hy;rw[hy];exact hd
theorem iY(p:Pt):eF p=.tuple [.list (aA p.takes),.tuple (cH p.gives),.int (p.boxes:Int),.int (p.height:Int),.list (p.rows.map ki),.list (p.spans.map Tn)]:=rfl
theorem lh(ms:bA)(ps:List Pt):oy ms ps=.tuple [eE ms,.list (ps.map eF)]:=rfl
theorem jJ(ms:bA):eE ms=.list (ms.map ve):=rfl
theorem Yy{b:Bool}{A B:Prop}(h:b=true)(a:A):if b=true then A else B:=by rw[aan h];exact a
theorem TB{b:Bool}{A B:Prop}(h:b=false)(a:B):if b=true then A else B:=by rw[h];exact a
theorem qM{b:Bool}{A B:Prop}(h:b=false)(a:A):if (!b)=true then A else B:=by rw[h];exact a
theorem oA{b:Bool}{A B:Prop}(h:b=true)(a:B):if (!b)=true then A else B:=by rw[h];exact a
theorem Ab{α:Type}(a:α):∀n:Nat,(List.replicate n [a]).flatten=List.replicate n a
 | 0=>rfl
 | n + 1=>by rw[aaB,aaQ,Ab a n,aaB];rfl
theorem Ca{α:Type}{l:List α}{i:Nat}{x:α}(h:l[i]?=some x):l.drop i=x::l.drop (i + 1):=by
 obtain⟨h1,h2⟩:=bX h;rw[List.drop_eq_getElem_cons h1,h2]
theorem gp{K:aC}{T:MX}(mo:e9 T){vs:List V}{ds:List PyData}{H:Hp}{Q:VK}(h:cu (aO K H) vs ds)(t:T ds λd=>∀v H',aK H H'->aO K H' v d->Q v H'):pE K T vs H Q E0:=⟨λ_=>False,ds,(λ_ h=>h.elim),h.imp λ_ _ z=>FR z,mo _ _ _ (λd f v H' s r=>f v H' s r.now) t⟩
theorem Good.Wt{sh:List (Option Nat×Nat)}{zs:List Nat}{ms:bA}(hO:yw sh zs)(h8:sh.length<=8)(hlen:ms.length=sh.length)(get:∀(i:Nat) m,ms[i]?=some m->∃s,sh[i]?=some s/\m.1=s.1/\m.2.length=s.2/\∀k∈m.2,cV zs k):Good ms zs:=by
 have hl:=hO.len;refine⟨⟨by rw[hlen];exact hO.ne,by omega,λm hm=>?_,λi m hm hi=>?_⟩,by omega,λm hm=>?_,hO.z0,hO.six,λi m hi hm=>?_,λi m hm=>(get i m hm).choose_spec.2.2.2⟩
 ·obtain⟨s,e1,e2,_⟩:=get 0 m hm;rw[hO.s0]at e1;cases e1;exact e2
 ·obtain⟨s,e1,e2,_⟩:=get i m hm;obtain⟨j,z,f1,f2,_⟩:=hO.go i s hi e1;exact⟨j,by rw[e2];exact f1,f2⟩
 ·obtain⟨s,e1,_,e3,_⟩:=get 0 m hm;rw[hO.s0]at e1;cases e1;exact aa8.mp e3
 ·obtain⟨s,e1,e2,e3,_⟩:=get i m hm;obtain⟨j,z,f1,f2,f3,f4⟩:=hO.go i s hi e1;exact⟨j,z,by rw[e2];exact f1,f2,f3,by rw[e3];exact f4⟩
theorem yw.one:yw [(none,0)] [0]:=⟨rfl,by decide,rfl,rfl,λz hz=>by simp at hz;omega,λi s hi hs=>by
 have:i < 1:=(bX hs).1;omega⟩
theorem wB{α:Type}{f:α->PyData}(xs:List α)(n:Nat):cutD (xs.map f) none (some (n:Int))=(xs.take n).map f:=by
 unfold cutD;rw[HT.kz,HT.mj,List.drop_zero,Nat.sub_zero,← List.map_take,List.length_map]
 congr 1
 exact List.take_eq_take_iff.mpr (by omega)
theorem GP(n:Nat):wc 0 ((n:Nat):Int).toNat=(List.range n).map λ(k:Nat)=>PyData.int (0 + (k:Int)):=by
 unfold wc;rw[Int.toNat_natCast]
theorem wC(xs:List PyData)(a b:Option Int):(cutD xs a b).length<=xs.length:=by
 unfold cutD;rw[List.length_take,List.length_drop];omega
theorem vn{α:Type}{f:α->PyData}(xs:List α)(n:Nat):cutD (xs.map f) (some (n:Int)) none=(xs.drop n).map f:=by
 unfold cutD;rw[HT.kz,HT.mj,List.length_map,List.map_drop,List.take_of_length_le (by rw[List.length_drop,List.length_map];omega)];by_cases h:n<=xs.length
 ·rw[Nat.min_eq_left h]
 ·rw[Nat.min_eq_right (by omega),List.drop_eq_nil_of_le (by simp),List.drop_eq_nil_of_le (by simp;omega)]
theorem TC(a b c d e f:PyData):cutD [a,b,c,d,e,f] (some 3) none=[d,e,f]:=rfl
theorem TH(a b c d e f:PyData):cutD [a,b,c,d,e,f] none (some 3)=[a,b,c]:=rfl
def doneK(ms:bA)(ps:List Pt)(p:Pt)(r:Rw)(s:Sd):Option Str×Sd:=match bW ms ps p r s.2 with
 | none=>(none,(oz s.1 (s.2.drop (kj ms ps p r s.2)) r,s.2.take (kj ms ps p r s.2)++putK ms ps s.1 (s.2.drop (kj ms ps p r s.2)) r))
 | some w=>(some w,s)
def cR(ms:bA)(ps:List Pt)(p:Pt):Nat->List Rw->Sd->Option (Nat×Str)
 | _,[],_=>none
 | i,r::rs,s=>match doneK ms ps p r s with
  | (some w,_)=>some (i,w)
  | (none,s')=>if cj r∈nv then none else cR ms ps p (i + 1) rs s'
def yC(j:Nat):Option (Nat×Str)->PyData
 | none=>.none
 | some x=>.tuple [.int (j:Int),.int (x.1:Int),.str x.2]
theorem gF{ms:bA}{ps:List Pt}{p:Pt}{r:Rw}{s:Sd}{w:Str}(h:bW ms ps p r s.2=some w):doneK ms ps p r s=(some w,s):=by
 unfold doneK;rw[h]
theorem done_none{ms:bA}{ps:List Pt}{p:Pt}{r:Rw}{s:Sd}(h:bW ms ps p r s.2=none):doneK ms ps p r s=(none,(oz s.1 (s.2.drop (kj ms ps p r s.2)) r,s.2.take (kj ms ps p r s.2)++putK ms ps s.1 (s.2.drop (kj ms ps p r s.2)) r)):=by
 unfold doneK;rw[h]
theorem rB{ms:bA}{zs:List Nat}(g:Good ms zs){ps:List Pt}(hps:∀p∈ps,mJ zs ps.length p){p:Pt}{r:Rw}{nr:Nat}{s:Sd}(hr:r.Ok zs ps.length p.boxes nr)(hs:qL zs p s):qL zs p (doneK ms ps p r s).2:=by
 cases hb:bW ms ps p r s.2 with
 | some w=>rw[gF hb];exact hs
 | none =>
  rw[done_none hb];obtain⟨e1,tk⟩:=sJ hb;have ht:∀k∈s.2.drop (kj ms ps p r s.2),cV zs k:=λk hk=>hs.k2 k (abZ hk)
  have hput:=PK g hps (p:=p) hr hs.k1 ht tk;refine⟨?_,?_,λk hk=>?_,λk hk=>?_⟩
  ·have:∀tk,(oz s.1 tk r).length=s.1.length:=λtk=>by cases r<;>first | rfl | exact aaz ..
   rw[this];exact hs.bx
  ·have PN:=hb;unfold bW at PN;have pl:=B9 (ms:=ms) (ps:=ps) (bx:=s.1) (tk:=s.2.drop (kj ms ps p r s.2)) hr;show(s.2.take (kj ms ps p r s.2)++putK ms ps s.1 (s.2.drop (kj ms ps p r s.2)) r).length<=p.height;rw[List.length_append,List.length_take];split at PN
   ·cases PN
   ·split at PN
    ·cases PN
    ·split at PN
     ·cases PN
     ·rename_i h;unfold kj at pl ⊢;omega
  ·have:∀ts:List Kd,(∀k∈ts,cV zs k)->∀k∈oz s.1 ts r,cV zs k:=λts hts k hk=>by
    cases r with
    | store b =>
     rcases aaU (show k∈s.1.set b ((ts[0]?).getD .any)from hk)with h | h
     ·exact hs.k1 k h
     ·rw[h]
      cases e:ts[0]? with
      | none=>exact trivial
      | some x=>exact hts x (aaf e)
    | _=>exact hs.k1 k hk
   exact this _ ht k hk
  ·rcases aaE.mp hk with h | h
   ·exact hs.k2 k (List.mem_of_mem_take h)
   ·exact hput k h
theorem sM{zs:List Nat}{np:Nat}{p:Pt}(h:mJ zs np p):qL zs p (cf p,[]):=by
 have tb:=h.tb;refine⟨?_,aaX _,λk hk=>?_,λk hk=>nomatch hk⟩
 ·show(p.takes++List.replicate (p.boxes - p.takes.length) Kd.any).length=_;rw[aaC,abT];omega
 ·rcases aaE.mp hk with e | e
  ·exact h.tk k e
  ·rw[acv e];exact trivial
def dC(st:List Kd):List Kd:=st.drop (st.length - 1)
def jk(st:List Kd):List Kd:=(st.drop (st.length - 2)).take ((st.length - 1) - (st.length - 2))
def yD(c f:Nat):Kd->Option Kd
 | .raw _ m=>some (.raw c (m ||| 2 ^ f))
 | _=>none
def putD(ms:bA)(ps:List Pt)(bx st:List Kd):Rw->List Kd
 | .fill c f=>(jk st).filterMap (yD c f)
 | .bare s=>if s="dup" then dC st++dC st else if s="swap" then dC st++jk st else if s∈aX then [.num]else []
 | r=>putK ms ps bx [] r
theorem wD(n d k:Nat)(h:0 < k):HT.eh n d (some (-(k:Int)))=n - k:=by
 show(if (-(k:Int)) < 0 then((-(k:Int)) + (n:Int)).toNat else min (-(k:Int)).toNat n)=_;rw[aan (by omega)];omega
theorem Cb(st:List Kd):cutD (aA st) (some (-1)) none=aA (dC st):=by
 unfold cutD dC;rw[HT.kz,show(-1:Int)=-((1:Nat):Int)from rfl,wD _ _ _ (by decide),List.length_map,aA,aA,List.map_drop];exact List.take_of_length_le (by simp)
theorem Cc(st:List Kd):cutD (aA st) (some (-2)) (some (-1))=aA (jk st):=by
 unfold cutD jk;rw[show(-1:Int)=-((1:Nat):Int)from rfl,show(-2:Int)=-((2:Nat):Int)from rfl,wD _ _ _ (by decide),wD _ _ _ (by decide),List.length_map,aA,aA,List.map_take,List.map_drop]
theorem Wu{ms:bA}{ps:List Pt}{p:Pt}{s:Str}(h:s∈aX):cq ms ps p (.bare s)=[.num,.num]:=by
 have a1:=(by decide +kernel:∀s∈aX,s∉(["dup","drop"]:List Str)) s h;have a2:=(by decide +kernel:∀s∈aX,s≠"swap") s h;show(if s∈(["dup","drop"]:List Str)then [Kd.any]else if s="swap" then [.any,.any]else if s∈aX then [.num,.num]else if s∈(["toss","say"]:List Str)then [.num]else [p.gives])=_;rw[aak a1,aak a2,aan h]
theorem Wv{ms:bA}{ps:List Pt}{bx st:List Kd}{s:Str}(h:s∈aX):putD ms ps bx st (.bare s)=[.num]:=by
 have a1:=(by decide +kernel:∀s∈aX,s≠"dup") s h;have a2:=(by decide +kernel:∀s∈aX,s≠"swap") s h;show(if s="dup" then dC st++dC st else if s="swap" then dC st++jk st else if s∈aX then [.num]else [])=_;rw[aak a1,aak a2,aan h]
theorem KO{zs:List Nat}{np nb nr:Nat}{r:Rw}(h:r.Ok zs np nb nr)(e:cj r="push"):∃w,r=.push w:=by
 cases r with
 | push w=>exact⟨w,rfl⟩
 | bare s=>exact absurd e ((by decide +kernel:∀s∈cC,¬ s="push") s h)
 | _=>dsimp only[cj]at e;exact absurd e (by decide +kernel)
theorem wF(st:List Kd):(dC st).length<=1:=by unfold dC;rw[List.length_drop];omega
theorem wG(st:List Kd):(jk st).length<=1:=by unfold jk;rw[List.length_take];omega
theorem fH(a b:List Kd):aA (a++b)=aA a++aA b:=aa6
theorem Ac{ms:bA}{ps:List Pt}{p:Pt}{s:Str}(h:s∈(["dup","drop"]:List Str)):cq ms ps p (.bare s)=[.any]:=by
 show(if s∈(["dup","drop"]:List Str)then [Kd.any]else _)=_;rw[aan h]
theorem PQ{ms:bA}{ps:List Pt}{p:Pt}{s:Str}(h:s∈(["toss","say"]:List Str)):cq ms ps p (.bare s)=[.num]:=by
 have a1:=(by decide +kernel:∀s∈(["toss","say"]:List Str),s∉(["dup","drop"]:List Str)/\s≠"swap"/\s∉aX) s h;show(if s∈(["dup","drop"]:List Str)then [Kd.any]else if s="swap" then [.any,.any]else if s∈aX then [.num,.num]else if s∈(["toss","say"]:List Str)then [.num]else [p.gives])=_;rw[aak a1.1,aak a1.2.1,aak a1.2.2,aan h]
theorem GQ{ms:bA}{ps:List Pt}{p:Pt}:cq ms ps p (.bare "give")=[p.gives]:=by
 show(if ("give" : Str)∈(["dup","drop"]:List Str)then [Kd.any]else if ("give" : Str)="swap" then [.any,.any]else if ("give" : Str)∈aX then [.num,.num]else if ("give" : Str)∈(["toss","say"]:List Str)then [.num]else [p.gives])=_;rw[aak (by decide +kernel),aak (by decide +kernel),aak (by decide +kernel),aak (by decide +kernel)]
theorem Ad{ms:bA}{ps:List Pt}{bx st:List Kd}{s:Str}(h:s≠"dup"/\s≠"swap"/\s∉aX):putD ms ps bx st (.bare s)=[]:=by
 show(if s="dup" then dC st++dC st else if s="swap" then dC st++jk st else if s∈aX then [.num]else [])=_;rw[aak h.1,aak h.2.1,aak h.2.2]
theorem KP{ms:bA}{zs:List Nat}(g:Good ms zs){np nb nr:Nat}{r:Rw}(h:r.Ok zs np nb nr)(hgo:cj r∉km)(n1:cj r∉aX)(n2:cj r∉(["push","jump"]:List Str))(n3:¬ cj r="load")(n4:cj r∉(["store","drop"]:List Str))(n5:¬ cj r="dup")(n6:¬ cj r="swap")(n7:cj r∉(["zero","toss","say"]:List Str))(n9:¬ cj r="call")(TJ:¬ cj r="give"):
  ∃c,c < ms.length/\((r=.make c)∨(r=.beg c)∨(∃f,f < (fields ms c).length/\(r=.get c f∨r=.put c f∨r=.fill c f))):=by
 have fl:∀c f,(∃z,zs[c]?=some z/\f < z)->c < ms.length/\f < (fields ms c).length:=λc f ⟨z,h1,h2⟩=>by
  have hc:c < ms.length:=by rw[g.len];exact(bX h1).1
  obtain⟨z',a1,a2⟩:=g.fk c hc;rw[h1]at a1;cases a1;exact⟨hc,by omega⟩
 cases r with
 | push w=>exact absurd (show("push" : Str)∈(["push","jump"]:List Str)by decide +kernel) n2
 | load w=>exact absurd rfl n3
 | store w=>exact absurd (show("store" : Str)∈(["store","drop"]:List Str)by decide +kernel) n4
 | jump w=>exact absurd (show("jump" : Str)∈km by decide +kernel) hgo
 | zero w=>exact absurd (show("zero" : Str)∈km by decide +kernel) hgo
 | kin c w=>exact absurd (show("kin" : Str)∈km by decide +kernel) hgo
 | make c=>exact⟨c,by rw[g.len];exact h,.inl rfl⟩
 | beg c=>exact⟨c,by rw[g.len];exact h,.inr (.inl rfl)⟩
 | get c f=>obtain⟨a,b⟩:=fl c f h;exact⟨c,a,.inr (.inr ⟨f,b,.inl rfl⟩)⟩
 | put c f=>obtain⟨a,b⟩:=fl c f h;exact⟨c,a,.inr (.inr ⟨f,b,.inr (.inl rfl)⟩)⟩
 | fill c f=>obtain⟨a,b⟩:=fl c f h;exact⟨c,a,.inr (.inr ⟨f,b,.inr (.inr rfl)⟩)⟩
 | call q=>exact absurd rfl n9
 | bare s =>
  have all:∀s∈cC,s∉aX->s∉(["store","drop"]:List Str)->¬ s="dup"->¬ s="swap"->s∉(["zero","toss","say"]:List Str)->¬ s="give"->False:=by decide +kernel
  exact(all s h n1 n4 n5 n6 n7 TJ).elim
theorem Cd{ms:bA}{ps:List Pt}{bx st:List Kd}:putD ms ps bx st (.bare "dup")=dC st++dC st:=by
 show(if ("dup" : Str)="dup" then dC st++dC st else if ("dup" : Str)="swap" then dC st++jk st else if ("dup" : Str)∈aX then [.num]else [])=_;rw[aan rfl]
theorem yE{ms:bA}{ps:List Pt}{bx st:List Kd}:putD ms ps bx st (.bare "swap")=dC st++jk st:=by
 show(if ("swap" : Str)="dup" then dC st++dC st else if ("swap" : Str)="swap" then dC st++jk st else if ("swap" : Str)∈aX then [.num]else [])=_;rw[aak (by decide +kernel),aan rfl]
theorem Cf{ms:bA}{ks js:List Kd}{i:Nat}{k o:Kd}(hk:ks[i]?=some k)(ho:js[i]?=some o)(h:below ms k o=false):bV ms ks js=false:=by
 unfold bV
 have:(List.zipWith (below ms) ks js).all id=false:=by
  rw[List.all_eq_false];refine⟨false,?_,by simp⟩;refine List.mem_of_getElem? (i:=i) ?_;rw[List.getElem?_zipWith,hk,ho,← h]
 rw[this,Bool.and_false]
theorem Dl{ms:bA}{ks js:List Kd}(hl:ks.length=js.length)(h:∀(i:Nat) k o,ks[i]?=some k->js[i]?=some o->below ms k o=true):bV ms ks js=true:=by
 unfold bV;rw[decide_eq_true hl,Bool.true_and,List.all_eq_true];intro b hb;obtain⟨i,hi⟩:=List.getElem?_of_mem hb;rw[List.getElem?_zipWith]at hi
 cases hk:ks[i]? with
 | none=>rw[hk]at hi;simp at hi
 | some k =>
  cases ho:js[i]? with
  | none=>rw[hk,ho]at hi;simp at hi
  | some o =>
   rw[hk,ho]at hi;have:=h i k o hk ho;simp at hi;rw[← hi,this];rfl
theorem Cg{α:Type}{l:List α}(h:1<=l.length):∃lo a,l=lo++[a]:=by
 obtain⟨a,ha⟩:∃a,l.drop (l.length - 1)=[a]:=Wm (by rw[aaW];omega);exact⟨l.take (l.length - 1),a,by rw[← ha,abU]⟩
theorem GR{α:Type}{l:List α}(h:2<=l.length):∃lo a b,l=lo++[a,b]:=by
 obtain⟨a,b,ha⟩:∃a b,l.drop (l.length - 2)=[a,b]:=Py (by rw[aaW];omega);exact⟨l.take (l.length - 2),a,b,by rw[← ha,abU]⟩
theorem sO(lo:List Kd)(a:Kd):dC (lo++[a])=[a]:=by
 unfold dC;rw[show(lo++[a]).length - 1=lo.length by simp,List.drop_left]
theorem Dm(lo:List Kd)(a b:Kd):dC (lo++[a,b])=[b]:=by
 rw[show lo++[a,b]=(lo++[a])++[b]by simp,sO]
theorem vp(lo:List Kd)(a b:Kd):jk (lo++[a,b])=[a]:=by
 unfold jk;rw[show(lo++[a,b]).length - 2=lo.length by simp,List.drop_left,show(lo++[a,b]).length - 1 - lo.length=1 by simp];rfl
theorem GS{ms:bA}{ps:List Pt}{bx tk:List Kd}:putK ms ps bx tk (.bare "dup")=[(tk[0]?).getD .any,(tk[0]?).getD .any]:=by
 show(if ("dup" : Str)="dup" then [(tk[0]?).getD .any,(tk[0]?).getD .any]else if ("dup" : Str)="swap" then [(tk[1]?).getD .any,(tk[0]?).getD .any]else if ("dup" : Str)∈aX then [Kd.num]else [])=_;rw[aan rfl]
theorem Dn{ms:bA}{ps:List Pt}{bx tk:List Kd}:putK ms ps bx tk (.bare "swap")=[(tk[1]?).getD .any,(tk[0]?).getD .any]:=by
 show(if ("swap" : Str)="dup" then [(tk[0]?).getD .any,(tk[0]?).getD .any]else if ("swap" : Str)="swap" then [(tk[1]?).getD .any,(tk[0]?).getD .any]else if ("swap" : Str)∈aX then [Kd.num]else [])=_;rw[aak (by decide +kernel),aan rfl]
theorem KQ{ms:bA}{ps:List Pt}{p:Pt}{zs:List Nat}{np nb nr:Nat}{r:Rw}{bx st:List Kd}(hok:r.Ok zs np nb nr)(hgo:cj r∉km)(h1:(cq ms ps p r).length<=st.length)(h2:bV ms (st.drop (st.length - (cq ms ps p r).length)) (cq ms ps p r)=true):putD ms ps bx st r=putK ms ps bx (st.drop (kj ms ps p r st)) r:=by
 unfold kj
 cases r with
 | kin c t=>exact absurd (show("kin" : Str)∈km by decide +kernel) hgo
 | fill c f =>
  have l2:(cq ms ps p (.fill c f)).length=2:=rfl;rw[l2]at h1 h2 ⊢;obtain⟨lo,a,b,rfl⟩:=GR h1;rw[show(lo++[a,b]).length - 2=lo.length by simp,List.drop_left]at h2 ⊢
  have z:below ms a (.raw c 0)=true:=by
   cases e:below ms a (.raw c 0)with
   | true=>rfl
   | false=>rw[Cf (i:=0) (k:=a) (o:=.raw c 0) rfl rfl e]at h2;cases h2
  obtain⟨m,rfl⟩:=vj z;show(jk (lo++[.raw c m,b])).filterMap (yD c f)=_;rw[vp];rfl
 | bare s =>
  have hb:s∈cC:=hok;by_cases e1:s="dup"
  ·subst e1;rw[Ac (by decide +kernel)]at h1 ⊢;obtain⟨lo,a,rfl⟩:=Cg h1;rw[Cd,sO,show(lo++[a]).length - ([Kd.any]:List Kd).length=lo.length by simp,List.drop_left];rw[GS];rfl
  ·by_cases e2:s="swap"
   ·subst e2;rw[pU]at h1 ⊢;obtain⟨lo,a,b,rfl⟩:=GR h1;rw[yE,Dm,vp,show(lo++[a,b]).length - ([Kd.any,Kd.any]:List Kd).length=lo.length by simp,List.drop_left];rw[Dn];rfl
   ·show(if s="dup" then _ else if s="swap" then _ else if s∈aX then [Kd.num]else [])=(if s="dup" then _ else if s="swap" then _ else if s∈aX then [Kd.num]else []);rw[aak e1,aak e2,aak e1,aak e2]
 | _=>rfl
theorem Dp{ms:bA}{ps:List Pt}{p:Pt}{bx st:List Kd}{b:Nat}(h1:1<=st.length)(hb:b < bx.length):cutD (aA bx) none (some (b:Int))++cutD (aA st) (some (-1)) none++cutD (aA bx) (some ((b:Int) + 1)) none=aA (oz bx (st.drop (kj ms ps p (.store b) st)) (.store b)):=by
 have e2:cutD (aA bx) (some ((b:Int) + 1)) none=aA (bx.drop (b + 1)):=vn bx (b + 1);have e1:cutD (aA bx) none (some (b:Int))=aA (bx.take b):=wB bx b;rw[Cb,e1,e2,← fH,← fH];obtain⟨lo,a,rfl⟩:=Cg h1;rw[sO]
 have e3:(lo++[a]).drop (kj ms ps p (.store b) (lo++[a]))=[a]:=by
  unfold kj;rw[show(lo++[a]).length - (cq ms ps p (.store b)).length=lo.length by simp[cq],List.drop_left]
 rw[e3];show aA (bx.take b++[a]++bx.drop (b + 1))=aA (bx.set b a);rw[abN,aan hb,abp];rfl
theorem GU(ms:bA)(ps:List Pt)(bx st:List Kd)(r:Rw):(putD ms ps bx st r).length<=2:=by
 have t1:=wF st;have t2:=wG st
 cases r with
 | fill c f =>
  show((jk st).filterMap (yD c f)).length<=2;have:=List.length_filterMap_le (yD c f) (jk st);omega
 | bare s =>
  show(if s="dup" then dC st++dC st else if s="swap" then dC st++jk st else if s∈aX then [Kd.num]else []).length<=2;split
  ·rw[aaC];omega
  ·split
   ·rw[aaC];omega
   ·split<;>simp
 | push w=>exact eA (ms:=ms) (ps:=ps) (bx:=bx) (tk:=[]) (r:=.push w)
 | load w=>exact eA (ms:=ms) (ps:=ps) (bx:=bx) (tk:=[]) (r:=.load w)
 | store w=>exact eA (ms:=ms) (ps:=ps) (bx:=bx) (tk:=[]) (r:=.store w)
 | jump w=>exact eA (ms:=ms) (ps:=ps) (bx:=bx) (tk:=[]) (r:=.jump w)
 | zero w=>exact eA (ms:=ms) (ps:=ps) (bx:=bx) (tk:=[]) (r:=.zero w)
 | kin c w=>exact eA (ms:=ms) (ps:=ps) (bx:=bx) (tk:=[]) (r:=.kin c w)
 | make c=>exact eA (ms:=ms) (ps:=ps) (bx:=bx) (tk:=[]) (r:=.make c)
 | beg c=>exact eA (ms:=ms) (ps:=ps) (bx:=bx) (tk:=[]) (r:=.beg c)
 | get c f=>exact eA (ms:=ms) (ps:=ps) (bx:=bx) (tk:=[]) (r:=.get c f)
 | put c f=>exact eA (ms:=ms) (ps:=ps) (bx:=bx) (tk:=[]) (r:=.put c f)
 | call w=>exact eA (ms:=ms) (ps:=ps) (bx:=bx) (tk:=[]) (r:=.call w)
def dD(zs:List Nat)(np nb:Nat)(r:Rw):Prop:=(∀nr,r.Ok zs np nb nr)/\cj r∉km
theorem KR{α:Type}(lo:List α)(a:α):kA (lo++[a]) (-1)=some a:=by
 unfold kA xR;rw[if_neg (by omega),if_pos (by simp;omega)];have:((-1:Int) + (((lo++[a]).length:Nat):Int)).toNat=lo.length:=by simp;omega
 show((lo++[a])[((-1:Int) + (((lo++[a]).length:Nat):Int)).toNat]?)=some a;rw[this];simp
theorem KS{α:Type}(lo:List α)(a b:α):kA (lo++[a,b]) (-2)=some a:=by
 unfold kA xR;rw[if_neg (by omega),if_pos (by simp;omega)];have:((-2:Int) + (((lo++[a,b]).length:Nat):Int)).toNat=lo.length:=by simp;omega
 show((lo++[a,b])[((-2:Int) + (((lo++[a,b]).length:Nat):Int)).toNat]?)=some a;rw[this];simp
theorem GV(lo:List Kd)(a:Kd):kA (aA (lo++[a])) (-1)=some (.tuple (cH a)):=by rw[fH];exact KR ..
theorem TK(lo:List Kd)(a b:Kd):kA (aA (lo++[a,b])) (-2)=some (.tuple (cH a)):=by rw[fH];exact KS ..
theorem jl{zs:List Nat}{np nb:Nat}{w:Int}(h0:-2147483648<=w)(h1:w < 2147483648):dD zs np nb (.push w):=⟨λ_=>⟨h0,h1⟩,(by decide +kernel:("push" : Str)∉km)⟩
theorem mC{zs:List Nat}{np nb c:Nat}(h:c < zs.length):dD zs np nb (.make c):=⟨λ_=>h,(by decide +kernel:("make" : Str)∉km)⟩
theorem yF{zs:List Nat}{np nb c:Nat}(h:c < zs.length):dD zs np nb (.beg c):=⟨λ_=>h,(by decide +kernel:("begin" : Str)∉km)⟩
theorem vq{zs:List Nat}{np nb c:Nat}(h:c < np):dD zs np nb (.call c):=⟨λ_=>h,(by decide +kernel:("call" : Str)∉km)⟩
theorem vv{zs:List Nat}{np nb c:Nat}(h:c < nb):dD zs np nb (.load c):=⟨λ_=>h,(by decide +kernel:("load" : Str)∉km)⟩
theorem sP{zs:List Nat}{np nb c:Nat}(h:c < nb):dD zs np nb (.store c):=⟨λ_=>h,(by decide +kernel:("store" : Str)∉km)⟩
theorem fq{zs:List Nat}{np nb:Nat}{s:Str}(h:s∈cC):dD zs np nb (.bare s):=⟨λ_=>h,(by decide +kernel:∀s∈cC,s∉km) s h⟩
theorem sQ{ms:bA}{zs:List Nat}(g:Good ms zs){np nb c f:Nat}(hc:c < ms.length)(hf:f < (fields ms c).length):dD zs np nb (.get c f)/\dD zs np nb (.put c f)/\dD zs np nb (.fill c f):=by
 obtain⟨z,h1,h2⟩:=g.fk c hc;have h:∃z,zs[c]?=some z/\f < z:=⟨z,h1,by omega⟩;exact⟨⟨λ_=>h,(by decide +kernel:("get" : Str)∉km)⟩,⟨λ_=>h,(by decide +kernel:("put" : Str)∉km)⟩,⟨λ_=>h,(by decide +kernel:("fill" : Str)∉km)⟩⟩
theorem Ni(k:Kd):Sh 1 (.tuple (cH k)):=by
 cases k with
 | num=>exact iT (bI pL jF)
 | any=>exact iT (bI pL jF)
 | whole c=>exact iT (bI pL (bI fU jF))
 | raw c m=>exact iT (bI pL (bI fU (bI fU jF)))
theorem Ae(l:List Kd):Sh 2 (.list (aA l)):=om (pM λk _=>Ni k)
theorem TL{zs:List Nat}{np nb nr:Nat}{r:Rw}(h:r.Ok zs np nb nr):Sh 1 (ki r):=by
 have hs:PyData.canLay0 (.str (cj r))=true:=(by decide +kernel:∀s∈dQ,PyData.canLay0 (.str s)=true) _ (rw_sign h);exact iT (bI (pL hs) (pM λ_ _=>fU))
def Af:List Str:=["dup","swap","drop","add","sub","mul","div","rem","less","same","say"]
theorem yG:Txt.split "dup swap drop add sub mul div rem less same say" " "=Af:=by decide +kernel
theorem GW{c:Bool}{A B C:Prop}(a:A)(h:A->C):if c=true then(if true=true then A else B)else C:=by
 cases c
 ·exact h a
 ·exact a
theorem KU{zs:List Nat}{np nb:Nat}{r:Rw}(hr:dD zs np nb r)(h:cj r∉(["toss","give"]:List Str)):cj r∉nv:=λz=>by
 rcases aap.mp z with e | e
 ·exact hr.2 (by rw[e];decide +kernel)
 ·exact h e
def TM:List Str:=["push","load","load","store","dup","swap","drop","add","sub","mul","div","rem","less","same","jump","zero","zero"]
def TN:List Str:=["kin","kin","make","make","fill","fill","fill","begin","begin","get","put","put","call","call","toss","say","give"]
def Ci:List Str:=TM++TN
theorem Ag:Txt.split (("push load load store dup swap drop add sub mul div rem less same jump zero zero kin kin make make" : Str)++(" fill fill fill begin begin get put put call call toss say give" : Str)) " "=Ci:=by decide +kernel
def PR:List Str:=(["load","store"]:List Str)++((["jump","zero"]:List Str)++((["make","begin","fill","get","put"]:List Str)++(["push","kin","call"]:List Str)))
theorem Dq(s:Str)(h:s∈Ci)(h1:¬ s="push")(h2:s∉(["load","store"]:List Str))(h3:s∉(["jump","zero"]:List Str))(h4:¬ s="kin")(h5:s∉(["make","begin","fill","get","put"]:List Str))(h6:¬ s="call"):s∈cC:=by
 rcases (by decide +kernel:∀s∈Ci,s∈PR∨s∈cC) s h with z | z
 ·rcases aaE.mp z with y | z
  ·exact absurd y h2
  ·rcases aaE.mp z with y | z
   ·exact absurd y h3
   ·rcases aaE.mp z with y | z
    ·exact absurd y h5
    ·rcases aap.mp z with y | z
     ·exact absurd y h1
     ·rcases aap.mp z with y | z
      ·exact absurd y h4
      ·exact absurd (jr z) h6
 ·exact z
theorem Dr(xs:List PyData)(a b:Nat):(cutD xs (some (a:Int)) (some (b:Int))).length<=b - a:=by
 unfold cutD;rw[HT.mj,HT.mj,List.length_take];omega
theorem ex9{α:Type}{l:List α}(h:l.length=9):∃a0 a1 a2 a3 a4 a5 a6 a7 a8,l=[a0,a1,a2,a3,a4,a5,a6,a7,a8]:=by
 obtain⟨a0,a1,a2,a3,a4,a5,h6⟩:∃a0 a1 a2 a3 a4 a5,l.take 6=[a0,a1,a2,a3,a4,a5]:=Ti (by rw[aaG,h];rfl);obtain⟨a6,a7,a8,h3⟩:∃a6 a7 a8,l.drop 6=[a6,a7,a8]:=Wn (by rw[aaW,h]);exact⟨a0,a1,a2,a3,a4,a5,a6,a7,a8,by rw[← abU 6 l,h6,h3];rfl⟩
def yH(H H':Hp):Prop:=∀a o,H a=some o->¬ jd o->H' a=some o
theorem jm{H:Hp}{L:Addr}{ys:List V}(h:H L=some (.lst ys))(zs:List V):yH H (upd H L (.lst zs)):=λa o e n=>by
 have:a≠L:=λz=>n (by rw[z,h]at e;cases e;exact .inl ⟨_,rfl⟩)
 rw[uN this];exact e
theorem vw{P:Addr->Prop}{H:Hp}(h:∀c,P c->∃o,H c=some o/\jd o):yH H (cutH P H):=λa o e n=>bG.mpr ⟨λz=>by
 obtain⟨o',e',m⟩:=h a z;rw[e]at e';cases e';exact n m,e⟩
theorem qo{xs:List V}:¬ jd (.tup xs):=λz=>by rcases z with⟨_,z⟩ | ⟨_,_,_,z⟩ | ⟨_,z⟩<;>cases z
theorem yI{o:Obj}{u:HO}:¬ jd (.mL o u):=λz=>by rcases z with⟨_,z⟩ | ⟨_,_,_,z⟩ | ⟨_,z⟩<;>cases z
theorem bz.move{K:aC}{H H':Hp}{a:Addr}{xs:List V}(k:yH H H')(h:bz K H a xs):bz K H' a xs:=by
 rcases h with(h | ⟨u,h⟩) | h
 ·exact .inl (.inl (k _ _ h qo))
 ·exact .inl (.inr ⟨u,k _ _ h yI⟩)
 ·exact .inr h
theorem rw_move{K:aC}{H H':Hp}{v:V}{r:Rw}(k:yH H H')(h:aO K H v (ki r)):aO K H' v (ki r):=by
 obtain⟨a,xs,rfl,hT,hA⟩:=aO.bq (show aO K H v (.tuple (.str (cj r)::(wz r).map PyData.int))from h);refine .tup (bz.move k hT) hA.1 λi x d h1 h2=>?_
 have z:=hA.2 i x d h1 h2
 have hd:(∃s,d=.str s)∨∃n,d=.int n:=by
  rcases aap.mp (aaf h2)with e | e
  ·exact .inl ⟨_,e⟩
  ·obtain⟨n,_,e⟩:=acu.mp e;exact .inr ⟨n,e.symm⟩
 rcases hd with⟨s,rfl⟩ | ⟨n,rfl⟩
 ·cases z;exact .str _
 ·cases z;exact .int _
theorem oB{K:aC}{H H':Hp}{ys:List V}{rs:List Rw}(k:yH H H')(h:aP K H ys (rs.map ki)):aP K H' ys (rs.map ki):=⟨h.1,λi x d h1 h2=>by
 obtain⟨r,_,rfl⟩:=jE h2;exact rw_move k (h.2 i x _ h1 h2)⟩
def sR(zs:List Nat)(np nb:Nat)(rs:List Rw):Prop:=rs.length<=60/\2<=rs.length/\(∀r∈rs,dD zs np nb r)/\∃lo e,rs=lo++[Rw.bare e]/\(e="toss"∨e="give")
structure jK(K:aC)(H:Hp)(L:Addr)(ys:List V)(rs:List Rw):Prop where
 at':H L=some (.lst ys)
 it:aP K H ys (rs.map ki)
theorem jK.same{K:aC}{H H':Hp}{L:Addr}{ys:List V}{rs:List Rw}(h:jK K H L ys rs)(s:aK H H'):jK K H' L ys rs:=⟨s _ _ h.at',h.it.same s⟩
theorem jK.put{K:aC}{H:Hp}{L:Addr}{ys:List V}{rs:List Rw}(h:jK K H L ys rs){v:V}{r:Rw}(hv:aO K H v (ki r))(m:Nat):jK K (upd H L (.lst (ys.set m v))) L (ys.set m v) (rs.set m r):=by
 have k:=jm h.at' (ys.set m v);refine⟨uS,?_⟩;rw[List.map_set];exact cu.set (oB k h.it) (rw_move k hv) m
theorem yJ{H1 H:Hp}{L:Addr}{o:HO}(s:aK H1 H)(n:H1 L=none):aK H1 (upd H L o):=λc u e=>by rw[uN (nN e n)];exact s c u e
theorem sR.last{zs:List Nat}{np nb:Nat}{rs:List Rw}(h:sR zs np nb rs):sR zs np nb (rs.set (rs.length - 1) (.bare "give")):=by
 obtain⟨h1,h2,h3,lo,e,rfl,_⟩:=h
 have es:(lo++[Rw.bare e]).set ((lo++[Rw.bare e]).length - 1) (.bare "give")=lo++[Rw.bare "give"]:=by
  rw[show(lo++[Rw.bare e]).length - 1=lo.length by simp,List.set_append_right _ _ (Nat.le_refl _),Nat.sub_self];rfl
 rw[es];refine⟨by simp at h1 ⊢;omega,by simp at h2 ⊢;omega,λr hr=>?_,lo,"give",rfl,.inr rfl⟩;rcases List.mem_append.mp hr with h | h
 ·exact h3 r (abV _ h)
 ·rw[jr h];exact fq (by decide +kernel)
theorem sR.put{zs:List Nat}{np nb:Nat}{rs:List Rw}(h:sR zs np nb rs){r:Rw}(hr:dD zs np nb r){m:Nat}(hm:m < rs.length - 1):sR zs np nb (rs.set m r):=by
 obtain⟨h1,h2,h3,lo,e,rfl,he⟩:=h;have es:(lo++[Rw.bare e]).set m r=lo.set m r++[Rw.bare e]:=List.set_append_left _ _ (by simpa using hm);refine⟨by rw[List.length_set];exact h1,by rw[List.length_set];exact h2,λr' hr'=>?_,_,e,es,he⟩;rcases List.mem_or_eq_of_mem_set hr' with h | rfl
 ·exact h3 r' h
 ·exact hr
theorem KW{n:Nat}(h:1<=n):xR n (-1)=some (n - 1):=by
 unfold xR;rw[if_neg (by omega),if_pos (by omega)]
 congr 1
 omega
def Pt.wr(p:Pt)(rs:List Rw):Pt:=⟨p.takes,p.gives,p.boxes,p.height,rs,[]⟩
theorem sR.pt{zs:List Nat}{np:Nat}{p:Pt}{rs:List Rw}(hp:mJ zs np p)(h:sR zs np p.boxes rs):mJ zs np (p.wr rs):=by
 obtain⟨h1,h2,h3,lo,e,rfl,he⟩:=h;exact⟨hp.tk,hp.gv,hp.bx,hp.tb,hp.h1,hp.h8,by show 1<=(lo++[Rw.bare e]).length;omega,by show(lo++[Rw.bare e]).length<=100;omega,λr hr=>(h3 r hr).1 _,⟨lo,_,rfl,by rcases he with rfl | rfl;exact .inl rfl;exact .inr (.inl rfl)⟩,aaX _,λs hs=>nomatch hs⟩
structure jL(K:aC)(B HH:Hp)(L T e:Addr)(ws:List V)(ys:List V)(rs:List Rw):Prop where
 keep:aK B HH
 tt:bz K HH T (ws++[.ref L,.ref e])
 ee:HH e=some (.lst [])
 ro:jK K HH L ys rs
theorem jL.same{K:aC}{B HH H':Hp}{L T e:Addr}{ws ys:List V}{rs:List Rw}(h:jL K B HH L T e ws ys rs)(s:aK HH H'):jL K B H' L T e ws ys rs:=⟨h.keep.trans s,s.tup h.tt,s _ _ h.ee,h.ro.same s⟩
theorem jL.put{K:aC}{B HH:Hp}{L T e:Addr}{ws ys:List V}{rs:List Rw}(h:jL K B HH L T e ws ys rs)(nL:B L=none)(ne:e≠L){v:V}{r:Rw}(hv:aO K HH v (ki r))(m:Nat):jL K B (upd HH L (.lst (ys.set m v))) L T e ws (ys.set m v) (rs.set m r):=⟨yJ h.keep nL,bz.move (jm h.ro.at' _) h.tt,by rw[uN ne];exact h.ee,h.ro.put hv m⟩
theorem jL.cut{K:aC}{B HH:Hp}{L T e:Addr}{ws ys:List V}{rs:List Rw}(h:jL K B HH L T e ws ys rs){P:Addr->Prop}(hP:∀c,P c->∃o,HH c=some o/\jd o)(hB:∀c,P c->B c=none)(nL:¬ P L)(ne:¬ P e):jL K B (cutH P HH) L T e ws ys rs:=⟨λc o q=>bG.mpr ⟨λz=>(by rw[hB c z]at q;exact nomatch q),h.keep c o q⟩,bz.move (vw hP) h.tt,bG.mpr ⟨ne,h.ee⟩,bG.mpr ⟨nL,h.ro.at'⟩,oB (vw hP) h.ro.it⟩
theorem jL.part{K:aC}{B HH:Hp}{L T e:Addr}{ws ys:List V}{rs:List Rw}(h:jL K B HH L T e ws ys rs){p:Pt}(hw:aP K B ws [.list (aA p.takes),.tuple (cH p.gives),.int (p.boxes:Int),.int (p.height:Int)]):aO K HH (.ref T) (eF (p.wr rs)):=by
 refine .iQ h.tt ?_;exact cu.append (xs:=[PyData.list (aA p.takes),.tuple (cH p.gives),.int (p.boxes:Int),.int (p.height:Int)]) (us:=[PyData.list (rs.map ki),.list []]) (hw.same h.keep) (.cons (.lst (cG.of h.ro.at') h.ro.it.1 h.ro.it.2) (.cons (.lst (cG.of h.ee) rfl λi x d z=>nomatch z) .nil))
theorem jL.items{K:aC}{B HH:Hp}{L T e:Addr}{ws ys:List V}{rs:List Rw}(h:jL K B HH L T e ws ys rs){p:Pt}(hw:aP K B ws [.list (aA p.takes),.tuple (cH p.gives),.int (p.boxes:Int),.int (p.height:Int)]){ysP:List V}{ps:List Pt}(hP:aP K B ysP (ps.map eF))(j:Nat):aP K HH (ysP.set j (.ref T)) ((ps.set j (p.wr rs)).map eF):=by
 rw[List.map_set];exact cu.set (hP.same h.keep) (h.part hw) j
theorem jL.chg{K:aC}{B HH:Hp}{L T e:Addr}{ws ys:List V}{rs:List Rw}(h:jL K B HH L T e ws ys rs){P:Addr}{xs:List V}(hP:HH P=some (.lst xs))(nP:B P=none)(LP:L≠P)(eP:e≠P)(zs:List V):jL K B (upd HH P (.lst zs)) L T e ws ys rs:=⟨λc o q=>by rw[uN (nN q nP)];exact h.keep c o q,bz.move (jm hP _) h.tt,by rw[uN eP];exact h.ee,by rw[uN LP];exact h.ro.at',oB (jm hP _) h.ro.it⟩
theorem yK{P:Addr->Prop}{H:Hp}{c:Addr}(h:P c):cutH P H c=none:=by
 cases q:cutH P H c with
 | none=>rfl
 | some o=>exact absurd h (bG.mp q).1
theorem GX{J:KF}{H0:Hp}{A0:Addr->Prop}{G:Addr->Prop}{al:List (List Addr)}{H1 HF:Hp}{P1 L T e t1 t2:Addr}{ysP ws ys:List V}{rs:List Rw}{ps:List Pt}{p:Pt}{ms:bA}{vm:V}{j:Nat}{Q:DC}{R:VK}
  (I:DI J H0 A0 G al H1 [.live (ps.map eF)]) (k:Kn J H0 A0 G al H1 [.live (ps.map eF)] Q R) (hal:al[0]?=some [P1]) (hP:H1 P1=some (.lst ysP)) (hyP:cu (aJ J.K (Fb G al [.live (ps.map eF)]) H1) ysP (ps.map eF)) (rm:aJ J.K (Fb G al [.live (ps.map eF)]) H1 vm (eE ms))
  (hKP:∀c o,c≠P1->H1 c=some o->HF c=some o) (hPF:HF P1=some (.lst (ysP.set j (.ref T)))) (hB:jL J.K (cutH (Fb G al [.live (ps.map eF)]) H1) HF L T e ws ys rs) (hL:H1 L=none) (he:H1 e=none)
  (hw:aP J.K (cutH (Fb G al [.live (ps.map eF)]) H1) ws [.list (aA p.takes),.tuple (cH p.gives),.int (p.boxes:Int),.int (p.height:Int)])
  (h1:HF t1=some (.tup [vm,.ref P1])) (h2:HF t2=some (.tup [.ref t1,.int (j:Int)]))
  (q:Q (.dat (.tuple [oy ms (ps.set j (p.wr rs)),.int (j:Int)])) [.froz ((ps.set j (p.wr rs)).map eF)]):R (.ref t2) HF:=by
 have s1:aK H1 (upd HF P1 (.lst ysP)):=λc o z=>by
  by_cases n:c=P1
  ·subst n;rw[hP]at z;cases z;exact uS
  ·rw[uN n];exact hKP c o n z
 have I1:=I.same s1;have hl:Fb G al [.live (ps.map eF)] P1:=.inr ⟨0,_,_,hal,aaS.mpr rfl,rfl,rfl⟩;have LP:L≠P1:=λz=>by rw[z,hP]at hL;cases hL
 have eP:e≠P1:=λz=>by rw[z,hP]at he;cases he
 have hB2:=(hB.chg hPF (yK hl) LP eP ysP).cut (P:=Fb G al [.live (ps.map eF)]) (λc hc=>I1.pq hc) (λc hc=>yK hc) (I.C0 hL) (I.C0 he);have hit:=hB2.items hw (ysP:=ysP) (ps:=ps) hyP j;obtain⟨E2,I2⟩:=I1.put hal rfl (show cu (aJ J.K (Fb G al [.live (ps.map eF)]) (upd HF P1 (.lst ysP))) _ _ from hit)
 have eH:upd (upd HF P1 (.lst ysP)) P1 (.lst (ysP.set j (.ref T)))=HF:=by
  funext c
  by_cases n:c=P1
  ·subst n;rw[uS,hPF]
  ·rw[uN n,uN n]
 rw[eH]at E2 I2;obtain⟨a,ea,E3,I3,rF⟩:=I2.freeze hal rfl;cases ea;have E:=Ext.trans I1 (Ext.same s1) (Ext.trans I2 E2 E3)
 have nt:∀t xs,HF t=some (.tup xs)->¬ Fb G al [.froz ((ps.set j (p.wr rs)).map eF)] t:=λt xs g z=>by
  obtain⟨o,e1,m⟩:=I3.pq z;rw[g]at e1;cases e1;exact qo m
 exact k (.dat _) _ al _ HF E I3 (aJ.tup (nt _ _ h2) h2 (.cons (aJ.tup (nt _ _ h1) h1 (.cons (rm.ext E) (.cons rF .nil))) (.cons (.int _) .nil))) q
theorem TQ{zs:List Nat}{np:Nat}{p:Pt}(h:mJ zs np p):Sh 3 (eF p):=iT (bI ((Ae _).up (by decide)) (bI ((Ni _).up (by decide)) (bI fU (bI fU (bI (om (pM λr hr=>TL (h.ro r hr))) (bI (om (pM λs _=>iT (bI fU (bI fU (bI fU jF))))) jF))))))
theorem TR(m:Option Nat×List Kd):Sh 3 (ve m):=iT (bI (by cases m.1 with
 | none=>exact Gd
 | some i=>exact fU) (bI (Ae _) jF))
theorem TU{ms:bA}{zs:List Nat}(_:Good ms zs){ps:List Pt}(h:∀p∈ps,mJ zs ps.length p):Sh 5 (oy ms ps):=iT (bI (om (pM λm _=>TR m)) (bI (om (pM λp hp=>TQ (h p hp))) jF))
def GY(o:Option (Nat×Str)):Prop:=∀x,o=some x->x.2∈(["empty","kind","high"]:List Str)
theorem sS{ms:bA}{ps:List Pt}{p:Pt}:∀(rs:List Rw) (i:Nat) (s:Sd),GY (cR ms ps p i rs s)
 | [],_,_=>λx h=>nomatch h
 | r::rs,i,s=>λx h=>by
  have h:(match doneK ms ps p r s with | (some w,_)=>some (i,w) | (none,s')=>if cj r∈nv then none else cR ms ps p (i + 1) rs s')=some x:=h
  cases hb:bW ms ps p r s.2 with
  | some w =>
   rw[gF hb]at h;cases h;unfold bW at hb;show w∈_;split at hb
   ·cases hb;exact(by decide +kernel:("empty" : Str)∈(["empty","kind","high"]:List Str))
   ·split at hb
    ·cases hb;exact(by decide +kernel:("kind" : Str)∈(["empty","kind","high"]:List Str))
    ·split at hb
     ·cases hb;exact(by decide +kernel:("high" : Str)∈(["empty","kind","high"]:List Str))
     ·cases hb
  | none =>
   rw[done_none hb]at h;dsimp only at h;split at h
   ·cases h
   ·exact sS rs _ _ x h
theorem PU{j:Nat}{o:Option (Nat×Str)}(h:GY o):Sh 1 (yC j o):=by
 cases o with
 | none=>exact Gd
 | some x =>
  have hs:PyData.canLay0 (.str x.2)=true:=(by decide +kernel:∀s∈(["empty","kind","high"]:List Str),PyData.canLay0 (.str s)=true) _ (h x rfl);exact iT (bI fU (bI fU (bI (pL hs) jF)))
theorem Cj(k:Kd):∃sg tl,cH k=.str sg::tl/\((sg="whole"->∃a,k=.whole a)/\(sg="raw"->∃a n,k=.raw a n)):=by
 cases k with
 | num=>exact⟨_,_,rfl,λh=>absurd h (by decide +kernel),λh=>absurd h (by decide +kernel)⟩
 | any=>exact⟨_,_,rfl,λh=>absurd h (by decide +kernel),λh=>absurd h (by decide +kernel)⟩
 | whole a=>exact⟨_,_,rfl,λ_=>⟨a,rfl⟩,λh=>absurd h (by decide +kernel)⟩
 | raw a n=>exact⟨_,_,rfl,λh=>absurd h (by decide +kernel),λ_=>⟨a,n,rfl⟩⟩
theorem PV{zs:List Nat}{k:Kd}(h:cV zs k):(∃sg,cH k=[PyData.str sg]/\sg∉(["raw","whole"]:List Str))∨∃(sg:Str) (c:Nat) (tl:List PyData),cH k=.str sg::.int (c:Int)::tl/\c < zs.length/\(sg="whole"∨∃m:Nat,tl=[.int (m:Int)]):=by
 cases k with
 | num=>exact .inl ⟨_,rfl,by decide +kernel⟩
 | any=>exact .inl ⟨_,rfl,by decide +kernel⟩
 | whole a=>exact .inr ⟨_,a,_,rfl,h,.inl rfl⟩
 | raw a n =>
  obtain⟨z,hz,_⟩:=h;exact .inr ⟨_,a,_,rfl,(bX hz).1,.inr ⟨n,rfl⟩⟩
inductive jM (ds:List PyData)(Q:PyData->Prop):Prop where
 | mk (ms:bA) (ps:List Pt) (ig:ds=[oy ms ps]) (ij:ms.length<=8) (i6:ps.length<=8) (lj:Q (oy ms ps)):jM  ds Q
def ll(K:aC):Sp:=pE K jM
theorem yL:e9 jM:=by
 rintro ds Q Q' f ⟨ms,ps,z2,m8,p8,q⟩;exact⟨ms,ps,z2,m8,p8,by intros;apply f;apply q<;>assumption⟩
theorem yM{K:aC}:qi K (ll K) jM:=dz
inductive iz (ds:List PyData)(Q:PyData->Prop):Prop where
 | mk (ms:bA) (c o:Nat) (ig:ds=[eE ms,.int (c:Int),.int (o:Int)]) (ij:Wf ms) (i6:c < ms.length) (lj:Q (.bool (decide (o∈bD ms c)))):iz  ds Q
def jN(K:aC):Sp:=pE K iz
theorem oC:e9 iz:=by
 rintro ds Q Q' f ⟨ms,c,o,z3,hw,hc,q⟩;exact⟨ms,c,o,z3,hw,hc,by intros;apply f;apply q<;>assumption⟩
theorem oE{K:aC}:qi K (jN K) iz:=dz
inductive fB (ds:List PyData)(Q:PyData->Prop):Prop where
 | mk (ms:bA) (k o:Kd) (ig:ds=[eE ms,.tuple (cH k),.tuple (cH o)]) (ij:Wf ms) (i6:Pz ms k) (lj:Q (.bool (below ms k o))):fB  ds Q
def dE(K:aC):Sp:=pE K fB
theorem g7:e9 fB:=by
 rintro ds Q Q' f ⟨ms,k,o,z3,hw,hk,q⟩;exact⟨ms,k,o,z3,hw,hk,by intros;apply f;apply q<;>assumption⟩
theorem g9{K:aC}:qi K (dE K) fB:=dz
inductive gq (ds:List PyData)(Q:PyData->Prop):Prop where
 | mk (ms:bA) (zs:List Nat) (c:Nat) (ig:ds=[eE ms,.int (c:Int)]) (ij:Good ms zs) (i6:c < ms.length) (lj:Q (.list (aA (fields ms c)))):gq  ds Q
def cI(K:aC):Sp:=pE K gq
theorem cJ:e9 gq:=by
 rintro ds Q Q' f ⟨ms,zs,c,z3,g,hc,q⟩;exact⟨ms,zs,c,z3,g,hc,by intros;apply f;apply q<;>assumption⟩
theorem cK{K:aC}:qi K (cI K) gq:=dz
inductive jO (ds:List PyData)(Q:PyData->Prop):Prop where
 | mk (ms:bA) (zs:List Nat) (ps:List Pt) (j:Nat) (p:Pt) (r:Rw) (s:Sd) (ig:ds=[oy ms ps,.int (j:Int),ki r,jt s.1 s.2]) (ij:Good ms zs) (i6:ps[j]?=some p) (lj:(∀nr,r.Ok zs ps.length p.boxes nr)) (qp:cj r∉km) (wH:qL zs p s) (Ck:p.height<=8) (KY:p.boxes<=8) (Nj:(∀p∈ps,p.takes.length<=8)) (Nk:Q (.tuple [.tuple (aA (cq ms ps p r)),.tuple (aA (putD ms ps s.1 s.2 r))])):jO  ds Q
def lq(K:aC):Sp:=pE K jO
theorem yN:e9 jO:=by
 rintro ds Q Q' f ⟨ms,zs,ps,j,p,r,s',z7,g,hp,hok,hgo,hs,h8,b8,Ds,q⟩;exact⟨ms,zs,ps,j,p,r,s',z7,g,hp,hok,hgo,hs,h8,b8,Ds,by intros;apply f;apply q<;>assumption⟩
theorem yO{K:aC}:qi K (lq K) jO:=dz
inductive jP (ds:List PyData)(Q:PyData->Prop):Prop where
 | mk (ms:bA) (zs:List Nat) (ps:List Pt) (j:Nat) (p:Pt) (r:Rw) (s:Sd) (ig:ds=[oy ms ps,.int (j:Int),ki r,jt s.1 s.2]) (ij:Good ms zs) (i6:ps[j]?=some p) (lj:(∀nr,r.Ok zs ps.length p.boxes nr)) (qp:cj r∉km) (wH:qL zs p s) (Ck:p.height<=8) (KY:p.boxes<=8) (Nj:(∀p∈ps,p.takes.length<=8)) (Nk:Q (.tuple [Vc (doneK ms ps p r s).1,jt (doneK ms ps p r s).2.1 (doneK ms ps p r s).2.2])):jP  ds Q
def iA(K:aC):Sp:=pE K jP
theorem lu:e9 jP:=by
 rintro ds Q Q' f ⟨ms,zs,ps,j,p,r,s',z7,g,hp,hok,hgo,hs,h8,b8,Ds,q⟩;exact⟨ms,zs,ps,j,p,r,s',z7,g,hp,hok,hgo,hs,h8,b8,Ds,by intros;apply f;apply q<;>assumption⟩
theorem lz{K:aC}:qi K (iA K) jP:=dz
inductive iB (ds:List PyData)(Q:PyData->Prop):Prop where
 | mk (p:Pt) (ig:ds=[eF p]) (ij:p.boxes<=8) (i6:p.takes.length<=p.boxes) (lj:Q (jt (cf p) [])):iB  ds Q
def gr(K:aC):Sp:=pE K iB
theorem oF:e9 iB:=by
 rintro ds Q Q' f ⟨p,z1,h8,htb,q⟩;exact⟨p,z1,h8,htb,by intros;apply f;apply q<;>assumption⟩
theorem wI{K:aC}:qi K (gr K) iB:=dz
inductive iC (ds:List PyData)(Q:PyData->Prop):Prop where
 | mk (ms:bA) (zs:List Nat) (ps:List Pt) (j:Nat) (p:Pt) (ig:ds=[oy ms ps,.int (j:Int)]) (ij:Good ms zs) (i6:ps[j]?=some p) (lj:(∀p∈ps,mJ zs ps.length p)) (qp:(∀r∈p.rows,dD zs ps.length p.boxes r)) (wH:Q (yC j (cR ms ps p 0 p.rows (cf p,[])))):iC  ds Q
def jQ(K:aC):Sp:=pE K iC
theorem wJ:e9 iC:=by
 rintro ds Q Q' f ⟨ms,zs,ps,j,p,z5,g,hp,hall,hf,q⟩;exact⟨ms,zs,ps,j,p,z5,g,hp,hall,hf,by intros;apply f;apply q<;>assumption⟩
theorem wK{K:aC}:qi K (jQ K) iC:=dz
inductive gu (ds:List PyData)(Q:PyData->Prop):Prop where
 | mk (ms:bA) (zs:List Nat) (np nb c m:Nat) (ig:ds=[eE ms,.tuple [.str "raw",.int (c:Int),.int (m:Int)]]) (ij:Good ms zs) (i6:c < ms.length) (lj:∀r,dD zs np nb r->Q (ki r)):gu  ds Q
def iZ(K:aC):Sp:=pE K gu
theorem t7:e9 gu:=by
 rintro ds Q Q' f ⟨ms,zs,np,nb,c,m,z6,g,hc,q⟩;exact⟨ms,zs,np,nb,c,m,z6,g,hc,by intros;apply f;apply q<;>assumption⟩
theorem t8{K:aC}:qi K (iZ K) gu:=dz
inductive iD (ds:List PyData)(Q:PyData->Prop):Prop where
 | mk (ms:bA) (zs:List Nat) (np nb:Nat) (st:List Kd) (x:Int) (ig:ds=[eE ms,.tuple (aA st),.int x]) (ij:Good ms zs) (i6:(∀k∈st,cV zs k)) (lj:∀r,dD zs np nb r->Q (ki r)):iD  ds Q
def jR(K:aC):Sp:=pE K iD
theorem wL:e9 iD:=by
 rintro ds Q Q' f ⟨ms,zs,np,nb,st,x,z6,g,hst,q⟩;exact⟨ms,zs,np,nb,st,x,z6,g,hst,by intros;apply f;apply q<;>assumption⟩
theorem wM{K:aC}:qi K (jR K) iD:=dz
inductive jS (ds:List PyData)(Q:PyData->Prop):Prop where
 | mk (n:Int) (ig:ds=[.int n]) (ij:∀w:Int,-2147483648<=w->w < 2147483648->Q (.int w)):jS  ds Q
def eJ(K:aC):Sp:=pE K jS
theorem iE:e9 jS:=by
 rintro ds Q Q' f ⟨n,z1,q⟩;exact⟨n,z1,by intros;apply f;apply q<;>assumption⟩
theorem lA{K:aC}:qi K (eJ K) jS:=dz
inductive eB (ds:List PyData)(Q:PyData->Prop):Prop where
 | mk (ms:bA) (zs:List Nat) (ps:List Pt) (bx st:List Kd) (n:Int) (ig:ds=[oy ms ps,jt bx st,.int n,.list []]) (ij:Good ms zs) (i6:ps≠[]) (lj:bx.length<=8) (qp:(∀k∈st,cV zs k)) (wH:st.length<=8) (Ck:∀r,dD zs ps.length bx.length r->Q (ki r)):eB  ds Q
def ft(K:aC):Sp:=pE K eB
theorem pV:e9 eB:=by
 rintro ds Q Q' f ⟨ms,zs,ps,bx,st,n,z6,g,hne,b8,hst,h8,q⟩;exact⟨ms,zs,ps,bx,st,n,z6,g,hne,b8,hst,h8,by intros;apply f;apply q<;>assumption⟩
theorem pW{K:aC}:qi K (ft K) eB:=dz
inductive iF (ds:List PyData)(Q:PyData->Prop):Prop where
 | mk (c k:Int) (ig:ds=[.int c,.int k]) (ij:0<=k) (i6:k<=1000000) (lj:∀v:Int,0<=v->v < 200000000000->Q (.int v)):iF  ds Q
def dc(K:aC):Sp:=pE K iF
theorem aY:e9 iF:=by
 rintro ds Q Q' f ⟨c,k,z2,h0,h1,q⟩;exact⟨c,k,z2,h0,h1,by intros;apply f;apply q<;>assumption⟩
theorem bo{K:aC}:qi K (dc K) iF:=dz
inductive cN (ds:List PyData)(Q:PyData->Prop):Prop where
 | mk (ms:bA) (a b:List Kd) (ig:ds=[eE ms,jt a [],jt b []]) (ij:Wf ms) (i6:(∀k∈a,Pz ms k)) (lj:a.length<=8) (qp:b.length<=8) (wH:∀x:Bool,Q (.bool x)):cN  ds Q
def dF(K:aC):Sp:=pE K cN
theorem lB:e9 cN:=by
 rintro ds Q Q' f ⟨ms,a,b,z3,hw,ha,la,lb,q⟩;exact⟨ms,a,b,z3,hw,ha,la,lb,by intros;apply f;apply q<;>assumption⟩
theorem lC{K:aC}:qi K (dF K) cN:=dz
inductive lD (ds:List PyData)(Q:PyData->Prop):Prop where
 | mk (ms:bA) (zs:List Nat) (ps:List Pt) (j:Nat) (p:Pt) (bx:List Kd) (cs:List Int) (ig:ds=[oy ms ps,.int (j:Int),jt bx [],.list (cs.map PyData.int),.list []]) (ij:Good ms zs) (i6:ps[j]?=some p) (lj:(∀p∈ps,mJ zs ps.length p)) (qp:qL zs p (bx,[])) (wH:cs.length<=63) (Ck:∀rs:List Rw,rs.length<=cs.length + 8->(∀r∈rs,dD zs ps.length p.boxes r)->Q (.list (rs.map ki))):lD  ds Q
def oG(K:aC):Sp:=pE K lD
theorem wN:e9 lD:=by
 rintro ds Q Q' f ⟨ms,zs,ps,j,p,bx,cs,z7,g,hp,hall,TV,IM,q⟩;exact⟨ms,zs,ps,j,p,bx,cs,z7,g,hp,hall,TV,IM,by intros;apply f;apply q<;>assumption⟩
inductive jT (ds:List PyData)(Q:PyData->Prop):Prop where
 | mk (ns:List Int) (k:Nat) (ig:ds=[.list (ns.map PyData.int),.int (k:Int)]) (ij:k<=1000) (i6:∀v:Int,Q (.int v)):jT  ds Q
def lE(K:aC):Sp:=pE K jT
theorem cY:e9 jT:=by
 rintro ds Q Q' f ⟨ns,k,z2,h1,q⟩;exact⟨ns,k,z2,h1,by intros;apply f;apply q<;>assumption⟩
theorem fJ{K:aC}:qi K (lE K) jT:=dz
inductive hJ (ds:List PyData)(Q:PyData->Prop):Prop where
 | mk (ms:bA) (zs:List Nat) (ps:List Pt) (j:Nat) (p:Pt) (n:Int) (ig:ds=[oy ms ps,.int (j:Int),.int n,.int 2,.tuple []]) (ij:Good ms zs) (i6:ps[j]?=some p) (lj:(∀p∈ps,p.boxes<=8)) (qp:∀r,(dD zs ps.length p.boxes r∨cj r∈km)->Q (ki r)):hJ  ds Q
def kl(K:aC):Sp:=pE K hJ
theorem qN:e9 hJ:=by
 rintro ds Q Q' f ⟨ms,zs,ps,j,p,n,z6,g,hp,b8,q⟩;exact⟨ms,zs,ps,j,p,n,z6,g,hp,b8,by intros;apply f;apply q<;>assumption⟩
inductive jU (ds:List PyData)(Q:PyData->Prop):Prop where
 | mk (zs:List Nat) (n:Int) (ig:ds=[.int n,.list (fZ zs)]) (ij:0 < zs.length) (i6:zs.length<=100) (lj:(∀z∈zs,z<=6)) (qp:∀k:Kd,cV zs k->Q (.tuple (cH k))):jU  ds Q
def iG(K:aC):Sp:=pE K jU
theorem lF:e9 jU:=by
 rintro ds Q Q' f ⟨zs,n,z2,hz,JG,h6,q⟩;exact⟨zs,n,z2,hz,JG,h6,by intros;apply f;apply q<;>assumption⟩
theorem lG{K:aC}:qi K (iG K) jU:=dz
inductive iH (ds:List PyData)(Q:PyData->Prop):Prop where
 | mk (c:Int) (ig:ds=[.int c]) (ij:∀(ms:bA) (zs:List Nat),Good ms zs->Q (eE ms)):iH  ds Q
def jV(K:aC):Sp:=pE K iH
theorem wO:e9 iH:=by
 rintro ds Q Q' f ⟨c,z1,q⟩;exact⟨c,z1,by intros;apply f;apply q<;>assumption⟩
theorem wQ{K:aC}:qi K (jV K) iH:=dz
inductive iI (ds:List PyData)(Q:PyData->Prop):Prop where
 | mk (ms:bA) (zs:List Nat) (ig:ds=[eE ms]) (ij:Good ms zs) (i6:Q (.list (fZ zs))):iI  ds Q
def jW(K:aC):Sp:=pE K iI
theorem wR:e9 iI:=by
 rintro ds Q Q' f ⟨ms,zs,z2,g,q⟩;exact⟨ms,zs,z2,g,by intros;apply f;apply q<;>assumption⟩
theorem wU{K:aC}:qi K (jW K) iI:=dz
inductive jX (ds:List PyData)(Q:PyData->Prop):Prop where
 | mk (ms:bA) (zs:List Nat) (c:Int) (ig:ds=[eE ms,.int c]) (ij:Good ms zs) (i6:∀p:Pt,(∀np,mJ zs np p)->p.spans=[]->Q (eF p)):jX  ds Q
def lH(K:aC):Sp:=pE K jX
theorem qr:e9 jX:=by
 rintro ds Q Q' f ⟨ms,zs,c,z3,g,q⟩;exact⟨ms,zs,c,z3,g,by intros;apply f;apply q<;>assumption⟩
theorem qt{K:aC}:qi K (lH K) jX:=dz
inductive eV (ds:List PyData)(Q:PyData->Prop):Prop where
 | mk (ns:List Int) (ig:ds=[.list (ns.map PyData.int)]) (ij:ns.length<=63) (i6:∀(ms:bA) (zs:List Nat) (ps:List Pt) (j:Nat) (p:Pt),Good ms zs->ps.length<=8->ps[j]?=some p->(∀p∈ps,mJ zs ps.length p)->p.spans=[]->(∀r∈p.rows,dD zs ps.length p.boxes r)->Q (.tuple [oy ms ps,.int (j:Int)])):eV  ds Q
def fX(K:aC):Sp:=pE K eV
theorem qP:e9 eV:=by
 rintro ds Q Q' f ⟨ns,z1,IM,q⟩;exact⟨ns,z1,IM,by intros;apply f;apply q<;>assumption⟩
theorem qQ{K:aC}:qi K (fX K) eV:=dz
inductive iJ (ds:List PyData)(Q:PyData->Prop):Prop where
 | mk (x:Int) (ig:ds=[.int x]) (ij:Q (.bool true)):iJ  ds Q
def jY(K:aC):Sp:=pE K iJ
theorem oH:e9 iJ:=by
 rintro ds Q Q' f ⟨x,z1,q⟩;exact⟨x,z1,by intros;apply f;apply q<;>assumption⟩
theorem oJ{K:aC}:qi K (jY K) iJ:=dz
inductive gy (ds:List PyData)(Q:PyData->Prop):Prop where
 | mk (b:PyData) (j:Int) (ig:ds=[b,.int j,.list []]) (ij:Q .none):gy  ds Q
def i3(K:aC):Sp:=pE K gy
theorem t9:e9 gy:=by
 rintro ds Q Q' f ⟨b,j,z2,q⟩;exact⟨b,j,z2,by intros;apply f;apply q<;>assumption⟩
theorem ua{K:aC}:qi K (i3 K) gy:=dz
inductive sU(K:aC)(vs:List V)(H:Hp)(Q:VK)(kn:XK):Prop where
 | mk (b:Addr) (ms:bA) (ps:List Pt) (j:Nat) (p:Pt) (ig:vs=[.ref b,.int (j:Int)]) (ij:aO K H (.ref b) (oy ms ps)) (i6:ps[j]?=some p) (lj:p.boxes<=8) (qp:p.takes.length<=p.boxes) (wH:∀(t:Addr) (H':Hp),aK H H'->aO K H' (.ref t) (jt (cf p) [])->Q (.ref t) H'):sU K vs H Q kn
inductive KZ (ds:List PyData)(Q:PyData->Prop):Prop where
 | mk (ms:bA) (ps:List Pt) (j:Nat) (p:Pt) (ig:ds=[oy ms ps,.int (j:Int)]) (ij:ps[j]?=some p) (i6:p.boxes<=8) (lj:p.takes.length<=p.boxes) (qp:Q (jt (cf p) [])):KZ  ds Q
inductive gz(K:aC)(vs:List V)(H:Hp)(Q:VK)(kn:XK):Prop where
 | mk (a:Addr) (ms:bA) (c:Nat) (ig:vs=[.ref a,.int c]) (ij:ff K H a ms) (i6:Wf ms) (lj:c < ms.length) (qp:∀(r:Addr) (H':Hp),aK H H'->H r=none->H' r=some (.lst (kh (bD ms c)))->Q (.ref r) H'):gz K vs H Q kn
inductive lI(K:aC)(vs:List V)(H:Hp)(Q:VK)(kn:XK):Prop where
 | mk (a:Addr) (ms:bA) (c o:Nat) (ig:vs=[.ref a,.int c,.int o]) (ij:ff K H a ms) (i6:Wf ms) (lj:c < ms.length) (qp:∀(H':Hp),aK H H'->Q (.bl (decide (o∈bD ms c))) H'):lI K vs H Q kn
inductive ny(K:aC)(vs:List V)(H:Hp)(Q:VK)(kn:XK):Prop where
 | mk (a:Addr) (ms:bA) (t u:Addr) (k o:Kd) (ig:vs=[.ref a,.ref t,.ref u]) (ij:ff K H a ms) (i6:Wf ms) (lj:bz K H t (M9 k)) (qp:bz K H u (M9 o)) (wH:(∀c,k=.whole c->c < ms.length)) (Ck:∀(H':Hp),aK H H'->Q (.bl (below ms k o)) H'):ny K vs H Q kn
inductive hU(K:aC)(vs:List V)(H:Hp)(Q:VK)(kn:XK):Prop where
 | mk (a:Addr) (ms:bA) (t u:Addr) (xs ys:List V) (ks js:List Kd) (ig:vs=[.ref a,.ref t,.ref u]) (ij:ff K H a ms) (i6:Wf ms) (lj:bz K H t xs) (qp:fc K H xs ks) (wH:cG K H u ys) (Ck:fc K H ys js) (KY:(∀k∈ks,Pz ms k)) (Nj:ks.length<=100) (Nk:∀(H':Hp),aK H H'->Q (.bl (bV ms ks js)) H'):hU K vs H Q kn
inductive eW(K:aC)(vs:List V)(H:Hp)(Q:VK)(kn:XK):Prop where
 | mk (a:Addr) (ms:bA) (c:Nat) (ig:vs=[.ref a,.int c]) (ij:ff K H a ms) (i6:Wf ms) (lj:KH ms) (qp:c < ms.length) (wH:∀(r:Addr) (ks:List V) (H':Hp),aK H H'->H r=none->H' r=some (.lst ks)->aP K H ks (aA (fields ms c))->Q (.ref r) H'):eW K vs H Q kn
inductive jZ(K:aC)(vs:List V)(H:Hp)(Q:VK)(kn:XK):Prop where
 | mk (a:Addr) (ms:bA) (c:Nat) (ig:vs=[.ref a,.int c]) (ij:ff K H a ms) (i6:Wf ms) (lj:KH ms) (qp:c < ms.length) (wH:∀(H':Hp),aK H H'->Q (.int (2 ^ (fields ms c).length - 1)) H'):jZ K vs H Q kn
inductive dR(K:aC)(vs:List V)(H:Hp)(Q:VK)(kn:XK):Prop where
 | mk (mk rw:Addr) (ms:bA) (sign:Str) (xs:List V) (ks:List Kd) (ig:vs=[.ref mk,.ref rw]) (ij:ff K H mk ms) (i6:Wf ms) (lj:KH ms) (qp:bz K H rw (.str sign::xs)) (wH:z9 ms sign xs ks) (Ck:∀(r:Addr) (ys:List V) (H':Hp),aK H H'->H r=none->H' r=some (.lst ys)->aP K H' ys (aA ks)->Q (.ref r) H'):dR K vs H Q kn
theorem K0:eS bp "call"=none:=by decide +kernel
theorem K1:eS bp "give"=none:=by decide +kernel
theorem PX{ms:bA}{sign:Str}{xs:List V}{ks:List Kd}(h:z9 ms sign xs ks):eS bp sign=none/\¬ (V.str sign=V.str "call")/\¬ (V.str sign=V.str "give"):=by
 cases h<;>exact⟨by decide +kernel,by decide +kernel,by decide +kernel⟩
inductive oK(K:aC)(vs:List V)(H:Hp)(Q:VK)(kn:XK):Prop where
 | mk (b mk pl rw:Addr) (part:Nat) (sign:Str) (xs:List V) (ks:List Kd) (ig:vs=[.ref b,.int part,.ref rw]) (ij:bz K H b [.ref mk,.ref pl]) (i6:bz K H rw (.str sign::xs)) (lj:vh K H mk pl part sign xs ks) (qp:∀(r:Addr) (ys:List V) (H':Hp),aK H H'->H r=none->H' r=some (.lst ys)->aP K H' ys (aA ks)->Q (.ref r) H'):oK K vs H Q kn
inductive mD(K:aC)(vs:List V)(H:Hp)(Q:VK)(kn:XK):Prop where
 | mk (rw:Addr) (sign:Str) (xs:List V) (ig:vs=[.ref rw]) (ij:bz K H rw (.str sign::xs)) (i6:Q (.int (lg sign)) H):mD K vs H Q kn
inductive pX(K:aC)(vs:List V)(H:Hp)(Q:VK)(kn:XK):Prop where
 | mk (b:Addr) (ms:bA) (zs:List Nat) (ps:List Pt) (j i:Nat) (p:Pt) (r:Rw) (v:V) (bx st:List Kd) (ig:vs=[.ref b,.int (j:Int),.int (i:Int),v]) (ij:aO K H (.ref b) (oy ms ps)) (i6:Good ms zs) (lj:ps[j]?=some p) (qp:p.rows[i]?=some r) (wH:r.Ok zs ps.length p.boxes p.rows.length) (Ck:aO K H v (jt bx st)) (KY:st.length<=50) (Nj:(∀k∈st,Pz ms k)) (Nk:∀(H':Hp),aK H H'->Q (brV (bW ms ps p r st)) H'):pX K vs H Q kn
inductive GZ (ds:List PyData)(Q:PyData->Prop):Prop where
 | mk (ms:bA) (zs:List Nat) (ps:List Pt) (j i:Nat) (p:Pt) (r:Rw) (bx st:List Kd) (ig:ds=[oy ms ps,.int (j:Int),.int (i:Int),jt bx st]) (ij:Good ms zs) (i6:ps[j]?=some p) (lj:p.rows[i]?=some r) (qp:r.Ok zs ps.length p.boxes p.rows.length) (wH:st.length<=50) (Ck:(∀k∈st,Pz ms k)) (KY:Q (Vc (bW ms ps p r st))):GZ  ds Q
inductive nz(K:aC)(vs:List V)(H:Hp)(Q:VK)(kn:XK):Prop where
 | mk (a:Addr) (p:Int) (ig:vs=[.ref a,.int p]) (ij:cG K H a []) (i6:Q .non H):nz K vs H Q kn
inductive cS(K:aC)(vs:List V)(H:Hp)(Q:VK)(kn:XK):Prop where
 | mk (mk rt tt:Addr) (ms:bA) (zs:List Nat) (ps:List Pt) (p:Pt) (r:Rw) (bx tk:List Kd) (ts:List V) (ig:vs=[.ref mk,.ref rt,.ref tt]) (ij:ff K H mk ms) (i6:Good ms zs) (lj:bz K H rt (Na r)) (qp:r.Ok zs ps.length p.boxes p.rows.length) (wH:cj r∈tZ) (Ck:bz K H tt ts) (KY:fc K H ts tk) (Nj:Dh ms ps p r tk) (Nk:∀(t:Addr) (ys:List V) (H':Hp),aK H H'->bz K H' t ys->fc K H' ys (putK ms ps bx tk r)->Q (.ref t) H'):cS K vs H Q kn
inductive j0(K:aC)(vs:List V)(H:Hp)(Q:VK)(kn:XK):Prop where
 | mk (b rt bt tt:Addr) (ms:bA) (zs:List Nat) (ps:List Pt) (p:Pt) (r:Rw) (bx tk:List Kd) (bs ts:List V) (ig:vs=[.ref b,.ref rt,.ref bt,.ref tt]) (ij:aO K H (.ref b) (oy ms ps)) (i6:Good ms zs) (lj:bz K H rt (Na r)) (qp:r.Ok zs ps.length p.boxes p.rows.length) (wH:bz K H bt bs) (Ck:fc K H bs bx) (KY:bx.length=p.boxes) (Nj:bz K H tt ts) (Nk:fc K H ts tk) (PY:Dh ms ps p r tk) (PZ:∀(t:Addr) (ys:List V) (H':Hp),aK H H'->bz K H' t ys->fc K H' ys (putK ms ps bx tk r)->Q (.ref t) H'):j0 K vs H Q kn
theorem Dt{xs:List V}{i:Nat}{v:V}(h:i < xs.length):xs.take i++[v]++xs.drop (i + 1)=xs.set i v:=by
 rw[abN,aan h,abp];rfl
theorem G0{xs:List V}{n:Nat}:jz xs none (some (n:Int))=xs.take n:=Gm
inductive lJ(K:aC)(vs:List V)(H:Hp)(Q:VK)(kn:XK):Prop where
 | mk (t:Addr) (xs:List V) (i:Nat) (v:V) (ig:vs=[.ref t,.int (i:Int),v]) (ij:bz K H t xs) (i6:i < xs.length) (lj:xs.length<=100) (qp:∀(r:Addr) (H':Hp),aK H H'->bz K H' r (xs.set i v)->Q (.ref r) H'):lJ K vs H Q kn
inductive fY(K:aC)(vs:List V)(H:Hp)(Q:VK)(kn:XK):Prop where
 | mk (b:Addr) (ms:bA) (zs:List Nat) (ps:List Pt) (j:Nat) (p:Pt) (rt:Addr) (r:Rw) (v:V) (bx st:List Kd) (n:Nat) (ig:vs=[.ref b,.int (j:Int),.ref rt,v]) (ij:aO K H (.ref b) (oy ms ps)) (i6:Good ms zs) (lj:ps[j]?=some p) (qp:bz K H rt (Na r)) (wH:r.Ok zs ps.length p.boxes p.rows.length) (Ck:aO K H v (jt bx st)) (KY:bx.length=p.boxes) (Nj:p.boxes<=8) (Nk:st.length<=50) (PY:st.length=n + (cq ms ps p r).length) (PZ:Dh ms ps p r (st.drop n)) (TX:∀(t:Addr) (H':Hp),aK H H'->aO K H' (.ref t) (jt (oz bx (st.drop n) r) (st.take n++putK ms ps bx (st.drop n) r))->Q (.ref t) H'):fY K vs H Q kn
inductive wV(K:aC)(vs:List V)(H:Hp)(Q:VK)(kn:XK):Prop where
 | mk (b:Addr) (ms:bA) (zs:List Nat) (ps:List Pt) (j i:Nat) (p:Pt) (r:Rw) (v:V) (bx st:List Kd) (n:Nat) (ig:vs=[.ref b,.int (j:Int),.int (i:Int),v]) (ij:aO K H (.ref b) (oy ms ps)) (i6:Good ms zs) (lj:ps[j]?=some p) (qp:p.rows[i]?=some r) (wH:r.Ok zs ps.length p.boxes p.rows.length) (Ck:aO K H v (jt bx st)) (KY:bx.length=p.boxes) (Nj:p.boxes<=8) (Nk:st.length<=50) (PY:st.length=n + (cq ms ps p r).length) (PZ:Dh ms ps p r (st.drop n)) (TX:cj r∉km) (Ww:p.spans=[]) (aay:∀(L:Addr) (H':Hp),H L=none->Di K H L (nextK r i (oz bx (st.drop n) r) (st.take n++putK ms ps bx (st.drop n) r)) H'->Q (.ref L) H'):wV K vs H Q kn
inductive hZ(K:aC)(ar:Addr)(vs:List V)(H:Hp)(Q:VK)(E:XK):Prop where
 | mk (v0 vc d:V) (j i:Nat) (ms:bA) (zs:List Nat) (ps:List Pt) (p:Pt) (r:Rw) (s:Sd) (ig:vs=[v0,.int (j:Int),.int (i:Int),vc,d]) (ij:aO K H v0 (oy ms ps)) (i6:aO K H vc (jt s.1 s.2)) (lj:Good ms zs) (qp:ps[j]?=some p) (wH:p.rows[i]?=some r) (Ck:r.Ok zs ps.length p.boxes p.rows.length) (KY:cj r∉km) (Nj:p.spans=[]) (Nk:p.boxes<=8) (PY:p.height<=8) (PZ:qL zs p s) (TX:(∀w,bW ms ps p r s.2=some w->∀(dx:Addr) (H':Hp),aK H H'->H dx=none->H' dx=some (.ext (XD dx [("part",.int (j:Int)),("at",.int (i:Int)),("word",.str w)]))->E (.ref ar) (some dx) H')) (Ww:(bW ms ps p r s.2=none->∀(v:V) (H':Hp),aK H H'->aO K H' v (Yw (if cj r∈nv then none else some (doneK ms ps p r s).2))->Q v H')):hZ K ar vs H Q E
inductive lK(_K:aC)(vs:List V)(H:Hp)(Q:VK)(kn:XK):Prop where
 | mk (v0 v1 vc:V) (i:Int) (d:Addr) (ig:vs=[v0,v1,.int i,vc,.ref d]) (ij:H d=some (.dK [])) (i6:Q vc H):lK _K vs H Q kn
def wW(ar:Addr):Pg:=λds Q Ex=>∃(ms:bA) (zs:List Nat) (ps:List Pt) (j:Nat) (p:Pt),ds=[oy ms ps,.int (j:Int),.list []]/\Good ms zs/\ps[j]?=some p/\(∀p∈ps,mJ zs ps.length p)/\p.spans=[]/\(∀r∈p.rows,cj r∉km)/\(cR ms ps p 0 p.rows (cf p,[])=none->Q .none)/\(∀x,cR ms ps p 0 p.rows (cf p,[])=some x->Ex ar [("part",.int (j:Int)),("at",.int (x.1:Int)),("word",.str x.2)])
def sV(K:aC)(ar:Addr):Sp:=Yl K (wW ar)
theorem G2{ar:Addr}:M6 (wW ar):=by
 rintro ds Q Q' X X' f f2 ⟨ms,zs,ps,j,p,e,h1,h2,h3,h4,h5,q,x⟩;exact⟨ms,zs,ps,j,p,e,h1,h2,h3,h4,h5,λh=>f _ (q h),λa h=>f2 _ _ (x a h)⟩
theorem G3{K:aC}{ar:Addr}:Ph K (sV K ar) (wW ar):=Pj
inductive j1 (ds:List PyData)(Q:PyData->Prop):Prop where
 | mk (ms:bA) (zs:List Nat) (ps:List Pt) (j:Nat) (p:Pt) (ig:ds=[oy ms ps,.int (j:Int),.list []]) (ij:Good ms zs) (i6:ps[j]?=some p) (lj:(∀p∈ps,mJ zs ps.length p)) (qp:p.spans=[]) (wH:(∀r∈p.rows,cj r∉km)) (Ck:Q (yC j (cR ms ps p 0 p.rows (cf p,[])))):j1  ds Q
def lL(K:aC):Sp:=pE K j1
theorem qu:e9 j1:=by
 rintro ds Q Q' f ⟨ms,zs,ps,j,p,z5,g,hp,hall,hsp,hgo,q⟩;exact⟨ms,zs,ps,j,p,z5,g,hp,hall,hsp,hgo,by intros;apply f;apply q<;>assumption⟩
theorem qv{K:aC}:qi K (lL K) j1:=dz
inductive sW(K:aC)(vs:List V)(H:Hp)(Q:VK)(kn:XK):Prop where
 | mk (a:Addr) (ns:List Int) (ig:vs=[.ref a]) (ij:cG K H a (ns.map V.int)) (i6:ns.length<=63) (lj:∀H',Q (.bl true) H'):sW K vs H Q kn
section
variable {P:Program} {w:World} {K:aC} {mg:Str->Option Value} {base:Heap}
theorem wX:aH ["self","part","at","word"] ["self","part","at","word"] (dS gE):=by walk_at "sc"
theorem wY{f:Addr}{fd:FuncData}(F:fe K "__init__" "NoPaper.__init__" gE f fd):bK P w K mg base bP 1 f fd ["self","part","at","word"] (Ff K ["part","at","word"]) false:=by
 refine F.ok wX (λvs H Q E h=>?_) (λcdv A outer s H vs Q E hr h=>?_)
 ·obtain⟨a,C,ys,rfl,hl,_⟩:=h;exact abl (· + 1) hl
 obtain⟨a,C,ys,rfl,hl,hk,hno,e,q⟩:=h;obtain⟨y0,y1,y2,rfl⟩:=Wn hl;refine⟨_,(qK (Fe (pv 0) (pv 1) rfl) (qK (Fe (pv 0) (pv 2) rfl) (qO (Fe (pv 0) (pv 3) rfl)))),?_⟩;refine⟨_,rfl,_,rfl,a,C,rfl,hk,hno _ (acO _),.inl ⟨e,λdx hd hda=>?_⟩⟩;refine⟨_,rfl,_,rfl,a,C,rfl,hk,hno _ (acP _ (acO _)),.inr ⟨dx,_,uS,(uN hda).trans uS,(by show 1 < 900;decide),?_⟩⟩;refine⟨_,rfl,_,rfl,a,C,rfl,hk,hno _ (acP _ (acP _ (acO _))),.inr ⟨dx,_,(uN hda.symm).trans uS,uS,aaT (qc _ _ _) (by show 2 < 900;decide),?_⟩⟩;have z:=q dx hd hda;show Q .non _;rw[Ja,OI hda];exact z
theorem oM:aH ["_law_book","_law_makes_here"] ["_law_book"] (dS m5):=by walk_at "sc"
theorem wZ{f:Addr}{fd:FuncData}(F:fe K "_law_copy" "_law_copy" m5 f fd)(z_list:mg "list"=none):bK P w K mg base bP 1 f fd ["_law_book"] (ll K):=by
 refine F.ok oM (λvs H Q E h=>?_) (λcdv A outer s H vs Q E hr h=>?_)
 ·obtain⟨PP,ds,hP,hv,ms,ps,rfl,m8,p8,q⟩:=h;exact hv.1
 obtain⟨PP,ds,hP,hv,ms,ps,rfl,m8,p8,q⟩:=h;refine bc hP hv ?_;show kN _ _ _ _ [some _,none] [];clear hP hv;refine aj (jh yk (i:=1) oM.nd rfl (aad rfl) 2 ["_law_elder","_law_kinds"] [] ⟨rfl,rfl,rfl,rfl,rfl,rfl,rfl,rfl⟩ (pG (av (n:=0) (ae 0))) (λ_ _ _ _=>(zt rfl (ky (cL (i:=0) (show List.Nodup (["_law_elder","_law_kinds"]:List Str)by decide +kernel) rfl (aad rfl)) (ky (cL (i:=1) (show List.Nodup (["_law_elder","_law_kinds"]:List Str)by decide +kernel) rfl (aad rfl)) vE)))) (SV (m:=2) (sq (qI (i:=0)) (sq (qI (i:=1)) Kq))) (V8 (yh (wj (by decide)) (yh (wj (by decide)) Kc))) (λ_ _ _ _=>⟨m3,(au (aa (ae 0) (aa (rq rfl z_list (aa (ae 1) ah)) ah)))⟩)) (λR kk=>?_);rw[lh,jJ];walk_at "vc";refine GO ms ve ve rfl (by omega) (λi m hm P N hP=>?_) ?_
 ·rw[show ve m=.tuple [wy m.1,.list (aA m.2)]from rfl]at hP ⊢;walk_at "vc";exact⟨rfl,rfl,rfl,by rw[aan rfl];exact⟨rfl,hP⟩⟩
 walk_at "vc";refine kk _ _ ?_;clear kk R;refine bF (az (au (aa (ae 1) (aa (M1 1 ["_law_p"] [] ⟨rfl,rfl,rfl,rfl,rfl,rfl,rfl,rfl⟩ (pG (av (n:=1) (ae 0))) (λ_ _ _ _=>(cL (i:=0) (show List.Nodup (["_law_p"]:List Str)by decide +kernel) rfl (aad rfl))) (qI (i:=0)) (wj (by decide)) (λ_ _ _ _=>⟨m3,(au (aa (rq rfl z_list (aa (av (n:=0) (ae 0)) ah)) (aa (av (n:=1) (ae 0)) (aa (av (n:=2) (ae 0)) (aa (av (n:=3) (ae 0)) (aa (rq rfl z_list (aa (av (n:=4) (ae 0)) ah)) (aa (rq rfl z_list (aa (av (n:=5) (ae 0)) ah)) ah)))))))⟩)) ah)))) ?_;walk_at "vc";refine GO ps eF eF rfl (by omega) (λi p hp P N hP=>?_) q;rw[iY]at hP ⊢;walk_at "vc";exact⟨rfl,rfl,by rw[aan rfl];exact⟨rfl,hP⟩⟩
theorem mT:aH ["_law_makes_here","_law_c","_law_other"] ["_law_makes_here","_law_c","_law_other"] (dS kO):=by walk_at "sc"
theorem ub{f:Addr}{fd:FuncData}(F:fe K "_law_under" "_law_under" kO f fd):bK P w K mg base bP 1 f fd ["_law_makes_here","_law_c","_law_other"] (jN K):=by
 refine F.ok mT (λvs H Q E h=>?_) (λcdv A outer s H vs Q E hr h=>?_)
 ·obtain⟨PP,ds,hP,hv,ms,c,o,rfl,hw,hc,q⟩:=h;exact hv.1
 obtain⟨PP,ds,hP,hv,ms,c,o,rfl,hw,hc,q⟩:=h;refine bc hP hv ?_;show kN _ _ _ _ [some _,some _,some _] [];clear hP hv;refine aj (ym aaI (tW.dt (iR (mn (ae 1) c9) (iu (og (hr.units) (ae 1) (ae 2))))) (ax (aL (i:=1) mT.nd rfl (aad rfl) (av (n:=0) (br (ae 0) (ae 1) (λ_ _=>rfl)))))) (λR kk=>?_);refine BS (λm env st=>∃(cur:Option Nat),env=[some (.dat (eE ms)),some (.dat (wy cur)),some (.dat (.int (o:Int)))]/\st=[]/\(∀j,cur=some j->j < ms.length)/\(o∈bD ms c↔o∈rest ms cur)/\m=(match cur with | some j=>j + 1 | none=>0)) ⟨_,some c,rfl,rfl,(λj hj=>by cases hj;exact hc),Iff.rfl,rfl⟩ ?_;rintro m env st ⟨cur,rfl,rfl,hj,hf,rfl⟩
 cases cur with
 | none =>
  rw[show wy none=.none from rfl];walk_at "vs";refine eQ (eQ (kk _ _ ?_));clear kk R;refine bF (az (BH (ae 1) c9)) ?_;walk_at "vc";rw[aaw (λz=>nomatch hf.mp z)]at q;exact q
 | some j =>
  have hjl:=hj j rfl;have hm:=cW hjl;obtain⟨mk,hm',hel,hlt⟩:=hw.el hjl;rw[hm]at hm';cases hm';rw[show wy (some j)=.int (j:Int)from rfl];walk_at "vs";refine fh (rz (λne=>?_) (λe=>kk _ _ ?_))
  ·clear kk;rw[jJ];walk_at "vc";refine⟨_,bO (f:=ve) hm,?_⟩;rw[show ve ms[j]=.tuple [wy ms[j].1,.list (aA ms[j].2)]from rfl];walk_at "vc";refine⟨_,?_,ms[j].1,rfl,rfl,λi hi=>?_,?_,rfl⟩
   ·cases e:ms[j].1 with
    | none=>exact acY _
    | some i=>have:=hlt i e;show i + 1 < j + 1;omega
   ·have:=hlt i hi;omega
   ·rw[hf];show o∈bD ms j↔_;rw[eI hw hjl,hel,aap];exact⟨λz=>z.resolve_left (λz=>ne (by rw[z])),.inr⟩
  ·clear kk R;refine bF (az (BH (ae 1) c9)) ?_;walk_at "vc";rw[aaD (hf.mpr (by show o∈bD ms j;rw[eI hw hjl];exact aap.mpr (.inl (by omega))))]at q;exact q
theorem qR:aH ["_law_makes_here","_law_kind_here","_law_other"] ["_law_makes_here","_law_kind_here","_law_other"] (dS iU):=by walk_at "sc"
theorem qS{f:Addr}{fd:FuncData}(F:fe K "_law_beneath" "_law_beneath" iU f fd)(oN:dw P w K mg base bP "_law_under" 1 ["_law_makes_here","_law_c","_law_other"] (jN K)):bK P w K mg base bP 2 f fd ["_law_makes_here","_law_kind_here","_law_other"] (dE K):=by
 refine F.ok qR (λvs H Q E h=>?_) (λcdv A outer s H vs Q E hr h=>?_)
 ·obtain⟨PP,ds,hP,hv,ms,k,o,rfl,hw,hk,q⟩:=h;exact hv.1
 obtain⟨PP,ds,hP,hv,ms,k,o,rfl,hw,hk,q⟩:=h;refine bc hP hv ?_;show kN _ _ _ _ [some _,some _,some _] [];clear hP hv;refine aj (aV (tW.dt (uW (dr (hr.units) (ae 2) (au (aa aw ah))) (rY (dr (hr.units) (ae 1) (ae 2))))) (ax (az nY)) aB) (λR kk=>?_);have Yz:=zZ k;have Wx:=zZ o;walk_at "vc";rw[show PyData.tuple [PyData.str "any"]=.tuple (cH .any)from rfl,Gq,Gq];refine⟨⟨Wx,zZ .any⟩,aW (λe=>fh ?_) (λe=>⟨⟨Yz,Wx⟩,aW (λe2=>?_) (λe2=>kk _ _ ?_)⟩)⟩
 ·subst e;rw[show below ms k .any=true by cases k<;>rfl]at q
  exact q
 ·subst e2;rw[Aa hw hk]at q;exact q
 clear kk R Yz Wx;refine aj (aV (og (hr.units) (av (n:=0) (ae 1)) (av (n:=0) (ae 2))) (ax (az nY)) aB) (λR kk=>?_)
 cases o with
 | any=>exact absurd rfl e
 | num =>
  cases k with
  | any =>
   rw[show cH (.any)=[.str "any"]from rfl,show cH (.num)=[.str "number"]from rfl];walk_at "vc";exact qM (by decide +kernel) q
  | num =>
   exact absurd rfl e2
  | whole c =>
   rw[show cH (.whole c)=[.str "whole",.int (c:Int)]from rfl,show cH (.num)=[.str "number"]from rfl];walk_at "vc";exact qM (by decide +kernel) q
  | raw c m =>
   rw[show cH (.raw c m)=[.str "raw",.int (c:Int),.int (m:Int)]from rfl,show cH (.num)=[.str "number"]from rfl];walk_at "vc";exact qM (by decide +kernel) q
 | whole d =>
  cases k with
  | any =>
   rw[show cH (.any)=[.str "any"]from rfl,show cH (.whole d)=[.str "whole",.int (d:Int)]from rfl];walk_at "vc";exact qM (by decide +kernel) q
  | num =>
   rw[show cH (.num)=[.str "number"]from rfl,show cH (.whole d)=[.str "whole",.int (d:Int)]from rfl];walk_at "vc";exact qM (by decide +kernel) q
  | whole c =>
   rw[show cH (.whole c)=[.str "whole",.int (c:Int)]from rfl,show cH (.whole d)=[.str "whole",.int (d:Int)]from rfl];walk_at "vc";refine oA (by decide +kernel) (kk _ _ ?_);clear kk R;refine aj (aV (dr (hr.units) (av (n:=0) (ae 1)) aw) (ax (az (aD oN oE oC (hr.mono (by decide)) rfl (aa (ae 0) (aa (av (n:=1) (ae 1)) (aa (av (n:=1) (ae 2)) ah)))))) aB) (λR kk=>?_);walk_at "vc";exact Yy (by decide +kernel) ⟨ms,c,d,rfl,hw,hk c rfl,q⟩
  | raw c m =>
   rw[show cH (.raw c m)=[.str "raw",.int (c:Int),.int (m:Int)]from rfl,show cH (.whole d)=[.str "whole",.int (d:Int)]from rfl];walk_at "vc";exact qM (by decide +kernel) q
 | raw d n =>
  cases k with
  | any =>
   rw[show cH (.any)=[.str "any"]from rfl,show cH (.raw d n)=[.str "raw",.int (d:Int),.int (n:Int)]from rfl];walk_at "vc";exact qM (by decide +kernel) q
  | num =>
   rw[show cH (.num)=[.str "number"]from rfl,show cH (.raw d n)=[.str "raw",.int (d:Int),.int (n:Int)]from rfl];walk_at "vc";exact qM (by decide +kernel) q
  | whole c =>
   rw[show cH (.whole c)=[.str "whole",.int (c:Int)]from rfl,show cH (.raw d n)=[.str "raw",.int (d:Int),.int (n:Int)]from rfl];walk_at "vc";exact qM (by decide +kernel) q
  | raw c m =>
   rw[show cH (.raw c m)=[.str "raw",.int (c:Int),.int (m:Int)]from rfl,show cH (.raw d n)=[.str "raw",.int (d:Int),.int (n:Int)]from rfl];walk_at "vc";refine oA (by decide +kernel) (kk _ _ ?_);clear kk R;refine aj (aV (dr (hr.units) (av (n:=0) (ae 1)) aw) (ax (az (aD oN oE oC (hr.mono (by decide)) rfl (aa (ae 0) (aa (av (n:=1) (ae 1)) (aa (av (n:=1) (ae 2)) ah)))))) aB) (λR kk=>?_);walk_at "vc";refine TB (by decide +kernel) (kk _ _ ?_);clear kk R;refine bF (az (BK (BE (hr.units) (av (n:=1) (ae 1)) (av (n:=1) (ae 2))) (FI (BE (hr.units) (zR (av (n:=2) (ae 1)) (av (n:=2) (ae 2))) (av (n:=2) (ae 2)))))) ?_;walk_at "vc";have q:∀(v:V) (H':Hp),aK H H'->aJ K PP H' v (.bool (decide (c=d)&&decide (m&&&n=n)))->Q v H':=q;refine aW (λh=>?_) (λh=>?_)
   ·rw[aaD (show c=d by omega),Bool.true_and]at q;rw[sF,show decide (((m&&&n:Nat):Int)=(n:Int))=decide (m&&&n=n)by rw[acy,ab7,ab7];omega];exact q
   ·rw[aaw (show ¬ c=d by omega),Bool.false_and]at q;exact q
theorem eX:aH ["_law_makes_here","_law_c","_law_found"] ["_law_makes_here","_law_c"] (dS jG):=by walk_at "sc"
theorem sX{f:Addr}{fd:FuncData}(F:fe K "_law_fields" "_law_fields" jG f fd):bK P w K mg base bP 1 f fd ["_law_makes_here","_law_c"] (cI K):=by
 refine F.ok eX (λvs H Q E h=>?_) (λcdv A outer s H vs Q E hr h=>?_)
 ·obtain⟨PP,ds,hP,hv,ms,zs,c,rfl,g,hc,q⟩:=h;exact hv.1
 obtain⟨PP,ds,hP,hv,ms,zs,c,rfl,g,hc,q⟩:=h;refine bc hP hv ?_;show kN _ _ _ _ [some _,some _,none] [];clear hP hv;have gl:=g.len;have c6:=g.gY hc;refine aj (aL (i:=2) eX.nd rfl (aad rfl) (eU ah)) (λR kk=>?_);walk_at "vc";refine kk _ _ ?_;clear kk R;refine aj (ym aaI (mn (ae 1) c9) (b6 (aL (i:=2) eX.nd rfl (aad rfl) (bR (av (n:=1) (br (ae 0) (ae 1) (λ_ _=>rfl))) (ae 2)))
   (ax (aL (i:=1) eX.nd rfl (aad rfl) (av (n:=0) (br (ae 0) (ae 1) (λ_ _=>rfl))))))) (λR kk=>?_)
 refine BS (λm env st=>∃(cur:Option Nat) (ys:List Kd),env=[some (.dat (eE ms)),some (.dat (wy cur)),some (.dat (.list (aA ys)))]/\st=[]/\(∀j,cur=some j->j < ms.length)/\cB ms (rest ms cur)++ys=fields ms c/\m=(match cur with | some j=>j + 1 | none=>0)) ⟨_,some c,[],rfl,rfl,(λj hj=>by cases hj;exact hc),by rw[aaM];rfl,rfl⟩ ?_;rintro m env st ⟨cur,ys,rfl,rfl,hj,hf,rfl⟩
 cases cur with
 | none =>
  rw[show wy none=.none from rfl];walk_at "vs";refine eQ (kk _ _ ?_);clear kk R;refine bF (az (ae 2)) ?_;walk_at "vc";rw[show ys=fields ms c from hf];exact q
 | some j =>
  have hjl:=hj j rfl;have hm:=cW hjl;have own:ownOf ms j=(ms[j]).2:=by unfold ownOf;rw[hm]
  obtain⟨mk,hm',hel,hlt⟩:=g.wf.el hjl;rw[hm]at hm';cases hm'
  have YA:cB ms (rest ms ms[j].1)++(ms[j].2++ys)=fields ms c:=by
   rw[← hf,← abp];show _=fields ms j++ys;rw[ql g.wf hjl,hel,own]
  have l6:(ms[j].2++ys).length<=6:=by
   have:=abl List.length YA;rw[aaC]at this;omega
  rw[List.length_append]at l6;rw[show wy (some j)=.int (j:Int)from rfl,jJ];walk_at "vc";refine fh ⟨_,bO (f:=ve) hm,?_⟩;rw[show ve ms[j]=.tuple [wy ms[j].1,.list (aA ms[j].2)]from rfl];walk_at "vc";refine⟨by rw[List.length_map,List.length_map];omega,_,bO (f:=ve) hm,?_⟩;rw[show ve ms[j]=.tuple [wy ms[j].1,.list (aA ms[j].2)]from rfl];walk_at "vc";refine⟨_,?_,ms[j].1,ms[j].2++ys,by unfold aA;rw[List.map_append],rfl,λi hi=>?_,YA,rfl⟩
  ·cases e:ms[j].1 with
   | none=>exact acY _
   | some i=>have:=hlt i e;show i + 1 < j + 1;omega
  ·have:=hlt i hi;omega
theorem dN:aH ["_law_book","_law_part_here","_law_row","_law_stand","_law_sign","_law_number","_law_top","_law_kinds","_law_more"] ["_law_book","_law_part_here","_law_row","_law_stand"] (dS m6):=by walk_at "sc"
theorem w6{f:Addr}{fd:FuncData}(F:fe K "_law_does" "_law_does" m6 f fd)(z_int:mg "int"=none)(z_len:mg "len"=none)(z_tuple:mg "tuple"=none)(bE:dw P w K mg base bP "_law_fields" 1 ["_law_makes_here","_law_c"] (cI K)):bK P w K mg base bP 2 f fd ["_law_book","_law_part_here","_law_row","_law_stand"] (lq K):=by
 refine F.ok dN (λvs H Q E h=>?_) (λcdv A outer s H vs Q E hr h=>?_)
 ·obtain⟨PP,ds,hP,hv,ms,zs,ps,j,p,r,s',rfl,g,hp,hok,hgo,hs,h8,b8,Ds,q⟩:=h;exact hv.1
 obtain⟨PP,ds,hP,hv,ms,zs,ps,j,p,r,s',rfl,g,hp,hok,hgo,hs,h8,b8,Ds,q⟩:=h;refine bc hP hv ?_;show kN _ _ _ _ [some _,some _,some _,some _,none,none,none,none,none] [];clear hP hv;have er:ki r=.tuple (.str (cj r)::(wz r).map PyData.int):=rfl;refine aj (aL (i:=4) dN.nd rfl (aad rfl) (av (n:=0) (ae 2))) (λR kk=>?_);rw[er];walk_at "vc";refine kk _ _ ?_;clear kk R;refine aj (aL (i:=5) dN.nd rfl (aad rfl) (au (aa (au (aa aw ah)) ah))) (λR kk=>?_);walk_at "vc";refine kk _ _ ?_;clear kk R;refine aj (aL (i:=6) dN.nd rfl (aad rfl) (jg (av (n:=1) (ae 3)) (cM (cQ aq)) fw)) (λR kk=>?_);rw[show jt s'.1 s'.2=.tuple [.tuple (aA s'.1),.tuple (aA s'.2)]from rfl];walk_at "vc";rw[Cb];refine kk _ _ ?_;clear kk R;refine aj (aV (kL (ae 4) (au (aa aw (aa aw (aa aw (aa aw (aa aw (aa aw (aa aw ah)))))))) rfl) (ax (az (au (aa (oo (ae 5) aq) (aa (ae 5) ah))))) aB) (λR kk=>?_);walk_at "vc";refine⟨⟨rfl,by decide +kernel⟩,gR (l:=aX) (λh=>?_) (λn1=>kk _ _ ?_)⟩
 ·have hb:=iy (hok 1) ((by decide +kernel:∀s∈aX,s∈cC) _ h);generalize cj r=sg at hb h;subst hb;rw[Wu h,Wv h]at q;exact⟨by simp,by decide,by decide,by decide,q⟩
 clear kk R;refine aj (aV (kL (ae 4) (au (aa aw (aa aw ah))) rfl) (ax (az (au (aa (au ah) (aa (oo (ae 5) (si rfl z_int (aa (BE (hr.units) (ae 4) aw) ah))) ah))))) aB) (λR kk=>?_);walk_at "vc";refine⟨⟨rfl,by decide +kernel⟩,gR (l:=["push","jump"]) (λh=>?_) (λn2=>kk _ _ ?_)⟩
 ·rcases aap.mp h with e | e
  ·obtain⟨w,rfl⟩:=KO (hok 1) e;rw[show cj (.push w)="push" from rfl,if_pos (by decide +kernel)];exact⟨by simp,by decide,by decide,by decide,q⟩
  ·exact absurd (show cj r∈km by rw[jr e];decide +kernel) hgo
 clear kk R;refine aj (aV (dr (hr.units) (ae 4) aw) (ax (az (au (aa (au ah) (aa (au (aa (br (av (n:=0) (ae 3)) (av (n:=1) (ae 2)) (λ_ _=>rfl)) ah)) ah))))) aB) (λR kk=>?_);walk_at "vc";refine aW (λe=>?_) (λn3=>kk _ _ ?_)
 ·obtain⟨b,rfl⟩:=B4 (hok 1) e;have hb:b < s'.1.length:=by rw[hs.bx];exact hok 1
  rw[show(wz (.load b)).map PyData.int=[.int (b:Int)]from rfl];walk_at "vc";refine⟨_,bO (f:=λk=>PyData.tuple (cH k)) (cW hb),?_⟩
  have e2:putD ms ps s'.1 s'.2 (.load b)=[s'.1[b]]:=by
   show [(s'.1[b]?).getD .any]=_;rw[cW hb];rfl
  rw[e2]at q;exact q
 clear kk R;refine aj (aV (kL (ae 4) (au (aa aw (aa aw ah))) rfl) (ax (az (au (aa (au (aa (au (aa aw ah)) ah)) (aa (au ah) ah))))) aB) (λR kk=>?_);walk_at "vc";refine⟨⟨rfl,by decide +kernel⟩,gR (l:=["store","drop"]) (λh=>?_) (λn4=>kk _ _ ?_)⟩
 ·rcases aap.mp h with e | e
  ·obtain⟨b,rfl⟩:=sI (hok 1) e;exact q
  ·have e:=jr e;have hb:=iy (hok 1) (by rw[e];decide +kernel);rw[e]at hb;subst hb;rw[Ac (by decide +kernel),Ad (by decide +kernel)]at q;exact q
 clear kk R;refine aj (aV (dr (hr.units) (ae 4) aw) (ax (az (au (aa (au (aa (au (aa aw ah)) ah)) (aa (Kw (ae 6) aq) ah))))) aB) (λR kk=>?_);walk_at "vc";refine aW (λe=>?_) (λn5=>kk _ _ ?_)
 ·have hb:=iy (hok 1) (by rw[e];decide +kernel);rw[e]at hb;subst hb;rw[Ac (by decide +kernel),Cd]at q;rw[fH]at q;by_cases hz:dC s'.2=[]
  ·rw[hz]at q ⊢;exact .inl ⟨rfl,rfl,q⟩
  ·refine .inr ⟨λz=>hz (List.map_eq_nil_iff.mp z),?_,by decide,by decide,?_⟩
   ·rw[aac];have:(dC s'.2).length<=1:=wF _;show _ * 2<=_;omega
   ·rw[show(List.replicate (Int.toNat 2) (aA (dC s'.2))).flatten=aA (dC s'.2)++aA (dC s'.2)by show aA (dC s'.2)++(aA (dC s'.2)++[])=_;rw[aaM]];exact q
 clear kk R;refine aj (aV (dr (hr.units) (ae 4) aw) (ax (az (au (aa (oo (au (aa (au (aa aw ah)) ah)) aq) (aa (bR (ae 6) (jg (av (n:=1) (ae 3)) (cM (cQ aq)) (cM (cQ aq)))) ah))))) aB) (λR kk=>?_);walk_at "vc";refine aW (λe=>?_) (λn6=>kk _ _ ?_)
 ·have hb:=iy (hok 1) (by rw[e];decide +kernel);rw[e]at hb;subst hb;rw[pU,yE,fH]at q;rw[Cc,List.length_map,List.length_map];have:=wF s'.2;have:=wG s'.2;exact⟨by simp,by decide,by decide,by decide,by omega,q⟩
 clear kk R;refine aj (aV (kL (ae 4) (au (aa aw (aa aw (aa aw ah)))) rfl) (ax (az (au (aa (ae 5) (aa (au ah) ah))))) aB) (λR kk=>?_);walk_at "vc";refine⟨⟨rfl,by decide +kernel⟩,gR (l:=["zero","toss","say"]) (λh=>?_) (λn7=>kk _ _ ?_)⟩
 ·rcases aap.mp h with e | e
  ·exact absurd (show cj r∈km by rw[e];decide +kernel) hgo
  ·have hb:=iy (hok 1) ((by decide +kernel:∀s∈(["toss","say"]:List Str),s∈cC) _ e);generalize cj r=sg at hb e;subst hb;rw[PQ e,Ad ((by decide +kernel:∀s∈(["toss","say"]:List Str),s≠"dup"/\s≠"swap"/\s∉aX) _ e)]at q;exact q
 clear kk R;refine aj (aV (dr (hr.units) (ae 4) aw) (ax ji) aB) (λR kk=>?_);walk_at "vc";refine aW (λe=>absurd (show cj r∈km by rw[e];decide +kernel) hgo) (λn8=>kk _ _ ?_);clear kk R;refine aj (aV (dr (hr.units) (ae 4) aw) (ax (az (au (aa (sf rfl z_tuple (aa (av (n:=0) (br (av (n:=1) (ae 0)) (av (n:=1) (ae 2)) (λ_ _=>rfl))) ah)) (aa (au (aa (av (n:=1) (br (av (n:=1) (ae 0)) (av (n:=1) (ae 2)) (λ_ _=>rfl))) ah)) ah))))) aB) (λR kk=>?_);rw[lh];walk_at "vc";refine aW (λe=>?_) (λn9=>kk _ _ ?_)
 ·obtain⟨c,rfl⟩:=B7 (hok 1) e;have hc:c < ps.length:=hok 1;have hpc:=cW hc;rw[show(wz (.call c)).map PyData.int=[.int (c:Int)]from rfl];walk_at "vc";refine⟨_,bO (f:=eF) hpc,?_⟩;rw[iY];walk_at "vc";refine⟨_,bO (f:=eF) hpc,?_⟩;rw[iY];walk_at "vc";rw[show cq ms ps p (.call c)=ps[c].takes by show((ps[c]?).map Pt.takes).getD []=_;rw[hpc];rfl,show putD ms ps s'.1 s'.2 (.call c)=[ps[c].gives]by show [((ps[c]?).map Pt.gives).getD .any]=_;rw[hpc];rfl]at q;exact q
 clear kk R;refine aj (aV (dr (hr.units) (ae 4) aw) (ax (az (au (aa (au (aa (av (n:=1) (br (av (n:=1) (ae 0)) (ae 1) (λ_ _=>rfl))) ah)) (aa (au ah) ah))))) aB) (λR kk=>?_);walk_at "vc";refine aW (λe=>?_) (λTJ=>kk _ _ ?_)
 ·have hb:=iy (hok 1) (by rw[e];decide +kernel);rw[e]at hb;subst hb;refine⟨_,bO (f:=eF) hp,?_⟩;rw[iY];walk_at "vc";rw[GQ,Ad (by decide +kernel)]at q;exact q
 clear kk R;obtain⟨c,hc,hrn⟩:∃c,c < ms.length/\((r=.make c)∨(r=.beg c)∨(∃f,f < (fields ms c).length/\(r=.get c f∨r=.put c f∨r=.fill c f))):=KP g (hok 1) hgo n1 n2 n3 n4 n5 n6 n7 n9 TJ;have c6:=g.gY hc
 obtain⟨rs,hrs⟩:∃rs,wz r=(c:Int)::rs:=by
  rcases hrn with rfl | rfl | ⟨f,_,rfl | rfl | rfl⟩<;>exact⟨_,rfl⟩
 rw[hrs,aa7];refine aj (aL (i:=7) dN.nd rfl (aad rfl) (aD bE cK cJ (hr.mono (by decide)) rfl (aa (av (n:=0) (ae 0)) (aa (av (n:=1) (ae 2)) ah)))) (λR kk=>?_);walk_at "vc";refine⟨ms,zs,c,rfl,g,hc,?_⟩;refine kk _ _ ?_;clear kk R;refine aj (aV (dr (hr.units) (ae 4) aw) (ax (az (au (aa (au ah) (aa (au (aa (au (aa aw (aa (av (n:=1) (ae 2)) (aa aq ah)))) ah)) ah))))) aB) (λR kk=>?_);walk_at "vc";refine aW (λe=>?_) (λn11=>kk _ _ ?_)
 ·obtain rfl:r=.make c:=by
   rcases hrn with rfl | rfl | ⟨f,_,rfl | rfl | rfl⟩
   ·rfl
   ·exact absurd e (show ¬ ("begin" : Str)="make" by decide +kernel)
   ·exact absurd e (show ¬ ("get" : Str)="make" by decide +kernel)
   ·exact absurd e (show ¬ ("put" : Str)="make" by decide +kernel)
   ·exact absurd e (show ¬ ("fill" : Str)="make" by decide +kernel)
  exact q
 clear kk R;refine aj (aV (dr (hr.units) (ae 4) aw) (ax (az (au (aa (au (aa (au (aa aw (aa (av (n:=1) (ae 2)) (aa (mX (zQ aq (bB rfl z_len (aa (ae 7) ah))) aq) ah)))) ah)) (aa (au (aa (au (aa aw (aa (av (n:=1) (ae 2)) ah))) ah)) ah))))) aB) (λR kk=>?_);walk_at "vc";refine aW (λe=>?_) (λWy=>kk _ _ ?_)
 ·obtain rfl:r=.beg c:=by
   rcases hrn with rfl | rfl | ⟨f,_,rfl | rfl | rfl⟩
   ·exact absurd e (show ¬ ("make" : Str)="begin" by decide +kernel)
   ·rfl
   ·exact absurd e (show ¬ ("get" : Str)="begin" by decide +kernel)
   ·exact absurd e (show ¬ ("put" : Str)="begin" by decide +kernel)
   ·exact absurd e (show ¬ ("fill" : Str)="begin" by decide +kernel)
  have el:(aA (fields ms c)).length=(fields ms c).length:=aac _;rw[el];refine⟨⟨by omega,by omega,by decide⟩,?_⟩;rw[aaP,ac0]
  have e2:((2:Int) ^ (fields ms c).length - 1)=((2 ^ (fields ms c).length - 1:Nat):Int):=by
   have:1<=2 ^ (fields ms c).length:=Nat.one_le_two_pow;rw[Int.ofNat_sub this,Int.natCast_pow];rfl
  rw[e2];exact q
 clear kk R
 obtain⟨f',hf,hrf⟩:∃f,f < (fields ms c).length/\(r=.get c f∨r=.put c f∨r=.fill c f):=by
  rcases hrn with rfl | rfl | z
  ·exact absurd rfl n11
  ·exact absurd rfl Wy
  ·exact z
 clear hrn
 obtain rfl:rs=[(f':Int)]:=by
  rcases hrf with rfl | rfl | rfl<;>exact(List.cons.inj hrs).2.symm
 have hff:=cW hf;rw[show List.map PyData.int [(f':Int)]=[PyData.int (f':Int)]from rfl];refine aj (aV (dr (hr.units) (ae 4) aw) (ax (az (au (aa (au (aa (au (aa aw (aa (av (n:=1) (ae 2)) ah))) ah)) (aa (au (aa (br (ae 7) (av (n:=2) (ae 2)) (λ_ _=>rfl)) ah)) ah))))) aB) (λR kk=>?_);walk_at "vc";refine aW (λe=>?_) (λWz=>kk _ _ ?_)
 ·obtain rfl:r=.get c f':=by
   rcases hrf with rfl | rfl | rfl
   ·rfl
   ·exact absurd e (show ¬ ("put" : Str)="get" by decide +kernel)
   ·exact absurd e (show ¬ ("fill" : Str)="get" by decide +kernel)
  refine⟨_,bO (f:=λk=>PyData.tuple (cH k)) hff,?_⟩;rw[show putD ms ps s'.1 s'.2 (.get c f')=[(fields ms c)[f']]by show [((fields ms c)[f']?).getD .any]=_;rw[hff];rfl]at q;exact q
 clear kk R;refine aj (aV (dr (hr.units) (ae 4) aw) (ax (az (au (aa (au (aa (au (aa aw (aa (av (n:=1) (ae 2)) ah))) (aa (br (ae 7) (av (n:=2) (ae 2)) (λ_ _=>rfl)) ah))) (aa (au ah) ah))))) aB) (λR kk=>?_);walk_at "vc";refine aW (λe=>?_) (λn14=>kk _ _ ?_)
 ·obtain rfl:r=.put c f':=by
   rcases hrf with rfl | rfl | rfl
   ·exact absurd e (show ¬ ("get" : Str)="put" by decide +kernel)
   ·rfl
   ·exact absurd e (show ¬ ("fill" : Str)="put" by decide +kernel)
  refine⟨_,bO (f:=λk=>PyData.tuple (cH k)) hff,?_⟩;rw[show cq ms ps p (.put c f')=[.whole c,(fields ms c)[f']]by show [Kd.whole c,((fields ms c)[f']?).getD .any]=_;rw[hff];rfl]at q;exact q
 clear kk R
 obtain rfl:r=.fill c f':=by
  rcases hrf with rfl | rfl | rfl
  ·exact absurd rfl Wz
  ·exact absurd rfl n14
  ·rfl
 refine aj (jh yk (i:=8) dN.nd rfl (Or.inl rfl) 1 ["_law_kind_here","_law_row"] [2] ⟨rfl,rfl,rfl,rfl,rfl,rfl,rfl,rfl⟩ (pG (jg (av (n:=1) (ae 3)) (cM (cQ aq)) (cM (cQ aq)))) (λ_ _ _ _=>(cL (i:=0) (show List.Nodup (["_law_kind_here","_law_row"]:List Str)by decide +kernel) rfl (Or.inl rfl))) (qI (i:=0)) (wj (by decide)) (λ_ _ _ _=>⟨(O6 (dr (hr.units) (av (n:=0) (ae 0)) aw)),(au (aa aw (aa (av (n:=1) (ae 1)) (aa (SE (av (n:=2) (ae 0)) (zQ aq (av (n:=2) (ae 1)))) ah))))⟩)) (λR kk=>?_);walk_at "vc";rw[Cc];refine FX (λi ys=>ys=aA (((jk s'.2).take i).filterMap (yD c f'))) (by rw[List.length_map];have:=wG s'.2;omega) (by simp[aA]) (λi ys d hd' hy=>?_) (λys hy=>?_)
 ·rw[aA,aaq]at hd'
  cases w:(jk s'.2)[i]? with
  | none=>rw[w]at hd';cases hd'
  | some k =>
   rw[w]at hd';cases hd';rw[ace,w,show(some k).toList=[k]from rfl,List.filterMap_append]
   have e0:∀k':Kd,yD c f' k'=none->ys=aA (((jk s'.2).take i).filterMap (yD c f')++[k'].filterMap (yD c f')):=λk' hk=>by
    rw[List.filterMap_cons_none hk,List.filterMap_nil,aaM];exact hy
   show gN 0 (DV.dat (PyData.tuple (cH k))) _ _ _
   cases k with
   | num =>
    rw[show cH Kd.num=[PyData.str "number"]from rfl];walk_at "vc";refine⟨rfl,rfl,?_⟩;rw[aak (by decide +kernel)];exact e0 _ rfl
   | any =>
    rw[show cH Kd.any=[PyData.str "any"]from rfl];walk_at "vc";refine⟨rfl,rfl,?_⟩;rw[aak (by decide +kernel)];exact e0 _ rfl
   | whole a =>
    rw[show cH (Kd.whole a)=[PyData.str "whole",.int (a:Int)]from rfl];walk_at "vc";refine⟨rfl,rfl,?_⟩;rw[aak (by decide +kernel)];exact e0 _ rfl
   | raw a m =>
    rw[show cH (Kd.raw a m)=[PyData.str "raw",.int (a:Int),.int (m:Int)]from rfl];walk_at "vc";refine⟨rfl,rfl,?_⟩;rw[aan (by decide +kernel)];show N5 1 (f':Int)/\([]:aI)=[]/\ys++[PyData.tuple [PyData.str (Str.ofString "raw"),PyData.int (c:Int),PyData.int (Builtin.bitOr (m:Int) (1 * 2 ^ (f':Int).toNat))]]=_;refine⟨⟨by omega,by omega,by decide⟩,rfl,?_⟩;rw[aaP,ac0,show(2:Int) ^ f'=((2 ^ f':Nat):Int)by rw[Int.natCast_pow];rfl,Gz,hy,fH];rfl
 walk_at "vc";refine kk _ _ ?_;clear kk R;refine aj (az (au (aa (au (aa (au (aa aw (aa (av (n:=1) (ae 2)) (aa aq ah)))) (aa (br (ae 7) (av (n:=2) (ae 2)) (λ_ _=>rfl)) ah))) (aa (sf rfl z_tuple (aa (ae 8) ah)) ah)))) (λR kk=>?_);walk_at "vc";refine⟨_,bO (f:=λk=>PyData.tuple (cH k)) hff,?_⟩;rw[show cq ms ps p (.fill c f')=[.raw c 0,(fields ms c)[f']]by show [Kd.raw c 0,((fields ms c)[f']?).getD .any]=_;rw[hff];rfl]at q;rw[hy,aA,aac,List.take_length];exact q
theorem cg:aH ["_law_book","_law_part_here","_law_row","_law_stand","_law_boxes","_law_stack","_law_asks","_law_puts","_law_deep","_law_kind_here","_law_higher"] ["_law_book","_law_part_here","_law_row","_law_stand"] (dS m7):=by walk_at "sc"
theorem w8{f:Addr}{fd:FuncData}(F:fe K "_law_done" "_law_done" m7 f fd)(z_len:mg "len"=none)(oO:mg "zip"=none)(dG:dw P w K mg base bP "_law_beneath" 2 ["_law_makes_here","_law_kind_here","_law_other"] (dE K))(yP:dw P w K mg base bP "_law_does" 2 ["_law_book","_law_part_here","_law_row","_law_stand"] (lq K)):bK P w K mg base bP 3 f fd ["_law_book","_law_part_here","_law_row","_law_stand"] (iA K):=by
 refine F.ok cg (λvs H Q E h=>?_) (λcdv A outer s H vs Q E hr h=>?_)
 ·obtain⟨PP,ds,hP,hv,ms,zs,ps,j,p,r,s',rfl,g,hp,hok,hgo,hs,h8,b8,Ds,q⟩:=h;exact hv.1
 obtain⟨PP,ds,hP,hv,ms,zs,ps,j,p,r,s',rfl,g,hp,hok,hgo,hs,h8,b8,Ds,q⟩:=h;refine bc hP hv ?_;show kN _ _ _ _ [some _,some _,some _,some _,none,none,none,none,none,none,none] [];clear hP hv;refine aj (pJ (ae 3) (kM (m:=2) rfl (bZ (bN (i:=4) cg.nd rfl (aad rfl)) (bZ (bN (i:=5) cg.nd rfl (aad rfl)) iw)))) (λR kk=>?_);rw[show jt s'.1 s'.2=.tuple [.tuple (aA s'.1),.tuple (aA s'.2)]from rfl];walk_at "vc";refine⟨rfl,kk _ _ ?_⟩;clear kk R;refine aj (pJ (aD yP yO yN (hr.mono (by decide)) rfl (aa (ae 0) (aa (ae 1) (aa (ae 2) (aa (ae 3) ah))))) (kM (m:=2) rfl (bZ (bN (i:=6) cg.nd rfl (aad rfl)) (bZ (bN (i:=7) cg.nd rfl (aad rfl)) iw)))) (λR kk=>?_);walk_at "vc";refine⟨ms,zs,ps,j,p,r,s',rfl,g,hp,hok,hgo,hs,h8,b8,Ds,?_⟩;walk_at "vc";refine⟨rfl,kk _ _ ?_⟩;clear kk R;have lk:∀l:List Kd,(aA l).length=l.length:=λl=>aac ..
 have hst:=hs.st;refine aj (aL (i:=8) cg.nd rfl (aad rfl) (mX (bB rfl z_len (aa (ae 5) ah)) (bB rfl z_len (aa (ae 6) ah)))) (λR kk=>?_);walk_at "vc";refine kk _ _ ?_;clear kk R;refine aj (aV (mR (ae 8) aq) (ax (az (au (aa aw (aa (ae 3) ah))))) aB) (λR kk=>?_);walk_at "vc";rw[lk,lk];refine aW (λe=>?_) (λh1=>kk _ _ ?_)
 ·rw[gF (w:="empty") (by unfold bW;rw[if_pos (by omega)])]at q;exact q
 clear kk R;have e1:((s'.2.length:Int) - ((cq ms ps p r).length:Int))=((kj ms ps p r s'.2:Nat):Int):=by unfold kj;omega
 rw[e1];refine aj (iS PassesOwn.never rfl (FV rfl oO (aa (jg (ae 5) (cM (ae 8)) fw) (aa (ae 6) ah))) (kM (m:=2) rfl (bZ (bN (i:=9) cg.nd rfl (Or.inl rfl)) (bZ (bN (i:=10) cg.nd rfl (Or.inl rfl)) iw))) (ax (aV (mZ (pC (aD dG g9 g7 (hr.mono (by decide)) rfl (aa (av (n:=0) (ae 0)) (aa (ae 9) (aa (ae 10) ah)))))) (ax (az (au (aa aw (aa (ae 3) ah))))) aB))) (λR kk=>?_);rw[lh];walk_at "vc";rw[vn];have tl:(s'.2.drop (kj ms ps p r s'.2)).length=(cq ms ps p r).length:=by unfold kj;rw[List.length_drop];omega
 refine fz (λi env st=>∃(o9 qT:Option DV),env=[some (.dat (.tuple [eE ms,.list (List.map eF ps)])),some (.dat (.int (j:Int))),some (.dat (ki r)),some (.dat (.tuple [.tuple (aA s'.1),.tuple (aA s'.2)])),some (.dat (.tuple (aA s'.1))),some (.dat (.tuple (aA s'.2))),some (.dat (.tuple (aA (cq ms ps p r)))),some (.dat (.tuple (aA (putD ms ps s'.1 s'.2 r)))),some (.dat (.int (kj ms ps p r s'.2:Int))),o9,qT]/\st=[]/\∀i',i' < i->∀k o,(s'.2.drop (kj ms ps p r s'.2))[i']?=some k->(cq ms ps p r)[i']?=some o->below ms k o=true) ⟨_,_,rfl,rfl,λi' h=>absurd h (Nat.not_lt_zero _)⟩ (λ_ _ _ _=>trivial) ?_ ?_
 ·rintro i env st d hd ⟨o9,qT,rfl,rfl,hall⟩;obtain⟨x,y,hx,hy,rfl⟩:=BW hd;obtain⟨k,hk,rfl⟩:=jE hx;obtain⟨o,ho,rfl⟩:=jE hy;walk_at "vc";refine⟨rfl,ms,k,o,rfl,g.wf,cV.Va g (hs.k2 k (abZ (aaf hk))),?_⟩;walk_at "vc"
  cases hb:below ms k o with
  | false =>
   rw[gF (w:="kind") (by unfold bW;unfold kj at hk;rw[if_neg (by omega),if_pos (Cf hk ho hb)])]at q;exact q
  | true =>
   refine⟨_,_,rfl,rfl,λi' hi k' o' h1' h2'=>?_⟩;rcases Nat.lt_succ_iff_lt_or_eq.mp hi with z | z
   ·exact hall i' z k' o' h1' h2'
   ·subst z;rw[hk]at h1';rw[ho]at h2';cases h1';cases h2';exact hb
 ·rintro env st ⟨o9,qT,rfl,rfl,hall⟩
  have hba:bV ms (s'.2.drop (kj ms ps p r s'.2)) (cq ms ps p r)=true:=by
   refine Dl tl λi k o h1' h2'=>hall i ?_ k o h1' h2'
   have a:=(bX h1').1;have b:=(bX h2').1;unfold C3;rw[List.length_map,List.length_zip,List.length_map,lk];omega
  have hpd:=KQ (bx:=s'.1) (hok 1) hgo (by omega) hba;have hln:=B9 (ms:=ms) (ps:=ps) (bx:=s'.1) (tk:=s'.2.drop (kj ms ps p r s'.2)) (hok 1);rw[← hpd]at hln;refine kk _ _ ?_;clear kk R;refine aj (aV (qh (bR (ae 8) (bB rfl z_len (aa (ae 7) ah))) (av (n:=3) (br (av (n:=1) (ae 0)) (ae 1) (λ_ _=>rfl)))) (ax (az (au (aa aw (aa (ae 3) ah))))) aB) (λR kk=>?_);walk_at "vc";refine⟨_,bO (f:=eF) hp,?_⟩;rw[iY];walk_at "vc";rw[lk];refine aW (λe=>?_) (λh3=>kk _ _ ?_)
  ·rw[gF (w:="high") (by unfold bW;rw[if_neg (by omega),if_neg (by unfold kj at hba;rw[hba];decide),if_pos (by unfold kj at e;omega)])]at q;exact q
  clear kk R;rw[done_none (by unfold bW;rw[if_neg (by omega),if_neg (by unfold kj at hba;rw[hba];decide),if_neg (by unfold kj at h3;omega)]),← hpd]at q;refine aj (aV (dr (hr.units) (av (n:=0) (ae 2)) aw) (ax (aL (i:=4) cg.nd rfl (Or.inl rfl) (bR (bR (jg (ae 4) fw (cM (av (n:=1) (ae 2)))) (jg (ae 5) (cM (cQ aq)) fw)) (jg (ae 4) (cM (bR (av (n:=1) (ae 2)) aq)) fw)))) aB) (λR kk=>?_)
  have nxt:∀d o9 qT,d=PyData.tuple (aA (oz s'.1 (s'.2.drop (kj ms ps p r s'.2)) r))->R [some (.dat (.tuple [eE ms,.list (List.map eF ps)])),some (.dat (.int (j:Int))),some (.dat (ki r)),some (.dat (.tuple [.tuple (aA s'.1),.tuple (aA s'.2)])),some (.dat d),some (.dat (.tuple (aA s'.2))),some (.dat (.tuple (aA (cq ms ps p r)))),some (.dat (.tuple (aA (putD ms ps s'.1 s'.2 r)))),some (.dat (.int (kj ms ps p r s'.2:Int))),o9,qT] []:=by
   rintro d o9 qT rfl;refine kk _ _ ?_;clear kk R;refine bF (az (au (aa c9 (aa (au (aa (ae 4) (aa (bR (jg (ae 5) fw (cM (ae 8))) (ae 7)) ah))) ah)))) ?_;walk_at "vc";have e2:cutD (aA s'.2) none (some ((kj ms ps p r s'.2:Nat):Int))=aA (s'.2.take (kj ms ps p r s'.2)):=wB _ _;have hpl:=GU ms ps s'.1 s'.2 r;rw[e2,← fH];refine⟨by rw[lk,lk,aaG];omega,?_⟩;exact q
  clear kk;rw[show ki r=.tuple (.str (cj r)::(wz r).map PyData.int)from rfl]at nxt ⊢;walk_at "vc";refine aW (λe=>?_) (λne=>nxt _ _ _ (by rw[yA ne]));obtain⟨b,rfl⟩:=sI (hok 1) e;have hb:b < s'.1.length:=by rw[hs.bx];exact hok 1
  have h1':1<=s'.2.length:=Nat.not_lt.mp λz=>h1 (by show(s'.2.length:Int) - ((1:Nat):Int) < 0;omega)
  have c1:(cutD (aA s'.1) none (some (b:Int))).length<=8:=aau (wC ..) (by rw[lk,hs.bx];exact b8);have c2:(cutD (aA s'.2) (some (-1)) none).length<=8:=aau (wC ..) (by rw[lk];omega);have c3:(cutD (aA s'.1) (some ((b:Int) + 1)) none).length<=8:=aau (wC ..) (by rw[lk,hs.bx];exact b8);rw[show(wz (.store b)).map PyData.int=[.int (b:Int)]from rfl]at nxt ⊢;walk_at "vc";refine⟨by omega,by rw[aaC];omega,nxt _ _ _ (abl PyData.tuple (Dp h1' hb))⟩
theorem uc:aH ["_law_part_here"] ["_law_part_here"] (dS kP):=by walk_at "sc"
theorem ud{f:Addr}{fd:FuncData}(F:fe K "_law_entry" "_law_entry" kP f fd)(z_len:mg "len"=none)(z_tuple:mg "tuple"=none):bK P w K mg base bP 1 f fd ["_law_part_here"] (gr K):=by
 refine F.ok uc (λvs H Q E h=>?_) (λcdv A outer s H vs Q E hr h=>?_)
 ·obtain⟨PP,ds,hP,hv,p,rfl,h8,htb,q⟩:=h;exact hv.1
 obtain⟨PP,ds,hP,hv,p,rfl,h8,htb,q⟩:=h;refine bc hP hv ?_;show kN _ _ _ _ [some _] [];clear hP hv;refine bF (az (au (aa (bR (sf rfl z_tuple (aa (av (n:=0) (ae 0)) ah)) (oo (au (aa (au (aa aw ah)) ah)) (mX (av (n:=2) (ae 0)) (bB rfl z_len (aa (av (n:=0) (ae 0)) ah))))) (aa (au ah) ah)))) ?_;rw[iY];walk_at "vc";have lk:(aA p.takes).length=p.takes.length:=aac ..;have hn:((p.boxes:Int) - ((aA p.takes).length:Int)).toNat=p.boxes - p.takes.length:=by rw[lk];omega
 rw[hn,Ab,lk]
 have e:aA p.takes++List.replicate (p.boxes - p.takes.length) (PyData.tuple [.str "any"])=aA (cf p):=by
  unfold cf aA;rw[List.map_append,List.map_replicate];rfl
 refine⟨by simp,by omega,by omega,by omega,by rw[List.length_replicate];omega,?_⟩;rw[e];exact q
theorem dm:aH ["_law_book","_law_part_here","_law_stand","_law_at","_law_row","_law_word_here"] ["_law_book","_law_part_here"] (dS kQ):=by walk_at "sc"
theorem ue{f:Addr}{fd:FuncData}(F:fe K "_law_first" "_law_first" kQ f fd)(z_enumerate:mg "enumerate"=none)(iK:dw P w K mg base bP "_law_done" 3 ["_law_book","_law_part_here","_law_row","_law_stand"] (iA K))(j2:dw P w K mg base bP "_law_entry" 1 ["_law_part_here"] (gr K)):bK P w K mg base bP 4 f fd ["_law_book","_law_part_here"] (jQ K):=by
 refine F.ok dm (λvs H Q E h=>?_) (λcdv A outer s H vs Q E hr h=>?_)
 ·obtain⟨PP,ds,hP,hv,ms,zs,ps,j,p,rfl,g,hp,hall,hf,q⟩:=h;exact hv.1
 obtain⟨PP,ds,hP,hv,ms,zs,ps,j,p,rfl,g,hp,hall,hf,q⟩:=h;refine bc hP hv ?_;show kN _ _ _ _ [some _,some _,none,none,none,none] [];clear hP hv;refine aj (aL (i:=2) dm.nd rfl (aad rfl) (aD j2 wI oF (hr.mono (by decide)) rfl (aa (br (av (n:=1) (ae 0)) (ae 1) (λ_ _=>rfl)) ah))) (λR kk=>?_);rw[lh];have hpt:=hall p (aaf hp);have Ds:∀p'∈ps,p'.takes.length<=8:=λp' h'=>aau (hall p' h').tb (hall p' h').bx
 walk_at "vc";refine⟨_,bO (f:=eF) hp,p,rfl,hpt.bx,hpt.tb,kk _ _ ?_⟩;clear kk R;refine aj (iS aaI rfl (Ka rfl z_enumerate (aa (av (n:=4) (br (av (n:=1) (ae 0)) (ae 1) (λ_ _=>rfl))) ah)) (kM (m:=2) rfl (bZ (bN (i:=3) dm.nd rfl (aad rfl)) (bZ (bN (i:=4) dm.nd rfl (aad rfl)) iw))) (b6 (pJ (aD iK lz lu (hr.mono (by decide)) rfl (aa (ae 0) (aa (ae 1) (aa (ae 4) (aa (ae 2) ah))))) (kM (m:=2) rfl (bZ (bN (i:=5) dm.nd rfl (aad rfl)) (bZ (bN (i:=2) dm.nd rfl (aad rfl)) iw))))
   (b6 (aV (mn (ae 5) c9) (ax (az (au (aa (ae 1) (aa (ae 3) (aa (ae 5) ah)))))) aB)
   (ax (aV (kL (av (n:=0) (ae 4)) (au (aa aw (aa aw ah))) rfl) (ax (az c9)) aB))))) (λR kk=>?_)
 walk_at "vc";refine⟨_,bO (f:=eF) hp,?_⟩;rw[iY];walk_at "vc";refine fz (λi env st=>∃(s:Sd) (o3 o4 o5:Option DV),env=[some (.dat (.tuple [eE ms,.list (ps.map eF)])),some (.dat (.int (j:Int))),some (.dat (jt s.1 s.2)),o3,o4,o5]/\st=[]/\qL zs p s/\cR ms ps p 0 p.rows (cf p,[])=cR ms ps p i (p.rows.drop i) s) ⟨(cf p,[]),_,_,_,rfl,rfl,sM hpt,rfl⟩ (λ_ _ _ _=>trivial) ?_ ?_
 ·rintro i env st d hd ⟨s',o3,o4,o5,rfl,rfl,hs,Du⟩;obtain⟨x,hx,rfl⟩:=yf hd;obtain⟨r,vy,rfl⟩:=jE hx;have hr:=hf r (aaf vy);rw[Ca vy]at Du;have Du:_=(match doneK ms ps p r s' with | (some w,_)=>some (i,w) | (none,s')=>if cj r∈nv then none else cR ms ps p (i + 1) (p.rows.drop (i + 1)) s'):=Du;have hdo:=rB g hall (hr.1 1) hs;walk_at "vs";refine⟨rfl,?_⟩;refine fA (λR1 k1=>?_);walk_at "vs";refine⟨ms,zs,ps,j,p,r,s',rfl,g,hp,hr.1,hr.2,hs,hpt.h8,hpt.bx,Ds,?_⟩;walk_at "vs";refine⟨rfl,k1 _ _ ?_⟩;clear k1 R1
  cases hw:doneK ms ps p r s' with
  | mk w s2 =>
   rw[hw]at Du hdo
   cases w with
   | some w =>
    rw[show Vc (some w)=.str w from rfl];refine fA (λR1 k1=>?_);walk_at "vs";rw[show cR ms ps p 0 p.rows (cf p,[])=some (i,w)from Du]at q;exact qM rfl q
   | none =>
    rw[show Vc none=.none from rfl];refine fA (λR1 k1=>?_);walk_at "vs";refine oA rfl (k1 _ _ ?_);clear k1 R1;have Du:_=(if cj r∈nv then none else cR ms ps p (i + 1) (p.rows.drop (i + 1)) s2):=Du;rw[show ki r=.tuple (.str (cj r)::(wz r).map PyData.int)from rfl];walk_at "vs";refine⟨⟨rfl,by decide +kernel⟩,gR (l:=["toss","give"]) (λh=>?_) (λh=>?_)⟩
    ·rw[aan ((by decide +kernel:∀s∈(["toss","give"]:List Str),s∈nv) _ h)]at Du;rw[Du]at q;exact q
    ·rw[aak (KU hr h)]at Du;exact⟨s2,_,_,_,rfl,rfl,hdo,Du⟩
 ·rintro env st ⟨s',o3,o4,o5,rfl,rfl,hs,Du⟩;refine kk _ _ ?_;clear kk R;refine bF (az c9) ?_;walk_at "vc";rw[Du,pH,aac,List.drop_length]at q;exact q
theorem h7:aH ["_law_makes_here","_law_kind_here","_law_kinds","_law_f"] ["_law_makes_here","_law_kind_here"] (dS jH):=by walk_at "sc"
theorem sY{f:Addr}{fd:FuncData}(F:fe K "_law_wanted" "_law_wanted" jH f fd)(z_len:mg "len"=none)(z_range:mg "range"=none)(bE:dw P w K mg base bP "_law_fields" 1 ["_law_makes_here","_law_c"] (cI K)):bK P w K mg base bP 2 f fd ["_law_makes_here","_law_kind_here"] (iZ K):=by
 refine F.ok h7 (λvs H Q E h=>?_) (λcdv A outer s H vs Q E hr h=>?_)
 ·obtain⟨PP,ds,hP,hv,ms,zs,np,nb,c,m,rfl,g,hc,q⟩:=h;exact hv.1
 obtain⟨PP,ds,hP,hv,ms,zs,np,nb,c,m,rfl,g,hc,q⟩:=h;refine bc hP hv ?_;show kN _ _ _ _ [some _,some _,none,none] [];clear hP hv;have c6:=g.gY hc;have gl:=g.len;refine aj (aL (i:=2) h7.nd rfl (aad rfl) (aD bE cK cJ (hr.mono (by decide)) rfl (aa (ae 0) (aa (av (n:=1) (ae 1)) ah)))) (λR kk=>?_);walk_at "vc";refine⟨ms,zs,c,rfl,g,hc,?_⟩;refine kk _ _ ?_;clear kk R;refine aj (iS aaI rfl (fj rfl z_range (aa (bB rfl z_len (aa (ae 2) ah)) ah)) (bN (i:=3) h7.nd rfl (aad rfl)) (ax (aV (mZ (BZ (zR (Fx (av (n:=2) (ae 1)) (ae 3)) aq))) (b6 (aV (kL (av (n:=0) (br (ae 2) (ae 3) (λ_ _=>rfl))) (au (aa aw (aa aw ah))) rfl) (ax (az (au (aa aw (aa (av (n:=1) (br (ae 2) (ae 3) (λ_ _=>rfl))) ah))))) aB)
   (ax (az (au (aa aw (aa (mX (ae 3) aq) ah)))))) aB))) (λR kk=>?_)
 walk_at "vc";have lk:(aA (fields ms c)).length=(fields ms c).length:=aac _;rw[lk];refine⟨⟨by omega,by omega⟩,?_⟩;refine fz (λi env st=>∃(o3:Option DV),env=[some (.dat (eE ms)),some (.dat (.tuple [.str "raw",.int (c:Int),.int (m:Int)])),some (.dat (.list (aA (fields ms c)))),o3]/\st=[]) ⟨_,rfl,rfl⟩ (λ_ _ _ _=>trivial) ?_ ?_
 ·rintro i env st d hd ⟨o3,rfl,rfl⟩;obtain⟨hi,rfl⟩:=gf hd;rw[aaP]at hi;have e0:(0:Int) + (i:Int)=(i:Int):=by omega
  rw[e0];have hff:=cW hi;have hko:cV zs (fields ms c)[i]:=by have:=yz g c i;rw[hff]at this;exact this
  generalize (fields ms c)[i]=kd at hff hko;walk_at "vc";refine⟨by omega,?_⟩;have hw:=q (.push ((i:Int) - 3)) (jl (by omega) (by omega));split
  ·refine⟨_,bO (f:=λk=>PyData.tuple (cH k)) hff,?_⟩
   cases kd with
   | num =>
    rw[show cH Kd.num=[PyData.str "number"]from rfl];walk_at "vc";exact⟨⟨rfl,by decide +kernel⟩,gR (l:=["raw","whole"]) (λh=>absurd h (by decide +kernel)) λ_=>hw⟩
   | any =>
    rw[show cH Kd.any=[PyData.str "any"]from rfl];walk_at "vc";exact⟨⟨rfl,by decide +kernel⟩,gR (l:=["raw","whole"]) (λh=>absurd h (by decide +kernel)) λ_=>hw⟩
   | whole a =>
    rw[show cH (Kd.whole a)=[PyData.str "whole",.int (a:Int)]from rfl];walk_at "vc";refine⟨⟨rfl,by decide +kernel⟩,gR (l:=["raw","whole"]) (λ_=>⟨_,bO (f:=λk=>PyData.tuple (cH k)) hff,?_⟩) λh=>absurd (by decide +kernel) h⟩;rw[show cH (Kd.whole a)=[PyData.str "whole",.int (a:Int)]from rfl];walk_at "vc";exact q (.make a) (mC hko)
   | raw a n =>
    rw[show cH (Kd.raw a n)=[PyData.str "raw",.int (a:Int),.int (n:Int)]from rfl];walk_at "vc";refine⟨⟨rfl,by decide +kernel⟩,gR (l:=["raw","whole"]) (λ_=>⟨_,bO (f:=λk=>PyData.tuple (cH k)) hff,?_⟩) λh=>absurd (by decide +kernel) h⟩;rw[show cH (Kd.raw a n)=[PyData.str "raw",.int (a:Int),.int (n:Int)]from rfl];walk_at "vc";obtain⟨z,hz,_⟩:=hko;exact q (.make a) (mC (bX hz).1)
  ·exact⟨_,rfl,rfl⟩
 ·rintro env st ⟨o3,rfl,rfl⟩;refine kk _ _ ?_;clear kk R;refine bF (az (au (aa aw (aa (av (n:=1) (ae 1)) ah)))) ?_;walk_at "vc";exact q (.beg c) (yF (by omega))
theorem fC:aH ["_law_makes_here","_law_stack","_law_rest","_law_kinds","_law_k","_law_f"] ["_law_makes_here","_law_stack","_law_rest"] (dS kR):=by walk_at "sc"
theorem uf{f:Addr}{fd:FuncData}(F:fe K "_law_eager" "_law_eager" kR f fd)(z_len:mg "len"=none)(z_range:mg "range"=none)(dG:dw P w K mg base bP "_law_beneath" 2 ["_law_makes_here","_law_kind_here","_law_other"] (dE K))(bE:dw P w K mg base bP "_law_fields" 1 ["_law_makes_here","_law_c"] (cI K))(ug:dw P w K mg base bP "_law_wanted" 2 ["_law_makes_here","_law_kind_here"] (iZ K)):bK P w K mg base bP 3 f fd ["_law_makes_here","_law_stack","_law_rest"] (jR K):=by
 refine F.ok fC (λvs H Q E h=>?_) (λcdv A outer s H vs Q E hr h=>?_)
 ·obtain⟨PP,ds,hP,hv,ms,zs,np,nb,st,x,rfl,g,hst,q⟩:=h;exact hv.1
 obtain⟨PP,ds,hP,hv,ms,zs,np,nb,st,x,rfl,g,hst,q⟩:=h;refine bc hP hv ?_;show kN _ _ _ _ [some _,some _,some _,none,none,none] [];clear hP hv;have gl:=g.len;have gn:=g.wf.ne;have lks:(aA st).length=st.length:=aac _;refine aj (aV (tW.dt (iR (qh (bB rfl z_len (aa (ae 1) ah)) aq) (iu (kL (av (n:=0) (br (ae 1) (cQ aq) (λ_ _=>rfl))) (au (aa aw (aa aw ah))) rfl)))) (b6 (aL (i:=3) fC.nd rfl (aad rfl) (aD bE cK cJ (hr.mono (by decide)) rfl (aa (ae 0) (aa (av (n:=1) (br (ae 1) (cQ aq) (λ_ _=>rfl))) ah))))
   (ax (iS aaI rfl (fj rfl z_range (aa (bB rfl z_len (aa (ae 3) ah)) ah)) (bN (i:=4) fC.nd rfl (aad rfl)) (b6 (aL (i:=5) fC.nd rfl (aad rfl) (bg (bR (ae 2) (ae 4)) (bB rfl z_len (aa (ae 3) ah))))
   (ax (aV (pC (aD dG g9 g7 (hr.mono (by decide)) rfl (aa (ae 0) (aa (br (ae 1) (cQ aq) (λ_ _=>rfl)) (aa (br (ae 3) (ae 5) (λ_ _=>rfl)) ah))))) (b6 (aV (dr (hr.units) (av (n:=0) (br (ae 1) (cQ aq) (λ_ _=>rfl))) aw) (ax (az (au (aa aw (aa (av (n:=1) (br (ae 1) (cQ aq) (λ_ _=>rfl))) (aa (ae 5) ah)))))) aB)
   (ax (aV (mZ (BZ (zR (Fx (av (n:=2) (br (ae 1) (cQ aq) (λ_ _=>rfl))) (ae 5)) aq))) (ax (az (au (aa aw (aa (av (n:=1) (br (ae 1) (cQ aq) (λ_ _=>rfl))) (aa (ae 5) ah)))))) aB))) aB)))))) aB) (λR kk=>?_)
 have nxt:∀o3 o4 o5,R [some (.dat (eE ms)),some (.dat (.tuple (aA st))),some (.dat (.int x)),o3,o4,o5] []:=by
  intro o3 o4 o5;refine kk _ _ ?_;clear kk R;refine aj (aV (tW.dt (iR (qh (bB rfl z_len (aa (ae 1) ah)) aq) (iu (dr (hr.units) (av (n:=0) (br (ae 1) (cQ aq) (λ_ _=>rfl))) aw)))) (ax (az (aD ug t8 t7 (hr.mono (by decide)) rfl (aa (ae 0) (aa (br (ae 1) (cQ aq) (λ_ _=>rfl)) ah))))) aB) (λR kk=>?_);walk_at "vc";rw[lks]
  have YB:∀o3 o4 o5,R [some (.dat (eE ms)),some (.dat (.tuple (aA st))),some (.dat (.int x)),o3,o4,o5] []:=by
   intro o3 o4 o5;refine kk _ _ ?_;clear kk R;refine aj (aV (tW.dt (iR (qh (bB rfl z_len (aa (ae 1) ah)) aq) (iR (dr (hr.units) (av (n:=0) (br (ae 1) (cQ aq) (λ_ _=>rfl))) aw) (iu (og (hr.units) (aD bE cK cJ (hr.mono (by decide)) rfl (aa (ae 0) (aa (av (n:=1) (br (ae 1) (cQ aq) (λ_ _=>rfl))) ah))) (eU ah)))))) (ax (az (au (aa aw (aa (av (n:=1) (br (ae 1) (cQ aq) (λ_ _=>rfl))) (aa (bg (ae 2) (bB rfl z_len (aa (aD bE cK cJ (hr.mono (by decide)) rfl (aa (ae 0) (aa (av (n:=1) (br (ae 1) (cQ aq) (λ_ _=>rfl))) ah))) ah))) ah)))))) aB) (λR kk=>?_);walk_at "vc";rw[lks]
   have WA:∀o3 o4 o5,R [some (.dat (eE ms)),some (.dat (.tuple (aA st))),some (.dat (.int x)),o3,o4,o5] []:=by
    intro o3 o4 o5;refine kk _ _ ?_;clear kk R;refine bF (az (au (aa aw (aa (bg (ae 2) (bB rfl z_len (aa (ae 0) ah))) ah)))) ?_;rw[jJ];walk_at "vc";have lm:(ms.map ve).length=ms.length:=aac _;rw[lm];obtain⟨c,ec,hc⟩:=gZ x (m:=(ms.length:Int)) rfl (by omega);rw[ec];exact⟨by omega,q (.make c) (mC (by omega))⟩
   clear kk;refine aW (λh=>?_) (λh=>TB rfl (WA _ _ _));obtain⟨lo,b,rfl⟩:=Cg (by omega:1<=st.length);have kb:=hst b (by simp);refine⟨_,GV ..,?_⟩;by_cases hr:∃a,b=.whole a;rotate_left
   ·obtain⟨sg,tl,e,hs⟩:=Cj b;rw[e];walk_at "vc";exact aW (λh=>absurd (hs.1 h) hr) λ_=>TB rfl (WA _ _ _)
   obtain⟨a,rfl⟩:=hr;have e1:kA (aA (lo++[Kd.whole a])) (-1)=some (.tuple [.str "whole",.int (a:Int)]):=GV ..;have ha:a < ms.length:=by rw[gl];exact kb
   rw[show cH (Kd.whole a)=[PyData.str "whole",.int (a:Int)]from rfl];walk_at "vc";refine aW (λ_=>⟨_,e1,?_⟩) (λh=>absurd rfl h);walk_at "vc";refine⟨ms,zs,a,rfl,g,ha,?_⟩;walk_at "vc";have hsh:=(Ae (fields ms a)).ok;have lkf:(aA (fields ms a)).length=(fields ms a).length:=aac _;refine⟨⟨hsh,rfl⟩,?_⟩
   cases hfs:fields ms a with
   | nil=>exact oA rfl (WA _ _ _)
   | cons k0 ks0 =>
    rw[hfs]at lkf;refine qM rfl ⟨_,e1,?_⟩;walk_at "vc";refine⟨_,e1,?_⟩;walk_at "vc";refine⟨ms,zs,a,rfl,g,ha,?_⟩;rw[hfs];walk_at "vc";rw[lkf];obtain⟨f',ef,hf⟩:=gZ x (m:=(((k0::ks0).length:Nat):Int)) rfl (by simp);rw[ef];exact⟨by simp,q (.get a f') (sQ g ha (by rw[hfs];exact hf)).1⟩
  clear kk;refine aW (λh=>?_) (λh=>YB _ _ _);obtain⟨lo,b,rfl⟩:=Cg (by omega:1<=st.length);have kb:=hst b (by simp);refine⟨_,GV ..,?_⟩;by_cases hr:∃a n,b=.raw a n
  ·obtain⟨a,n,rfl⟩:=hr;obtain⟨z,hz,_⟩:=kb;have ha:a < ms.length:=by rw[gl];exact(bX hz).1
   rw[show cH (Kd.raw a n)=[PyData.str "raw",.int (a:Int),.int (n:Int)]from rfl];walk_at "vc";exact aW (λ_=>⟨_,GV ..,ms,zs,np,nb,a,n,rfl,g,ha,q⟩) λh=>absurd rfl h
  ·obtain⟨sg,tl,e,hs⟩:=Cj b;rw[e];walk_at "vc";exact aW (λh=>absurd (hs.2 h) hr) λ_=>YB _ _ _
 clear kk;walk_at "vc";rw[lks];refine aW (λh=>?_) (λh=>nxt _ _ _);obtain⟨lo,a,b,rfl⟩:=GR (by omega:2<=st.length);have ka:=hst a (by simp);have kb:=hst b (by simp);refine⟨_,TK ..,?_⟩;rcases PV ka with⟨sg,e,hsg⟩ | ⟨sg,c,tl,e,hcz,hsg⟩
 ·rw[e];walk_at "vc";exact⟨⟨rfl,by decide +kernel⟩,gR (l:=["raw","whole"]) (λh=>absurd h hsg) λ_=>nxt _ _ _⟩
 have hc:c < ms.length:=by rw[gl];exact hcz
 have lkf:(aA (fields ms c)).length=(fields ms c).length:=aac _;have c6:=g.gY hc;have e2:kA (aA (lo++[a,b])) (-2)=some (.tuple (.str sg::.int (c:Int)::tl)):=by rw[TK,e]
 have e1:kA (aA (lo++[a,b])) (-1)=some (.tuple (cH b)):=by have:=GV (lo++[a]) b;rwa [abp]at this
 rw[e];walk_at "vc";refine⟨⟨rfl,by decide +kernel⟩,gR (l:=["raw","whole"]) (λ_=>⟨_,e2,?_⟩) λ_=>nxt _ _ _⟩;walk_at "vc";refine⟨ms,zs,c,rfl,g,hc,?_⟩;walk_at "vc";rw[lkf];refine⟨⟨by omega,by omega⟩,?_⟩;refine fz (λi env st'=>∃(o4 o5:Option DV),env=[some (.dat (eE ms)),some (.dat (.tuple (aA (lo++[a,b])))),some (.dat (.int x)),some (.dat (.list (aA (fields ms c)))),o4,o5]/\st'=[]) ⟨_,_,rfl,rfl⟩ (λ_ _ _ _=>trivial) ?_ ?_
 ·rintro i env st' d hd ⟨o4,o5,rfl,rfl⟩;obtain⟨hi,rfl⟩:=gf hd;rw[aaP]at hi;obtain⟨f',ef,hf⟩:=gZ (x + (0 + (i:Int))) (m:=((fields ms c).length:Int)) rfl (by omega);have hff:=cW hf;have hq:=sQ g (np:=np) (nb:=nb) hc hf;generalize (fields ms c)[f']=kd at hff;walk_at "vc";rw[lkf,ef];refine⟨by omega,_,e1,_,bO (f:=λk=>PyData.tuple (cH k)) hff,ms,b,kd,rfl,g.wf,cV.Va g kb,?_⟩;walk_at "vc";refine M4 (λ_=>⟨_,e2,?_⟩) (λ_=>⟨_,_,rfl,rfl⟩);walk_at "vc";refine aW (λ_=>⟨_,e2,?_⟩) (λh=>?_)
  ·walk_at "vc";exact q _ hq.2.1
  obtain⟨m,rfl⟩:=hsg.resolve_left h;refine⟨_,e2,?_⟩;walk_at "vc";refine⟨by omega,rz (λ_=>⟨_,e2,?_⟩) (λ_=>⟨_,_,rfl,rfl⟩)⟩;walk_at "vc";exact q _ hq.2.2
 ·rintro env st' ⟨o4,o5,rfl,rfl⟩;exact nxt _ _ _
theorem w9:aH ["_law_number"] ["_law_number"] (dS m9):=by walk_at "sc"
theorem xa{f:Addr}{fd:FuncData}(F:fe K "_law_word" "_law_word" m9 f fd)(z_int:mg "int"=none):bK P w K mg base bP 1 f fd ["_law_number"] (eJ K):=by
 refine F.ok w9 (λvs H Q E h=>?_) (λcdv A outer s H vs Q E hr h=>?_)
 ·obtain⟨PP,ds,hP,hv,n,rfl,q⟩:=h;exact hv.1
 obtain⟨PP,ds,hP,hv,n,rfl,q⟩:=h;refine bc hP hv ?_;show kN _ _ _ _ [some _] [];clear hP hv;refine bF (az (br (eU (aa (mX (bg (ek (ae 0) aq) aq) aq) (aa (mX (bg (ek (ae 0) aq) aq) aq) ah))) (si rfl z_int (aa (SG (bg (ae 0) aq) aq) ah)) (λ_ _=>rfl))) ?_;walk_at "vc";have a0:=aaV (n / 3) (show(9:Int)≠0 by decide);have a1:=aaO (n / 3) (show(0:Int) < 9 by decide);have b0:=aaV (n / 3) (show(4294967296:Int)≠0 by decide);have b1:=aaO (n / 3) (show(0:Int) < 4294967296 by decide);refine⟨⟨by decide,by decide⟩,by decide,⟨by decide,by decide⟩,by decide,by decide,?_⟩;split
 ·exact⟨_,rfl,q _ (by omega) (by omega)⟩
 ·exact⟨_,rfl,q _ (by omega) (by omega)⟩
theorem du:aH ["_law_book","_law_stand","_law_number","_law_entries","_law_rest","_law_way","_law_plain"] ["_law_book","_law_stand","_law_number","_law_entries"] (dS fW):=by walk_at "sc"
theorem oP{f:Addr}{fd:FuncData}(F:fe K "_law_candidate" "_law_candidate" fW f fd)(z_len:mg "len"=none)(xb:dw P w K mg base bP "_law_eager" 3 ["_law_makes_here","_law_stack","_law_rest"] (jR K))(dH:dw P w K mg base bP "_law_word" 1 ["_law_number"] (eJ K)):bK P w K mg base bP 4 f fd ["_law_book","_law_stand","_law_number","_law_entries"] (ft K):=by
 refine F.ok du (λvs H Q E h=>?_) (λcdv A outer s H vs Q E hr h=>?_)
 ·obtain⟨PP,ds,hP,hv,ms,zs,ps,bx,st,n,rfl,g,hne,b8,hst,h8,q⟩:=h;exact hv.1
 obtain⟨PP,ds,hP,hv,ms,zs,ps,bx,st,n,rfl,g,hne,b8,hst,h8,q⟩:=h;refine bc hP hv ?_;show kN _ _ _ _ [some _,some _,some _,some _,none,none,none] [];clear hP hv;refine aj (aL (i:=4) du.nd rfl (aad rfl) (ek (ae 2) aq)) (λR kk=>?_);walk_at "vc";refine⟨⟨by decide,by decide⟩,kk _ _ ?_⟩;clear kk R;refine aj (aL (i:=5) du.nd rfl (aad rfl) (bg (ae 2) aq)) (λR kk=>?_);walk_at "vc";obtain⟨y,ey,hy⟩:=gZ n (m:=32) (n:=32) rfl (by decide);rw[ey];refine⟨by decide,kk _ _ ?_⟩;clear kk R;refine aj (aV (mR (ae 5) aq) (ax (az (aD xb wM wL (hr.mono (by decide)) rfl (aa (av (n:=0) (ae 0)) (aa (av (n:=1) (ae 1)) (aa (ae 4) ah)))))) aB) (λR kk=>?_);rw[lh,show jt bx st=.tuple [.tuple (aA bx),.tuple (aA st)]from rfl];walk_at "vc";refine aW (λh=>?_) (λh=>kk _ _ ?_)
 ·exact⟨ms,zs,ps.length,bx.length,st,_,rfl,g,hst,q⟩
 clear kk R;have lkb:(aA bx).length=bx.length:=aac _;refine aj (aV (tW.dt (iR (mR (ae 5) aq) (iu (qh (bB rfl z_len (aa (av (n:=0) (ae 1)) ah)) aq)))) (ax (az (au (aa (br (eU (aa aw (aa aw ah))) (bg (ae 5) aq) (λ_ _=>rfl)) (aa (bg (ae 4) (bB rfl z_len (aa (av (n:=0) (ae 1)) ah))) ah))))) aB) (λR kk=>?_);walk_at "vc";rw[lkb]
 have nxt:R [some (.dat (.tuple [eE ms,.list (ps.map eF)])),some (.dat (.tuple [.tuple (aA bx),.tuple (aA st)])),some (.dat (.int n)),some (.dat (.list [])),some (.dat (.int (n / 32))),some (.dat (.int (y:Int))),none] []:=by
  refine kk _ _ ?_;clear kk R;refine aj (aV (mR (ae 5) aq) (ax (az (au (aa aw (aa (bg (ae 4) (bB rfl z_len (aa (av (n:=1) (ae 0)) ah))) ah))))) aB) (λR kk=>?_);walk_at "vc";refine aW (λh=>?_) (λh=>kk _ _ ?_)
  ·have lm:(ps.map eF).length=ps.length:=aac _;have h0:0 < ps.length:=List.length_pos_iff.mpr hne;obtain⟨c,ec,hc⟩:=gZ (n / 32) (m:=(ps.length:Int)) rfl (by omega);rw[lm,ec];exact⟨by omega,q (.call c) (vq hc)⟩
  clear kk R;refine aj (aV (tW.dt (iR (mR (ae 5) aq) (iR (og (hr.units) (ae 3) (eU ah)) (iu (dr (hr.units) (bB rfl z_len (aa (av (n:=1) (ae 1)) ah)) aq))))) (ax ji) aB) (λR kk=>?_);walk_at "vc"
  have WB:R [some (.dat (.tuple [eE ms,.list (ps.map eF)])),some (.dat (.tuple [.tuple (aA bx),.tuple (aA st)])),some (.dat (.int n)),some (.dat (.list [])),some (.dat (.int (n / 32))),some (.dat (.int (y:Int))),none] []:=by
   refine kk _ _ ?_;clear kk R;refine aj (aV (mR (ae 5) aq) (ax (az (au (aa aw (aa (aD dH lA iE (hr.mono (by decide)) rfl (aa (ae 4) ah)) ah))))) aB) (λR kk=>?_);walk_at "vc";refine aW (λh=>⟨_,rfl,λw w0 w1=>?_⟩) (λh=>kk _ _ ?_)
   ·walk_at "vc";exact q (.push w) (jl w0 w1)
   clear kk R;refine aj (aL (i:=6) du.nd rfl (Or.inl rfl) (yp aw (aa aw ah))) (λR kk=>?_);walk_at "vc";dsimp only[L2.zW];walk_at "vc";rw[yG];refine⟨⟨by decide +kernel,by decide +kernel,by decide +kernel,by decide +kernel⟩,kk _ _ ?_⟩;clear kk R;refine bF (az (au (aa (br (ae 6) (bg (ae 4) aq) (λ_ _=>rfl)) ah))) ?_;walk_at "vc";obtain⟨sg,hsg,es⟩:=oj (ss:=Af) (n:=11) rfl (by decide) (n / 32);exact⟨by decide,_,es,q (.bare sg) (fq ((by decide +kernel:∀s∈Af,s∈cC) _ hsg))⟩
  clear kk;refine aW (λh=>⟨⟨rfl,rfl⟩,oA rfl (TB rfl WB)⟩) (λh=>by first | exact eQ WB | exact eQ (eQ WB))
 clear kk;refine aW (λh=>?_) (λh=>TB rfl nxt);refine aW (λh2=>?_) (λh2=>nxt);obtain⟨c,ec,hc⟩:=gZ (n / 32) (m:=(bx.length:Int)) rfl (by omega);obtain⟨sg,hsg,es⟩:=oj (ss:=["load","store"]) (n:=2) rfl (by decide) (y:Int);rw[ec];refine⟨by decide,_,es,by omega,?_⟩;rcases aap.mp hsg with rfl | hsg
 ·exact q (.load c) (vv hc)
 ·rw[jr hsg];exact q (.store c) (sP hc)
theorem i4:aH ["_law_cell_here","_law_k","_law_number"] ["_law_cell_here","_law_k"] (dS kU):=by walk_at "sc"
theorem uh{f:Addr}{fd:FuncData}(F:fe K "_law_mixed" "_law_mixed" kU f fd):bK P w K mg base bP 1 f fd ["_law_cell_here","_law_k"] (dc K):=by
 refine F.ok i4 (λvs H Q E h=>?_) (λcdv A outer s H vs Q E hr h=>?_)
 ·obtain⟨PP,ds,hP,hv,c,k,rfl,h0,h1,q⟩:=h;exact hv.1
 obtain⟨PP,ds,hP,hv,c,k,rfl,h0,h1,q⟩:=h;refine bc hP hv ?_;show kN _ _ _ _ [some _,some _,none] [];clear hP hv;have m0:=aaV c (show(1000000000039:Int)≠0 by decide);have m1:=aaO c (show(0:Int) < 1000000000039 by decide);refine aj (aL (i:=2) i4.nd rfl (aad rfl) (bg (pA (bR (bR (bg (ae 0) aq) (pA aq (ae 1))) aq) aq) aq)) (λR kk=>?_);walk_at "vc";have a0:=aaV ((c % 1000000000039 + 7919 * k + 12) * 48271) (show(1000000000061:Int)≠0 by decide);have a1:=aaO ((c % 1000000000039 + 7919 * k + 12) * 48271) (show(0:Int) < 1000000000061 by decide);refine⟨by decide,.inl (.inl ⟨by decide,by decide⟩),.inl (.inr ⟨by decide,by decide⟩),by decide,kk _ _ ?_⟩;clear kk R;generalize (c % 1000000000039 + 7919 * k + 12) * 48271 % 1000000000061=n1 at a0 a1;have b0:=aaV n1 (show(999983:Int)≠0 by decide);have b1:=aaO n1 (show(0:Int) < 999983 by decide);refine aj (aL (i:=2) i4.nd rfl (aad rfl) (bg (pA (bR (bR (bg (ek (ae 2) aq) aq) (pA aq (ae 1))) aq) (bR (bg (ae 2) aq) aq)) aq)) (λR kk=>?_);walk_at "vc";have c0:=aaV ((n1 / 3 % 1000003 + 31 * k + 1) * (n1 % 999983 + 7)) (show(999999999989:Int)≠0 by decide);have c1:=aaO ((n1 / 3 % 1000003 + 31 * k + 1) * (n1 % 999983 + 7)) (show(0:Int) < 999999999989 by decide);refine⟨⟨by decide,by decide⟩,by decide,.inl (.inl ⟨by decide,by decide⟩),by decide,.inl (.inr ⟨by omega,by omega⟩),by decide,kk _ _ ?_⟩;clear kk R;generalize (n1 / 3 % 1000003 + 31 * k + 1) * (n1 % 999983 + 7) % 999999999989=n2 at c0 c1;have d0:=aaV n2 (show(1009:Int)≠0 by decide);have d1:=aaO n2 (show(0:Int) < 1009 by decide);have e0:=aaV (n2 / 5 * (n2 % 1009 + 48271)) (show(1000000000039:Int)≠0 by decide);have e1:=aaO (n2 / 5 * (n2 % 1009 + 48271)) (show(0:Int) < 1000000000039 by decide);refine bF (az (ek (bg (pA (ek (ae 2) aq) (bR (bg (ae 2) aq) aq)) aq) aq)) ?_;walk_at "vc";exact⟨⟨by decide,by decide⟩,by decide,.inl (.inr ⟨by omega,by omega⟩),by decide,⟨by decide,by decide⟩,q _ (by omega) (by omega)⟩
theorem dq:aH ["_law_makes_here","_law_one","_law_other","_law_kind_here","_law_higher"] ["_law_makes_here","_law_one","_law_other"] (dS dP):=by walk_at "sc"
theorem ko{f:Addr}{fd:FuncData}(F:fe K "_law_stand_beneath" "_law_stand_beneath" dP f fd)(z_len:mg "len"=none)(oO:mg "zip"=none)(dG:dw P w K mg base bP "_law_beneath" 2 ["_law_makes_here","_law_kind_here","_law_other"] (dE K)):bK P w K mg base bP 3 f fd ["_law_makes_here","_law_one","_law_other"] (dF K):=by
 refine F.ok dq (λvs H Q E h=>?_) (λcdv A outer s H vs Q E hr h=>?_)
 ·obtain⟨PP,ds,hP,hv,ms,a,b,rfl,hw,ha,la,lb,q⟩:=h;exact hv.1
 obtain⟨PP,ds,hP,hv,ms,a,b,rfl,hw,ha,la,lb,q⟩:=h;refine bc hP hv ?_;show kN _ _ _ _ [some _,some _,some _,none,none] [];clear hP hv;refine aj (aV (tW.dt (uW (og (hr.units) (bB rfl z_len (aa (av (n:=0) (ae 1)) ah)) (bB rfl z_len (aa (av (n:=0) (ae 2)) ah))) (rY (og (hr.units) (bB rfl z_len (aa (av (n:=1) (ae 1)) ah)) (bB rfl z_len (aa (av (n:=1) (ae 2)) ah)))))) (ax (az nY)) aB) (λR kk=>?_);rw[show jt a []=.tuple [.tuple (aA a),.tuple []]from rfl,show jt b []=.tuple [.tuple (aA b),.tuple []]from rfl];walk_at "vc";have lka:(aA a).length=a.length:=aac ..;have lkb:(aA b).length=b.length:=aac ..;refine rz (λ_=>fh (q false)) (λ_=>oA (aaD rfl) (kk _ _ ?_));clear kk R;refine aj (iS aaI rfl (FV rfl oO (aa (bR (av (n:=0) (ae 1)) (av (n:=1) (ae 1))) (aa (bR (av (n:=0) (ae 2)) (av (n:=1) (ae 2))) ah))) (kM (m:=2) rfl (bZ (bN (i:=3) dq.nd rfl (aad rfl)) (bZ (bN (i:=4) dq.nd rfl (aad rfl)) iw))) (ax (aV (mZ (pC (aD dG g9 g7 (hr.mono (by decide)) rfl (aa (ae 0) (aa (ae 3) (aa (ae 4) ah)))))) (ax (az nY)) aB))) (λR kk=>?_);walk_at "vc";rw[aaM,aaM];refine⟨by omega,by omega,?_⟩;refine fz (λi env st=>∃(o3 o4:Option DV),env=[some (.dat (eE ms)),some (.dat (.tuple [.tuple (aA a),.tuple []])),some (.dat (.tuple [.tuple (aA b),.tuple []])),o3,o4]/\st=[]) ⟨_,_,rfl,rfl⟩ (λ_ _ _ _=>trivial) ?_ ?_
 ·rintro i env st d hd ⟨o3,o4,rfl,rfl⟩;obtain⟨x,y,hx,hy,rfl⟩:=BW hd;obtain⟨k,hk,rfl⟩:=jE hx;obtain⟨o,ho,rfl⟩:=jE hy;walk_at "vc";refine⟨rfl,ms,k,o,rfl,hw,ha k (aaf hk),?_⟩;walk_at "vc";exact M4 (λ_=>q false) (λ_=>⟨_,_,rfl,rfl⟩)
 ·rintro env st ⟨o3,o4,rfl,rfl⟩;refine kk _ _ ?_;clear kk R;refine bF (az nY) ?_;walk_at "vc";exact q true
theorem bL:aH ["_law_book","_law_part_here","_law_start","_law_cells","_law_entries","_law_rows","_law_stand","_law_cell_here","_law_row","_law_word_here","_law_behind"] ["_law_book","_law_part_here","_law_start","_law_cells","_law_entries"] (dS kW):=by walk_at "sc"
theorem ui{f:Addr}{fd:FuncData}(F:fe K "_law_block" "_law_block" kW f fd)(z_len:mg "len"=none)(pY:dw P w K mg base bP "_law_candidate" 4 ["_law_book","_law_stand","_law_number","_law_entries"] (ft K))(iK:dw P w K mg base bP "_law_done" 3 ["_law_book","_law_part_here","_law_row","_law_stand"] (iA K))(aM:dw P w K mg base bP "_law_mixed" 1 ["_law_cell_here","_law_k"] (dc K))(lM:dw P w K mg base bP "_law_stand_beneath" 3 ["_law_makes_here","_law_one","_law_other"] (dF K))(dH:dw P w K mg base bP "_law_word" 1 ["_law_number"] (eJ K)):bK P w K mg base bP 5 f fd ["_law_book","_law_part_here","_law_start","_law_cells","_law_entries"] (oG K):=by
 refine F.ok bL (λvs H Q E h=>?_) (λcdv A outer s H vs Q E hr h=>?_)
 ·obtain⟨PP,ds,hP,hv,ms,zs,ps,j,p,bx,cs,rfl,g,hp,hall,TV,IM,q⟩:=h;exact hv.1
 obtain⟨PP,ds,hP,hv,ms,zs,ps,j,p,bx,cs,rfl,g,hp,hall,TV,IM,q⟩:=h;refine bc hP hv ?_;show kN _ _ _ _ [some _,some _,some _,some _,some _,none,none,none,none,none,none] [];clear hP hv;have hpm:=aaf hp;have hpt:=hall p hpm;have Ds:∀p'∈ps,p'.takes.length<=8:=λp' h'=>aau (hall p' h').tb (hall p' h').bx
 have hne:ps≠[]:=List.ne_nil_of_mem hpm;have lcs:(cs.map PyData.int).length=cs.length:=aac _;have YC:=hpt.bx;have YD:=hpt.h8;have sb:bx.length=p.boxes:=TV.bx;refine aj (aL (i:=5) bL.nd rfl (aad rfl) (rp ah)) (λR kk=>?_);walk_at "vc";refine kk _ _ ?_;clear kk R;refine aj (aL (i:=6) bL.nd rfl (aad rfl) (ae 2)) (λR kk=>?_);walk_at "vc";refine kk _ _ ?_;clear kk R;refine aj (iS aaI rfl (pG (ae 3)) (bN (i:=7) bL.nd rfl (aad rfl)) (b6 (aL (i:=8) bL.nd rfl (aad rfl) (aD pY pW pV (hr.mono (by decide)) rfl (aa (ae 0) (aa (ae 6) (aa (aD aM bo aY (hr.mono (by decide)) rfl (aa (ae 7) (aa aq ah))) (aa (ae 4) ah))))))
   (b6 (pJ (aD iK lz lu (hr.mono (by decide)) rfl (aa (ae 0) (aa (ae 1) (aa (ae 8) (aa (ae 6) ah))))) (kM (m:=2) rfl (bZ (bN (i:=9) bL.nd rfl (aad rfl)) (bZ (bN (i:=10) bL.nd rfl (aad rfl)) iw))))
   (b6 (aV (tW.dt (uW (mn (ae 9) c9) (rY (mZ (pC (aD lM lC lB (hr.mono (by decide)) rfl (aa (av (n:=0) (ae 0)) (aa (au (aa (av (n:=0) (ae 10)) (aa (au ah) ah))) (aa (au (aa (av (n:=0) (ae 2)) (aa (au ah) ah))) ah))))))))) (b6 (aL (i:=8) bL.nd rfl (aad rfl) (au (aa aw (aa (aD dH lA iE (hr.mono (by decide)) rfl (aa (aD aM bo aY (hr.mono (by decide)) rfl (aa (ae 7) (aa aq ah))) ah)) ah))))
   (ax (aV (dr (hr.units) (bB rfl z_len (aa (av (n:=1) (ae 6)) ah)) (av (n:=3) (br (av (n:=1) (ae 0)) (ae 1) (λ_ _=>rfl)))) (ax (aL (i:=8) bL.nd rfl (aad rfl) (au (aa aw ah)))) aB))) aB)
   (b6 (oi (mq (ae 5) (aa (ae 8) ah)))
   (ax (aL (i:=6) bL.nd rfl (aad rfl) (av (n:=1) (aD iK lz lu (hr.mono (by decide)) rfl (aa (ae 0) (aa (ae 1) (aa (ae 8) (aa (ae 6) ah))))))))))))) (λR kk=>?_)
 walk_at "vc";refine fz (λi env st=>∃(s:Sd) (rs:List Rw) (o7 o8 o9 qT:Option DV),env=[some (.dat (oy ms ps)),some (.dat (.int (j:Int))),some (.dat (jt bx [])),some (.dat (.list (cs.map PyData.int))),some (.dat (.list [])),some (.ref 0),some (.dat (jt s.1 s.2)),o7,o8,o9,qT]/\st=[.live (rs.map ki)]/\qL zs p s/\rs.length=i/\∀r∈rs,dD zs ps.length p.boxes r) ⟨(bx,[]),[],_,_,_,_,rfl,rfl,TV,rfl,λ_ h=>nomatch h⟩ (λ_ _ _ _=>trivial) ?_ ?_
 ·rintro i env st d hd ⟨s',rs,o7,o8,o9,qT,rfl,rfl,hs,lrs,hrs⟩;have hi:=(bX hd).1;rw[lcs]at hi;obtain⟨c,hc,rfl⟩:=jE hd;have hst:=hs.st;have hsb:=hs.bx;refine fA (λR1 k1=>?_);walk_at "vs";refine⟨_,_,rfl,by decide,by decide,λv _ _=>?_⟩;walk_at "vs";refine⟨ms,zs,ps,s'.1,s'.2,v,rfl,g,hne,by omega,hs.k2,by omega,λr hr=>k1 _ _ ?_⟩;clear k1 R1;rw[hsb]at hr;refine fA (λR1 k1=>?_);walk_at "vs";refine⟨ms,zs,ps,j,p,r,s',rfl,g,hp,hr.1,hr.2,hs,YD,YC,Ds,?_⟩;walk_at "vs";refine⟨rfl,k1 _ _ ?_⟩;clear k1 R1;have hdo:=rB g hall (hr.1 1) hs;refine fA (λR2 k2=>?_)
  have nxt:∀(r:Rw) o9 qT,dD zs ps.length p.boxes r->R2 [some (.dat (oy ms ps)),some (.dat (.int (j:Int))),some (.dat (jt bx [])),some (.dat (.list (cs.map PyData.int))),some (.dat (.list [])),some (.ref 0),some (.dat (jt s'.1 s'.2)),some (.dat (.int c)),some (.dat (ki r)),o9,qT] [.live (rs.map ki)]:=by
   intro r o9 qT hr;refine k2 _ _ ?_;clear k2 R2;refine fA (λR2 k2=>?_);walk_at "vs";refine⟨rfl,by rw[List.length_map];omega,k2 _ _ ?_⟩;clear k2 R2;rw[show List.map ki rs++[ki r]=(rs++[r]).map ki by rw[List.map_append];rfl];walk_at "vs";refine⟨ms,zs,ps,j,p,r,s',rfl,g,hp,hr.1,hr.2,hs,YD,YC,Ds,?_⟩;walk_at "vs";refine⟨(doneK ms ps p r s').2,rs++[r],_,_,_,_,rfl,rfl,rB g hall (hr.1 1) hs,by simp[lrs],λr' hr'=>?_⟩;rcases List.mem_append.mp hr' with h | h
   ·exact hrs r' h
   ·rw[jr h];exact hr
  clear k2;have hdb:=hdo.bx;rw[lh,show jt (doneK ms ps p r s').2.1 (doneK ms ps p r s').2.2=.tuple [.tuple (aA (doneK ms ps p r s').2.1),.tuple (aA (doneK ms ps p r s').2.2)]from rfl,show jt s'.1 s'.2=.tuple [.tuple (aA s'.1),.tuple (aA s'.2)]from rfl,show jt bx []=.tuple [.tuple (aA bx),.tuple []]from rfl];walk_at "vs";refine GW ?_ (λhA=>?_)
  ·refine fA (λR3 k3=>?_);walk_at "vs";refine⟨_,_,rfl,by decide,by decide,λv _ _=>?_⟩;walk_at "vs";refine⟨_,rfl,λw w0 w1=>k3 _ _ ?_⟩;clear k3 R3;walk_at "vs";refine⟨_,bO (f:=eF) hp,?_⟩;rw[iY];walk_at "vs";exact aW (λ_=>nxt (.bare "drop") _ _ (fq (by decide +kernel))) (λ_=>nxt (.push w) _ _ (jl w0 w1))
  ·refine⟨ms,(doneK ms ps p r s').2.1,bx,rfl,g.wf,λk hk=>cV.Va g (hdo.k1 k hk),by omega,by omega,λx=>?_⟩;walk_at "vs";cases x
   ·exact qM rfl hA
   ·exact oA rfl (nxt r _ _ hr)
 ·rintro env st ⟨s',rs,o7,o8,o9,qT,rfl,rfl,hs,lrs,hrs⟩;have hst:=hs.st;rw[lcs]at lrs;refine kk _ _ ?_;clear kk R;refine bF (az (bR (ae 5) (oo (eU (aa (au (aa aw ah)) ah)) (bB rfl z_len (aa (av (n:=1) (ae 6)) ah))))) ?_;rw[show jt s'.1 s'.2=.tuple [.tuple (aA s'.1),.tuple (aA s'.2)]from rfl];walk_at "vc";have lk:(aA s'.2).length=s'.2.length:=aac _;rw[lk,aaP,Ab,aac,abT];refine⟨by omega,by omega,by omega,by omega,?_⟩
  have e:rs.map ki++List.replicate s'.2.length (PyData.tuple [.str "drop"])=(rs++List.replicate s'.2.length (Rw.bare "drop")).map ki:=by
   rw[aa6,List.map_replicate];rfl
  rw[e];refine q _ (by rw[aaC,abT];omega) λr hr=>?_
  rcases aaE.mp hr with h | h
  ·exact hrs r h
  ·rw[acv h];exact fq (by decide +kernel)
theorem xc:aH ["_law_script","_law_k"] ["_law_script","_law_k"] (dS nc):=by walk_at "sc"
theorem xf{f:Addr}{fd:FuncData}(F:fe K "_law_cell" "_law_cell" nc f fd)(z_len:mg "len"=none)(z_sum:mg "sum"=none)(aM:dw P w K mg base bP "_law_mixed" 1 ["_law_cell_here","_law_k"] (dc K)):bK P w K mg base bP 2 f fd ["_law_script","_law_k"] (lE K):=by
 refine F.ok xc (λvs H Q E h=>?_) (λcdv A outer s H vs Q E hr h=>?_)
 ·obtain⟨PP,ds,hP,hv,ns,k,rfl,h1,q⟩:=h;exact hv.1
 obtain⟨PP,ds,hP,hv,ns,k,rfl,h1,q⟩:=h;refine bc hP hv ?_;show kN _ _ _ _ [some _,some _] [];clear hP hv;refine aj (aV (mR (ae 1) (bB rfl z_len (aa (ae 0) ah))) (ax (az (br (ae 0) (ae 1) (λ_ _=>rfl)))) aB) (λR kk=>?_);walk_at "vc";rw[aac];refine aW (λh=>⟨_,bO (f:=PyData.int) (cW (show k < ns.length by omega)),q _⟩) (λh=>kk _ _ ?_);clear kk R;refine bF (az (aD aM bo aY (hr.mono (by decide)) rfl (aa (O3 rfl rfl z_sum (aa (jg (ae 0) fw (cM aq)) ah)) (aa (bR aq (ae 1)) ah)))) ?_;walk_at "vc";rw[show(4:Int)=((4:Nat):Int)from rfl,wB];exact⟨_,rfl,_,_,rfl,by omega,by omega,λv _ _=>q v⟩
theorem bH:aH ["_law_book","_law_part_here","_law_number","_law_many","_law_stack","_law_rest","_law_c","_law_kind_here","_law_fields_here","_law_some","_law_sign"] ["_law_book","_law_part_here","_law_number","_law_many","_law_stack"] (dS gU):=by walk_at "sc"
theorem pZ{f:Addr}{fd:FuncData}(F:fe K "_law_free_row" "_law_free_row" gU f fd)(z_int:mg "int"=none)(z_len:mg "len"=none)(bE:dw P w K mg base bP "_law_fields" 1 ["_law_makes_here","_law_c"] (cI K))(dH:dw P w K mg base bP "_law_word" 1 ["_law_number"] (eJ K)):bK P w K mg base bP 2 f fd ["_law_book","_law_part_here","_law_number","_law_many","_law_stack"] (kl K):=by
 refine F.ok bH (λvs H Q E h=>?_) (λcdv A outer s H vs Q E hr h=>?_)
 ·obtain⟨PP,ds,hP,hv,ms,zs,ps,j,p,n,rfl,g,hp,b8,q⟩:=h;exact hv.1
 obtain⟨PP,ds,hP,hv,ms,zs,ps,j,p,n,rfl,g,hp,b8,q⟩:=h;refine bc hP hv ?_;show kN _ _ _ _ [some _,some _,some _,some _,some _,none,none,none,none,none,none] [];clear hP hv;have gl:=g.len;have gn:=g.wf.ne;have lm:(ms.map ve).length=ms.length:=List.length_map _;have lp:(ps.map eF).length=ps.length:=List.length_map _;have p0:0 < ps.length:=List.length_pos_iff.mpr (List.ne_nil_of_mem (List.mem_of_getElem? hp));have pb:=b8 p (List.mem_of_getElem? hp);have hpt:eF p=.tuple [.list (aA p.takes),.tuple (cH p.gives),.int (p.boxes:Int),.int (p.height:Int),.list (p.rows.map ki),.list (p.spans.map Tn)]:=rfl;refine aj (aL (i:=5) bH.nd rfl (Or.inl rfl) (ek (ae 2) aq)) (λR kk=>?_);rw[lh,jJ];walk_at "vc";refine⟨⟨by decide,by decide⟩,kk _ _ ?_⟩;clear kk R;refine aj (aL (i:=6) bH.nd rfl (Or.inl rfl) (bg (ae 5) (bB rfl z_len (aa (av (n:=0) (ae 0)) ah)))) (λR kk=>?_);walk_at "vc";obtain⟨c,ec,hc⟩:=gZ (n / 34) (m:=(ms.length:Int)) rfl (by omega);have c6:=g.gY hc;rw[lm,ec];refine⟨by omega,kk _ _ ?_⟩;clear kk R;refine aj (iS PassesOwn.never rfl (pG (jg (ae 4) (cM (cQ aq)) fw)) (bN (i:=7) bH.nd rfl (Or.inl rfl)) (ax ji)) (λR kk=>?_);walk_at "vc";refine fz (λi' env st=>env=[some (.dat (.tuple [.list (ms.map ve),.list (ps.map eF)])),some (.dat (.int (j:Int))),some (.dat (.int n)),some (.dat (.int 2)),some (.dat (.tuple [])),some (.dat (.int (n / 34))),some (.dat (.int (c:Int))),none,none,none,none]/\st=[]) ⟨rfl,rfl⟩ (λ_ _ _ _=>trivial) (λi' env st d hd=>nomatch hd) ?_;rintro env st ⟨rfl,rfl⟩;refine kk _ _ ?_;clear kk R;refine aj (aL (i:=8) bH.nd rfl (Or.inl rfl) (bB rfl z_len (aa (aD bE cK cJ (hr.mono (by decide)) rfl (aa (av (n:=0) (ae 0)) (aa (ae 6) ah))) ah))) (λR kk=>?_);walk_at "vc";refine⟨ms,zs,c,rfl,g,hc,?_⟩;walk_at "vc";have lkf:(aA (fields ms c)).length=(fields ms c).length:=List.length_map _;rw[lkf];refine kk _ _ ?_;clear kk R;refine aj (aL (i:=9) bH.nd rfl (Or.inl rfl) aw) (λR kk=>?_);walk_at "vc";refine kk _ _ ?_;clear kk R;refine aj (aL (i:=9) bH.nd rfl (Or.inl rfl) (bR (ae 9) aw)) (λR kk=>?_);walk_at "vc";refine⟨by decide +kernel,kk _ _ ?_⟩;clear kk R;refine aj (aL (i:=10) bH.nd rfl (Or.inl rfl) (br (yp (ae 9) (aa aw ah)) (bg (ae 2) aq) (λ_ _=>rfl))) (λR kk=>?_);walk_at "vc";dsimp only[L2.zW];walk_at "vc";rw[Ag];obtain⟨sg,hsg,es⟩:=oj (ss:=Ci) (n:=34) rfl (by decide) n;refine⟨⟨by decide +kernel,by decide +kernel,by decide +kernel,by decide +kernel⟩,by decide,_,es,kk _ _ ?_⟩;clear kk R;refine aj (aV (dr (hr.units) (ae 10) aw) (ax (az (au (aa (ae 10) (aa (aD dH lA iE (hr.mono (by decide)) rfl (aa (ae 5) ah)) ah))))) aB) (λR kk=>?_);walk_at "vc";refine aW (λe=>⟨_,rfl,λw w0 w1=>?_⟩) (λn7=>kk _ _ ?_)
 ·subst e;walk_at "vc";exact q (.push w) (.inl (jl w0 w1))
 clear kk R;refine aj (aV (tW.dt (iR (kL (ae 10) (au (aa aw (aa aw ah))) rfl) (iu (qh (av (n:=2) (br (av (n:=1) (ae 0)) (ae 1) (λ_ _=>rfl))) aq)))) (ax (az (au (aa (ae 10) (aa (bg (ae 5) (av (n:=2) (br (av (n:=1) (ae 0)) (ae 1) (λ_ _=>rfl)))) ah))))) aB) (λR kk=>?_)
 have YE:(sg∉(["load","store"]:List Str)∨p.boxes=0)->R [some (.dat (.tuple [.list (ms.map ve),.list (ps.map eF)])),some (.dat (.int (j:Int))),some (.dat (.int n)),some (.dat (.int 2)),some (.dat (.tuple [])),some (.dat (.int (n / 34))),some (.dat (.int (c:Int))),none,some (.dat (.int ((fields ms c).length:Int))),some (.dat (.str (("push load load store dup swap drop add sub mul div rem less same jump zero zero kin kin make make" : Str)++(" fill fill fill begin begin get put put call call toss say give" : Str)))),some (.dat (.str sg))] []:=by
  intro n8;refine kk _ _ ?_;clear kk R;refine aj (aV (kL (ae 10) (au (aa aw (aa aw ah))) rfl) (ax (az (au (aa (ae 10) (aa (bg (ae 5) (ae 3)) ah))))) aB) (λR kk=>?_);walk_at "vc";refine⟨⟨rfl,by decide +kernel⟩,gR (l:=["jump","zero"]) (λh=>?_) (λn9=>kk _ _ ?_)⟩
  ·obtain⟨t,et,ht⟩:=gZ (n / 34) (m:=2) (n:=2) rfl (by decide);rw[et];refine⟨by decide,?_⟩;rcases aap.mp h with rfl | h
   ·exact q (.jump t) (.inr (show("jump" : Str)∈km by decide +kernel))
   ·rw[jr h];exact q (.zero t) (.inr (show("zero" : Str)∈km by decide +kernel))
  clear kk R;refine aj (aV (dr (hr.units) (ae 10) aw) (ax (az (au (aa (ae 10) (aa (ae 6) (aa (bg (ek (ae 5) aq) (ae 3)) ah)))))) aB) (λR kk=>?_);walk_at "vc";refine aW (λe=>?_) (λTJ=>kk _ _ ?_)
  ·subst e;obtain⟨t,et,ht⟩:=gZ (n / 34 / 8) (m:=2) (n:=2) rfl (by decide);rw[et];exact⟨⟨by decide,by decide⟩,by decide,q (.kin c t) (.inr (show("kin" : Str)∈km by decide +kernel))⟩
  clear kk R;refine aj (aV (tW.dt (iR (kL (ae 10) (au (aa aw (aa aw (aa aw ah)))) rfl) (iu (qh (ae 8) aq)))) (ax (az (au (aa (ae 10) (aa (ae 6) (aa (bg (ek (ae 5) aq) (ae 8)) ah)))))) aB) (λR kk=>?_)
  have TY:R [some (.dat (.tuple [.list (ms.map ve),.list (ps.map eF)])),some (.dat (.int (j:Int))),some (.dat (.int n)),some (.dat (.int 2)),some (.dat (.tuple [])),some (.dat (.int (n / 34))),some (.dat (.int (c:Int))),none,some (.dat (.int ((fields ms c).length:Int))),some (.dat (.str (("push load load store dup swap drop add sub mul div rem less same jump zero zero kin kin make make" : Str)++(" fill fill fill begin begin get put put call call toss say give" : Str)))),some (.dat (.str sg))] []:=by
   refine kk _ _ ?_;clear kk R;refine aj (aV (kL (ae 10) (au (aa aw (aa aw (aa aw (aa aw (aa aw ah)))))) rfl) (ax (az (au (aa (br (eU (aa aw (aa aw ah))) (bg (ek (ae 5) aq) aq) (λ_ _=>rfl)) (aa (ae 6) ah))))) aB) (λR kk=>?_);walk_at "vc";refine⟨⟨rfl,by decide +kernel⟩,gR (l:=["make","begin","fill","get","put"]) (λh=>?_) (λWy=>kk _ _ ?_)⟩
   ·obtain⟨s1,P4,es1⟩:=oj (ss:=["make","begin"]) (n:=2) rfl (by decide) (n / 34 / 8);refine⟨⟨by decide,by decide⟩,by decide,_,es1,?_⟩;rcases aap.mp P4 with rfl | h
    ·exact q (.make c) (.inl (mC (by omega)))
    ·rw[jr h];exact q (.beg c) (.inl (yF (by omega)))
   clear kk R;refine aj (aV (dr (hr.units) (ae 10) aw) (ax (az (au (aa (ae 10) (aa (bg (ae 5) (bB rfl z_len (aa (av (n:=1) (ae 0)) ah))) ah))))) aB) (λR kk=>?_);walk_at "vc";refine aW (λe=>?_) (λWz=>kk _ _ ?_)
   ·subst e;obtain⟨t,et,ht⟩:=gZ (n / 34) (m:=(ps.length:Int)) rfl (by omega);rw[lp,et];exact⟨by omega,q (.call t) (.inl (vq ht))⟩
   clear kk R;refine bF (az (au (aa (br (eU (aa (ae 10) (aa aw ah))) (si rfl z_int (aa (SO (ae 10) (au (aa aw (aa aw ah))) rfl) ah)) (λ_ _=>rfl)) ah))) ?_;walk_at "vc";refine⟨⟨rfl,by decide +kernel⟩,?_⟩;rw[show [PyData.str "load",PyData.str "store"]=(["load","store"]:List Str).map PyData.str from rfl,yc];by_cases h:sg∈(["load","store"]:List Str)
   ·rw[aaD h,aan rfl];exact⟨_,rfl,q (.bare "dup") (.inl (fq (by decide +kernel)))⟩
   ·rw[aaw h];exact⟨_,rfl,q (.bare sg) (.inl (fq (Dq sg hsg n7 h n9 TJ Wy Wz)))⟩
  clear kk;walk_at "vc";refine⟨⟨rfl,by decide +kernel⟩,gR (l:=["fill","get","put"]) (λh=>aW (λh0=>?_) (λ_=>TY)) (λ_=>eQ TY)⟩;obtain⟨t,et,ht⟩:=gZ (n / 34 / 8) (m:=((fields ms c).length:Int)) rfl (by omega);have hfr:=sQ g (np:=ps.length) (nb:=p.boxes) hc ht;rw[et];refine⟨⟨by decide,by decide⟩,by omega,?_⟩;rcases aap.mp h with rfl | h
  ·exact q (.fill c t) (.inl hfr.2.2)
  ·rcases aap.mp h with rfl | h
   ·exact q (.get c t) (.inl hfr.1)
   ·rw[jr h];exact q (.put c t) (.inl hfr.2.1)
 clear kk;walk_at "vc";refine⟨⟨rfl,by decide +kernel⟩,gR (l:=["load","store"]) (λh=>?_) (λn8=>eQ (YE (.inl n8)))⟩;refine⟨_,bO (f:=eF) hp,?_⟩;rw[iY];walk_at "vc";refine aW (λh0=>⟨_,bO (f:=eF) hp,?_⟩) (λh0=>YE (.inr (by omega)));rw[iY];walk_at "vc";obtain⟨t,et,ht⟩:=gZ (n / 34) (m:=(p.boxes:Int)) rfl (by omega);rw[et];refine⟨by omega,?_⟩;rcases aap.mp h with rfl | h
 ·exact q (.load t) (.inl (vv ht))
 ·rw[jr h];exact q (.store t) (.inl (sP ht))
theorem j3:aH ["_law_number","_law_sizes_here","_law_c","_law_way"] ["_law_number","_law_sizes_here"] (dS ng):=by walk_at "sc"
theorem xg{f:Addr}{fd:FuncData}(F:fe K "_law_kind" "_law_kind" ng f fd)(z_len:mg "len"=none):bK P w K mg base bP 1 f fd ["_law_number","_law_sizes_here"] (iG K):=by
 refine F.ok j3 (λvs H Q E h=>?_) (λcdv A outer s H vs Q E hr h=>?_)
 ·obtain⟨PP,ds,hP,hv,zs,n,rfl,hz,JG,h6,q⟩:=h;exact hv.1
 obtain⟨PP,ds,hP,hv,zs,n,rfl,hz,JG,h6,q⟩:=h;refine bc hP hv ?_;show kN _ _ _ _ [some _,some _,none,none] [];clear hP hv;refine aj (aL (i:=2) j3.nd rfl (Or.inl rfl) (bg (ek (ae 0) aq) (bB rfl z_len (aa (ae 1) ah)))) (λR kk=>?_);walk_at "vc";rw[vk];obtain⟨c,ec,hc⟩:=gZ (n / 8) (n:=zs.length) rfl hz;rw[ec];refine⟨⟨by decide,by decide⟩,by omega,kk _ _ ?_⟩;clear kk R;refine aj (aL (i:=3) j3.nd rfl (Or.inl rfl) (bg (ae 0) aq)) (λR kk=>?_);walk_at "vc";refine⟨by decide,kk _ _ ?_⟩;clear kk R;refine aj (aV (mR (ae 3) aq) (ax (az (au (aa aw ah)))) aB) (λR kk=>?_);walk_at "vc";refine aW (λ_=>q .num trivial) (λ_=>kk _ _ ?_);clear kk R;refine aj (aV (mR (ae 3) aq) (ax (az (au (aa aw (aa (ae 2) ah))))) aB) (λR kk=>?_);walk_at "vc";refine aW (λ_=>q (.whole c) hc) (λ_=>kk _ _ ?_);clear kk R;refine aj (aV (mR (ae 3) aq) (ax (az (au (aa aw (aa (ae 2) (aa (bg (ek (ae 0) aq) (zQ aq (br (ae 1) (ae 2) (λ_ _=>rfl)))) ah)))))) aB) (λR kk=>?_);walk_at "vc";have hzc:zs[c]?=some zs[c]:=cW hc;have h6c:=h6 _ (List.getElem_mem hc);generalize zs[c]=z at hzc h6c;have p2:(1:Int) * 2 ^ ((z:Int)).toNat=((2 ^ z:Nat):Int):=by rw[Int.toNat_natCast];simp
 have pz:0 < 2 ^ z:=Nat.pow_pos (by decide);obtain⟨b,eb,hb⟩:=gZ (n / 64) p2 pz;refine aW (λ_=>⟨⟨by decide,by decide⟩,_,mB hzc,⟨by omega,by omega,by decide⟩,by rw[p2];omega,?_⟩) (λ_=>kk _ _ ?_)
 ·rw[eb];exact q (.raw c b) ⟨z,hzc,hb⟩
 clear kk R;refine bF (az (au (aa aw ah))) ?_;walk_at "vc";exact q .any trivial
theorem ck:aH ["_law_cell_here","_law_many","_law_elders","_law_sizes_here","_law_k","_law_makes_here","_law_own"] ["_law_cell_here"] (dS kX):=by walk_at "sc"
theorem uj{f:Addr}{fd:FuncData}(F:fe K "_law_makes" "_law_makes" kX f fd)(z_min:mg "min"=none)(z_range:mg "range"=none)(iL:dw P w K mg base bP "_law_kind" 1 ["_law_number","_law_sizes_here"] (iG K))(aM:dw P w K mg base bP "_law_mixed" 1 ["_law_cell_here","_law_k"] (dc K)):bK P w K mg base bP 2 f fd ["_law_cell_here"] (jV K):=by
 refine F.ok ck (λvs H Q E h=>?_) (λcdv A outer s H vs Q E hr h=>?_)
 ·obtain⟨PP,ds,hP,hv,c,rfl,q⟩:=h;exact hv.1
 obtain⟨PP,ds,hP,hv,c,rfl,q⟩:=h;refine bc hP hv ?_;show kN _ _ _ _ [some _,none,none,none,none,none,none] [];clear hP hv;obtain⟨w,ew,hw⟩:=gZ c (m:=8) (n:=8) rfl (by decide);refine aj (aL (i:=1) ck.nd rfl (aad rfl) (bR aq (bg (ae 0) aq))) (λR kk=>?_);walk_at "vc";rw[ew];refine⟨by decide,kk _ _ ?_⟩;clear kk R;refine aj (aL (i:=2) ck.nd rfl (aad rfl) (rp (aa c9 ah))) (λR kk=>?_);walk_at "vc";refine kk _ _ ?_;clear kk R;refine aj (aL (i:=3) ck.nd rfl (aby rfl) (rp (aa aq ah))) (λR kk=>?_);walk_at "vc";refine kk _ _ ?_;clear kk R;refine aj (iS aaI rfl (uX rfl z_range (aa aq (aa (ae 1) ah))) (bN (i:=4) ck.nd rfl (aby rfl)) (b6 (oi (mq (ae 2) (aa (bg (aD aM bo aY (hr.mono (by decide)) rfl (aa (ae 0) (aa (ae 4) ah))) (ae 4)) ah)))
   (ax (oi (mq (ae 3) (aa (OY rfl rfl z_min (aa aq (aa (bR (br (ae 3) (br (ae 2) (ae 4) (λ_ _=>rfl)) (λ_ _=>rfl)) (bg (aD aM bo aY (hr.mono (by decide)) rfl (aa (ae 0) (aa (bR aq (ae 4)) ah))) aq)) ah))) ah)))))) (λR kk=>?_)
 walk_at "vc";refine⟨⟨by decide,by decide,by omega,by omega⟩,?_⟩;refine fz (λi env st=>∃(sh:List (Option Nat×Nat)) (zs:List Nat) (o4:Option DV),env=[some (.dat (.int c)),some (.dat (.int (1 + (w:Int)))),some (.ref 0),some (.ref 1),o4,none,none]/\st=[.live (sh.map λs=>wy s.1),.live (fZ zs)]/\yw sh zs/\sh.length=i + 1) ⟨[(none,0)],[0],_,rfl,rfl,yw.one,rfl⟩ (λ_ _ _ _=>trivial) ?_ ?_
 ·rintro i env st d hd ⟨sh,zs,o4,rfl,rfl,hO,hl⟩;obtain⟨hi,rfl⟩:=gf hd;have hi:i < w:=by omega
  have hz:=hO.len;refine fA (λR1 k1=>?_);walk_at "vs";refine⟨rfl,_,_,rfl,by omega,by omega,λv0 _ _=>?_⟩;walk_at "vs";obtain⟨e,ee,he⟩:=gZ v0 (m:=1 + (i:Int)) (n:=i + 1) (by omega) (by omega);rw[ee];refine⟨by omega,by rw[aac];omega,k1 _ _ ?_⟩;clear k1 R1;walk_at "vs"
  have eat:kA (sh.map (λs=>wy s.1)++[PyData.int (e:Int)]) (1 + (i:Int))=some (.int (e:Int)):=by
   rw[show(1:Int) + (i:Int)=((i + 1:Nat):Int)by omega];refine wm ?_;rw[aaj (by rw[aac];omega),aac,hl,aa0];rfl
  have hez:e < zs.length:=by omega
  have hze:zs[e]?=some zs[e]:=cW hez;have h6:=hO.six _ (abQ hez);generalize zs[e]=z at hze h6;refine⟨rfl,_,eat,?_⟩;walk_at "vs";refine⟨_,mB hze,_,_,rfl,by omega,by omega,λv1 _ _=>?_⟩;walk_at "vs";obtain⟨m,em,hm⟩:=gZ v1 (m:=4) (n:=4) rfl (by decide);rw[em];refine⟨by decide,by rw[vk];omega,?_⟩
  obtain⟨n,hn6,e6⟩:∃n:Nat,z + n<=6/\(if (z:Int) + (m:Int) < 6 then(z:Int) + (m:Int)else 6)=((z + n:Nat):Int):=by
   by_cases h:(z:Int) + (m:Int) < 6
   ·exact⟨m,by omega,by rw[aan h];omega⟩
   ·exact⟨6 - z,by omega,by rw[aak h];omega⟩
  rw[e6,Dj];refine⟨sh++[(some e,n)],_,_,rfl,?_,hO.snoc (by omega) hze hn6,by simp[hl]⟩;rw[List.map_append];rfl
 rintro env st ⟨sh,zs,o4,rfl,rfl,hO,hl⟩;rw[dj]at hl;have h8:sh.length<=8:=by omega
 have hzl:=hO.len;refine kk _ _ ?_;clear kk R;refine aj (aL (i:=5) ck.nd rfl (aad rfl) (rp (aa (au (aa c9 (aa (eU ah) ah))) ah))) (λR kk=>?_);walk_at "vc";refine kk _ _ ?_;clear kk R;refine aj (iS aaI rfl (uX rfl z_range (aa aq (aa (ae 1) ah))) (bN (i:=4) ck.nd rfl (aby rfl)) (b6 (aL (i:=6) ck.nd rfl (aad rfl) (mX (br (ae 3) (ae 4) (λ_ _=>rfl)) (br (ae 3) (br (ae 2) (ae 4) (λ_ _=>rfl)) (λ_ _=>rfl))))
   (ax (oi (mq (ae 5) (aa (au (aa (br (ae 2) (ae 4) (λ_ _=>rfl)) (aa (Pu Pq 1 ["_law_j","_law_sizes_here","_law_cell_here","_law_k"] [3,0,4] ⟨rfl,rfl,rfl,rfl,rfl,rfl,rfl,rfl⟩ (Po (fj rfl z_range (aa (ae 6) ah))) (λ_ _ _ _=>(cL (i:=0) (show List.Nodup (["_law_j","_law_sizes_here","_law_cell_here","_law_k"]:List Str)by decide +kernel) rfl (aad rfl))) (qI (i:=0)) (wj (by decide)) (λ_ _ _ _=>⟨m3,(aD iL lG lF (hr.mono (by decide)) rfl (aa (aD aM bo aY (hr.mono (by decide)) rfl (aa (ae 2) (aa (bR (bR aq (pA aq (ae 3))) (ae 0)) ah))) (aa (ae 1) ah)))⟩)) ah))) ah)))))) (λR kk=>?_)
 walk_at "vc";refine⟨⟨by decide,by decide,by omega,by omega⟩,?_⟩;refine fz (λi env st=>∃(ms:bA) (o4 o6:Option DV) (ce:Ce),env=[some (.dat (.int c)),some (.dat (.int (1 + (w:Int)))),some (.ref 0),some (.ref 1),o4,some (.ref 2),o6]/\st=[.live (sh.map λs=>wy s.1),ce,.live (ms.map ve)]/\(ce=.live (fZ zs)∨ce=.froz (fZ zs))/\ms.length=i + 1/\∀(i:Nat) m,ms[i]?=some m->∃s,sh[i]?=some s/\m.1=s.1/\m.2.length=s.2/\∀k∈m.2,cV zs k) ⟨[(none,[])],_,_,_,rfl,rfl,.inl rfl,rfl,λi m hm=>?_⟩ (λ_ _ _ _=>trivial) ?_ ?_
 ·match i,hm with
  | 0,hm=>cases hm;exact⟨_,hO.s0,rfl,rfl,λk hk=>nomatch hk⟩
  | n + 1,hm=>cases hm
 ·rintro i env st d hd ⟨ms,o4,o6,ce,rfl,rfl,hce,hml,get⟩;obtain⟨hi,rfl⟩:=gf hd;have hi:i < w:=by omega
  obtain⟨s,hs⟩:∃s,sh[i + 1]?=some s:=⟨_,cW (by omega)⟩;obtain⟨j,z,f1,f2,f3,f4⟩:=hO.go (i + 1) s (by omega) hs;have s6:=hO.six _ (aaf f4);have a1:(1:Int) + (i:Int)=((i + 1:Nat):Int):=by omega
  have a2:kA (sh.map λs=>wy s.1) (1 + (i:Int))=some (.int (j:Int)):=by
   rw[a1,bO (f:=λs:Option Nat×Nat=>wy s.1) hs,f1];rfl
  have a3:kA (fZ zs) (1 + (i:Int))=some (.int ((z + s.2:Nat):Int)):=by rw[a1];exact mB f4
  rcases hce with rfl | rfl
  all_goals
   refine fA (λR1 k1=>?_);walk_at "vs";refine⟨_,a3,_,a2,?_⟩;walk_at "vs";refine⟨_,mB f3,?_⟩;walk_at "vs";rw[show((z + s.2:Nat):Int) - (z:Int)=((s.2:Nat):Int)by omega];refine k1 _ _ ?_;clear k1 R1;walk_at "vs";refine⟨rfl,_,a2,⟨by omega,by omega⟩,by rw[aac,dj];omega,λt ys st=>∃(ks:List Kd) (ce:Ce),ys=(aA ks).map DV.dat/\ks.length=t/\(∀k∈ks,cV zs k)/\st=[.live (sh.map λs=>wy s.1),ce,.live (ms.map ve)]/\(ce=.live (fZ zs)∨ce=.froz (fZ zs)),⟨[],_,rfl,rfl,(λk hk=>nomatch hk),rfl,by first | exact .inl rfl | exact .inr rfl⟩,(λ_ _ _ _=>trivial),?_,?_⟩
   ·rintro t ys st d ⟨ks,ce,rfl,lk,hk,rfl,hce⟩ hd;obtain⟨dd,hdd,rfl⟩:=jE hd;obtain⟨ht,rfl⟩:=gf hdd;rw[Int.toNat_natCast]at ht;have kapp:∀k:Kd,List.map DV.dat (aA ks)++[DV.dat (.tuple (cH k))]=(aA (ks++[k])).map DV.dat:=λk=>by unfold aA;rw[List.map_append,List.map_append];rfl
    have kall:∀k:Kd,cV zs k->∀k'∈ks++[k],cV zs k':=λk h k' hk'=>by
     rcases aaE.mp hk' with y | y
     ·exact hk k' y
     ·rw[jr y];exact h
    rcases hce with rfl | rfl
    ·refine fh ?_;walk_at "vs";refine⟨.inl (.inl ⟨by decide,by decide⟩),_,_,rfl,by omega,by omega,λv _ _=>?_⟩;walk_at "vs";exact⟨zs,v,rfl,by omega,by omega,hO.six,λk h=>⟨ks++[k],_,kapp k,by simp[lk],kall k h,rfl,.inr rfl⟩⟩
    ·refine fh ?_;walk_at "vs";refine⟨.inl (.inl ⟨by decide,by decide⟩),_,_,rfl,by omega,by omega,λv _ _=>?_⟩;walk_at "vs";exact⟨zs,v,rfl,by omega,by omega,hO.six,λk h=>⟨ks++[k],_,kapp k,by simp[lk],kall k h,rfl,.inr rfl⟩⟩
   ·rintro ys st ⟨ks,ce,rfl,lk,hk,rfl,hce⟩;rw[List.length_map,dj,Int.toNat_natCast]at lk;refine⟨aA ks,rfl,?_⟩;walk_at "vs";refine⟨by rw[List.length_map];omega,ms++[(some j,ks)],_,_,ce,rfl,?_,hce,by simp[hml],λi' m hm=>?_⟩
    ·rw[aa6];rfl
    ·by_cases hi':i' < ms.length
     ·rw[aab hi']at hm;exact get i' m hm
     ·have e':i'=ms.length:=by
       have:=(bX hm).1;simp at this;omega
      subst e';rw[aaj (aag _),aa0]at hm;cases hm;rw[hml];exact⟨s,hs,f1.symm,lk,hk⟩
 rintro env st ⟨ms,o4,o6,ce,rfl,rfl,hce,hml,get⟩;rw[dj]at hml;refine kk _ _ ?_;clear kk R;refine bF (az (ae 5)) ?_;walk_at "vc";exact q ms zs (Good.Wt hO h8 (by omega) get)
theorem uk:aH ["_law_makes_here"] ["_law_makes_here"] (dS kY):=by walk_at "sc"
theorem um{f:Addr}{fd:FuncData}(F:fe K "_law_sizes" "_law_sizes" kY f fd)(z_len:mg "len"=none)(z_range:mg "range"=none)(bE:dw P w K mg base bP "_law_fields" 1 ["_law_makes_here","_law_c"] (cI K)):bK P w K mg base bP 2 f fd ["_law_makes_here"] (jW K):=by
 refine F.ok uk (λvs H Q E h=>?_) (λcdv A outer s H vs Q E hr h=>?_)
 ·obtain⟨PP,ds,hP,hv,ms,zs,rfl,g,q⟩:=h;exact hv.1
 obtain⟨PP,ds,hP,hv,ms,zs,rfl,g,q⟩:=h;refine bc hP hv ?_;show kN _ _ _ _ [some _] [];clear hP hv;have gl:=g.len;have g8:=g.wf.few;refine bF (az (M1 1 ["_law_c","_law_makes_here"] [0] ⟨rfl,rfl,rfl,rfl,rfl,rfl,rfl,rfl⟩ (fj rfl z_range (aa (bB rfl z_len (aa (ae 0) ah)) ah)) (λ_ _ _ _=>(cL (i:=0) (show List.Nodup (["_law_c","_law_makes_here"]:List Str)by decide +kernel) rfl (aad rfl))) (qI (i:=0)) (wj (by decide)) (λ_ _ _ _=>⟨m3,(bB rfl z_len (aa (aD bE cK cJ (hr.mono (by decide)) rfl (aa (ae 1) (aa (ae 0) ah))) ah))⟩))) ?_;rw[jJ];walk_at "vc";rw[aac];refine⟨⟨by omega,by omega⟩,?_⟩;refine GO (List.range ms.length) (λk=>.int (0 + (k:Int))) (λk=>.int ((zs[k]?).getD 0:Nat)) (GP _) (by rw[List.length_range];omega) (λi k hk P N hP=>?_) ?_
 ·have hk:=acG.mp (aaf hk);obtain⟨z,hz,hl⟩:=g.fk k hk;rw[hz]at hP;rw[show(0:Int) + (k:Int)=(k:Int)by omega];refine⟨rfl,rfl,fh ⟨ms,zs,k,by rw[jJ],g,hk,?_⟩⟩;walk_at "vc";rw[aac,hl];exact⟨rfl,hP⟩
 ·have e:(List.range ms.length).map (λk=>PyData.int ((zs[k]?).getD 0:Nat))=fZ zs:=by
   unfold fZ;apply List.ext_getElem?;intro i;rw[List.getElem?_map,List.getElem?_map];by_cases h:i < zs.length
   ·rw[List.getElem?_range (by omega),cW h];show some (PyData.int ((zs[i]?).getD 0:Nat))=some (PyData.int (zs[i]:Nat));rw[cW h];rfl
   ·rw[List.getElem?_eq_none (by simp;omega),List.getElem?_eq_none (by omega)];rfl
  rw[e];exact q
theorem dO:aH ["_law_makes_here","_law_cell_here","_law_sizes_here","_law_takes","_law_gives","_law_boxes"] ["_law_makes_here","_law_cell_here"] (dS nh):=by walk_at "sc"
theorem xh{f:Addr}{fd:FuncData}(F:fe K "_law_part" "_law_part" nh f fd)(z_len:mg "len"=none)(z_range:mg "range"=none)(iL:dw P w K mg base bP "_law_kind" 1 ["_law_number","_law_sizes_here"] (iG K))(aM:dw P w K mg base bP "_law_mixed" 1 ["_law_cell_here","_law_k"] (dc K))(xi:dw P w K mg base bP "_law_sizes" 2 ["_law_makes_here"] (jW K)):bK P w K mg base bP 3 f fd ["_law_makes_here","_law_cell_here"] (lH K):=by
 refine F.ok dO (λvs H Q E h=>?_) (λcdv A outer s H vs Q E hr h=>?_)
 ·obtain⟨PP,ds,hP,hv,ms,zs,c,rfl,g,q⟩:=h;exact hv.1
 obtain⟨PP,ds,hP,hv,ms,zs,c,rfl,g,q⟩:=h;refine bc hP hv ?_;show kN _ _ _ _ [some _,some _,none,none,none,none] [];clear hP hv;have gl:=g.len;have g8:=g.wf.few;have gn:=g.wf.ne;refine aj (aL (i:=2) dO.nd rfl (aby rfl) (aD xi wU wR (hr.mono (by decide)) rfl (aa (ae 0) ah))) (λR kk=>?_);walk_at "vc";refine⟨ms,zs,rfl,g,kk _ _ ?_⟩;clear kk R;refine aj (jh yk (i:=3) dO.nd rfl (aad rfl) 1 ["_law_k","_law_sizes_here","_law_cell_here"] [2,1] ⟨rfl,rfl,rfl,rfl,rfl,rfl,rfl,rfl⟩ (fj rfl z_range (aa (bg (aD aM bo aY (hr.mono (by decide)) rfl (aa (ae 1) (aa aq ah))) aq) ah)) (λ_ _ _ _=>(cL (i:=0) (show List.Nodup (["_law_k","_law_sizes_here","_law_cell_here"]:List Str)by decide +kernel) rfl (aad rfl))) (qI (i:=0)) (wj (by decide)) (λ_ _ _ _=>⟨m3,(aD iL lG lF (hr.mono (by decide)) rfl (aa (aD aM bo aY (hr.mono (by decide)) rfl (aa (ae 2) (aa (ae 0) ah))) (aa (ae 1) ah)))⟩)) (λR kk=>?_);walk_at "vc";refine⟨_,_,rfl,by decide,by decide,λv0 v00 v01=>?_⟩;walk_at "vc";obtain⟨n,en,hn⟩:=gZ v0 (m:=5) (n:=5) rfl (by decide);rw[en];refine⟨by decide,⟨by omega,by omega⟩,?_⟩;refine GN (cV zs) (λk=>.tuple (cH k)) (by rw[dj];omega) ?_ ?_
 ·intro i d hd W N hW;obtain⟨hi,rfl⟩:=gf hd;walk_at "vc";rw[aan rfl];walk_at "vc";refine⟨rfl,rfl,_,_,rfl,by omega,by omega,λv _ _=>?_⟩;walk_at "vc";exact⟨zs,v,rfl,by omega,by omega,g.six,λk hk=>⟨rfl,hW k hk⟩⟩
 intro ks lk hks;rw[dj]at lk;walk_at "vc";refine kk _ _ ?_;clear kk R;refine aj (aL (i:=4) dO.nd rfl (aad rfl) (aD iL lG lF (hr.mono (by decide)) rfl (aa (aD aM bo aY (hr.mono (by decide)) rfl (aa (ae 1) (aa aq ah))) (aa (ae 2) ah)))) (λR kk=>?_);walk_at "vc";refine⟨_,_,rfl,by decide,by decide,λv _ _=>?_⟩;walk_at "vc";refine⟨zs,v,rfl,by omega,by omega,g.six,λgv hgv=>kk _ _ ?_⟩;clear kk R;refine aj (aV (qh (bg (aD aM bo aY (hr.mono (by decide)) rfl (aa (ae 1) (aa aq ah))) aq) aq) (ax (aL (i:=4) dO.nd rfl (aad rfl) (au (aa aw ah)))) aB) (λR kk=>?_);walk_at "vc";refine⟨_,_,rfl,by decide,by decide,λv1 _ _=>?_⟩;walk_at "vc"
 have fin:∀gv:Kd,cV zs gv->R [some (.dat (eE ms)),some (.dat (.int c)),some (.dat (.list (fZ zs))),some (.dat (.list (aA ks))),some (.dat (.tuple (cH gv))),none] []:=by
  intro gv hgv;refine kk _ _ ?_;clear kk R;refine aj (aL (i:=5) dO.nd rfl (aad rfl) (bR (bB rfl z_len (aa (ae 3) ah)) (bg (aD aM bo aY (hr.mono (by decide)) rfl (aa (ae 1) (aa aq ah))) aq))) (λR kk=>?_);walk_at "vc";refine⟨_,_,rfl,by decide,by decide,λv2 _ _=>?_⟩;walk_at "vc";obtain⟨m,em,hm⟩:=gZ v2 (m:=5) (n:=5) rfl (by decide);rw[em,aac];refine⟨by decide,kk _ _ ?_⟩;clear kk R;refine bF (az (au (aa (ae 3) (aa (ae 4) (aa (ae 5) (aa (bR aq (bg (aD aM bo aY (hr.mono (by decide)) rfl (aa (ae 1) (aa aq ah))) aq)) (aa (eU (aa (au (aa aw (aa aq ah))) (aa (au (aa aw ah)) ah))) (aa (eU ah) ah)))))))) ?_;walk_at "vc";refine⟨_,_,rfl,by decide,by decide,λv3 _ _=>?_⟩;walk_at "vc";obtain⟨x,ex,hx⟩:=gZ v3 (m:=8) (n:=8) rfl (by decide);rw[ex];refine⟨by decide,?_⟩;refine q ⟨ks,gv,ks.length + m,1 + x,[.push 0,.bare "toss"],[]⟩ (λnp=>⟨hks,hgv,by show ks.length + m<=8;omega,by show ks.length<=ks.length + m;omega,by show 1<=1 + x;omega,by show 1 + x<=8;omega,by show 1<=2;decide,by show 2<=100;decide,λr hr=>?_,⟨[.push 0],.bare "toss",rfl,.inl rfl⟩,?_,?_⟩) rfl
  ·rcases aap.mp hr with rfl | hr
   ·exact⟨by decide,by decide⟩
   ·rw[jr hr];exact(by decide +kernel:("toss" : Str)∈cC)
  ·exact aaX _
  ·exact λs hs=>nomatch hs
 refine⟨by decide,?_⟩;split
 ·exact fin .num trivial
 ·exact fin gv hgv
theorem a9:aH ["_law_script","_law_makes_here","_law_cell_here","_law_parts","_law_number","_law_many","_law_cells","_law_rows","_law_row"] ["_law_script"] (dS gW):=by walk_at "sc"
theorem p5{f:Addr}{fd:FuncData}(F:fe K "_law_straight" "_law_straight" gW f fd)(z_len:mg "len"=none)(z_max:mg "max"=none)(z_range:mg "range"=none)(xj:dw P w K mg base bP "_law_block" 5 ["_law_book","_law_part_here","_law_start","_law_cells","_law_entries"] (oG K))(cZ:dw P w K mg base bP "_law_cell" 2 ["_law_script","_law_k"] (lE K))(j2:dw P w K mg base bP "_law_entry" 1 ["_law_part_here"] (gr K))(qU:dw P w K mg base bP "_law_free_row" 2 ["_law_book","_law_part_here","_law_number","_law_many","_law_stack"] (kl K))(xk:dw P w K mg base bP "_law_makes" 2 ["_law_cell_here"] (jV K))(aM:dw P w K mg base bP "_law_mixed" 1 ["_law_cell_here","_law_k"] (dc K))(qw:dw P w K mg base bP "_law_part" 3 ["_law_makes_here","_law_cell_here"] (lH K))(dH:dw P w K mg base bP "_law_word" 1 ["_law_number"] (eJ K)):bK P w K mg base bP 6 f fd ["_law_script"] (fX K):=by
 refine F.ok a9 (λvs H Q E h=>?_) (λcdv A outer s H vs Q E hr h=>?_)
 ·obtain⟨PP,ds,hP,hv,ns,rfl,IM,q⟩:=h;exact hv.1
 obtain⟨PP,ds,hP,hv,ns,rfl,IM,q⟩:=h;refine bc hP hv ?_;show kN _ _ _ _ [some _,none,none,none,none,none,none,none,none] [];clear hP hv;refine aj (aL (i:=1) a9.nd rfl (aby rfl) (aD xk wQ wO (hr.mono (by decide)) rfl (aa (aD cZ fJ cY (hr.mono (by decide)) rfl (aa (ae 0) (aa aq ah))) ah))) (λR kk=>?_);walk_at "vc";refine⟨ns,0,rfl,by decide,λc0=>⟨c0,rfl,λms zs g=>kk _ _ ?_⟩⟩;clear kk R;have gl:=g.len;have g8:=g.wf.few;refine aj (aL (i:=2) a9.nd rfl (aby rfl) (aD cZ fJ cY (hr.mono (by decide)) rfl (aa (ae 0) (aa aq ah)))) (λR kk=>?_);walk_at "vc";refine⟨ns,1,rfl,by decide,λc1=>kk _ _ ?_⟩;clear kk R;refine aj (jh S6 (i:=3) a9.nd rfl (aad rfl) 1 ["_law_k","_law_makes_here","_law_cell_here"] [1,2] ⟨rfl,rfl,rfl,rfl,rfl,rfl,rfl,rfl⟩ (fj rfl z_range (aa (br (eU (aa aq (aa aq (aa aq (aa aq (aa aq (aa aq (aa aq (aa aq ah))))))))) (bg (ae 2) aq) (λ_ _=>rfl)) ah)) (λ_ _ _ _=>(cL (i:=0) (show List.Nodup (["_law_k","_law_makes_here","_law_cell_here"]:List Str)by decide +kernel) rfl (aad rfl))) (qI (i:=0)) (wj (by decide)) (λ_ _ _ _=>⟨m3,(aD qw qt qr (hr.mono (by decide)) rfl (aa (ae 1) (aa (aD aM bo aY (hr.mono (by decide)) rfl (aa (ae 2) (aa (ae 0) ah))) ah)))⟩)) (λR kk=>?_);walk_at "vc";obtain⟨d,hd,ed⟩:=BV (xs:=[PyData.int 1,.int 2,.int 3,.int 4,.int 2,.int 3,.int 5,.int 8]) (n:=8) rfl (by decide) c1
 obtain⟨np,rfl,UT,hn8⟩:∃n:Nat,d=.int (n:Int)/\1<=n/\n<=8:=by
  simp only[List.mem_cons,List.not_mem_nil,or_false]at hd;rcases hd with rfl | rfl | rfl | rfl | rfl | rfl | rfl | rfl
  ·exact⟨1,rfl,by decide,by decide⟩
  ·exact⟨2,rfl,by decide,by decide⟩
  ·exact⟨3,rfl,by decide,by decide⟩
  ·exact⟨4,rfl,by decide,by decide⟩
  ·exact⟨2,rfl,by decide,by decide⟩
  ·exact⟨3,rfl,by decide,by decide⟩
  ·exact⟨5,rfl,by decide,by decide⟩
  ·exact⟨8,rfl,by decide,by decide⟩
 refine⟨by decide,_,ed,?_⟩;walk_at "vc";refine⟨⟨by omega,by omega⟩,?_⟩;refine GN (λp:Pt=>(∀n,mJ zs n p)/\p.spans=[]) eF (by rw[dj];omega) ?_ ?_
 ·intro i d hd W N hW;obtain⟨hi,rfl⟩:=gf hd;walk_at "vc";rw[aan rfl];walk_at "vc";refine⟨rfl,rfl,_,_,rfl,by omega,by omega,λv _ _=>?_⟩;walk_at "vc";exact⟨ms,zs,v,rfl,g,λp h1 h2=>⟨rfl,hW p ⟨h1,h2⟩⟩⟩
 intro ps lps hps;rw[dj,Int.toNat_natCast]at lps;walk_at "vc";refine kk _ _ ?_;clear kk R;have lpd:(ps.map eF).length=ps.length:=List.length_map _;refine aj (aL (i:=4) a9.nd rfl (Or.inl rfl) (bg (aD aM bo aY (hr.mono (by decide)) rfl (aa (ae 2) (aa aq ah))) (bB rfl z_len (aa (ae 3) ah)))) (λR kk=>?_);walk_at "vc";refine⟨_,_,rfl,by decide,by decide,λv3 _ _=>?_⟩;walk_at "vc";obtain⟨j,ej,hj⟩:=gZ v3 (m:=(ps.length:Int)) rfl (by omega);rw[lpd,ej];refine⟨by omega,kk _ _ ?_⟩;clear kk R;refine aj (pJ (aD qw qt qr (hr.mono (by decide)) rfl (aa (ae 1) (aa (aD cZ fJ cY (hr.mono (by decide)) rfl (aa (ae 0) (aa aq ah))) ah))) (O5 (ae 3) (ae 4))) (λR kk=>?_);walk_at "vc";refine⟨ns,2,rfl,by decide,λc2=>?_⟩;walk_at "vc";refine⟨ms,zs,c2,rfl,g,λp hp hsp=>?_⟩;walk_at "vc";refine⟨j,by unfold xR;rw[if_pos (by omega),if_pos (by rw[lpd];omega),Int.toNat_natCast],kk _ _ ?_⟩;clear kk R;rw[← List.map_set]
 have hps:∀p'∈ps.set j p,(∀n,mJ zs n p')/\p'.spans=[]:=λp' h=>by
  rcases aaU h with h | rfl
  ·exact hps p' h
  ·exact⟨hp,hsp⟩
 have hpj:(ps.set j p)[j]?=some p:=aao hj;have lps:(ps.set j p).length<=8:=by rw[aaz];omega
 generalize ps.set j p=ps at hps hpj lps;refine aj (aL (i:=5) a9.nd rfl (aad rfl) (OZ rfl rfl z_max (aa (bB rfl z_len (aa (jg (ae 0) (cM aq) (cM aq)) ah)) (aa (bg (aD cZ fJ cY (hr.mono (by decide)) rfl (aa (ae 0) (aa aq ah))) aq) ah)))) (λR kk=>?_);walk_at "vc";refine⟨ns,3,rfl,by decide,λc3=>?_⟩;walk_at "vc";obtain⟨m,em,hm⟩:=gZ c3 (m:=24) (n:=24) rfl (by decide);rw[em];refine⟨by decide,?_⟩;have Rx:(cutD (List.map PyData.int ns) (some 8) (some 53)).length<=45:=Dr _ 8 53;generalize (cutD (List.map PyData.int ns) (some 8) (some 53)).length=lc at Rx
 obtain⟨n,en,hn⟩:∃n:Nat,(if (m:Int) > (lc:Int)then(m:Int)else(lc:Int))=(n:Int)/\n<=45:=by
  split
  ·exact⟨m,rfl,by omega⟩
  ·exact⟨lc,rfl,Rx⟩
 rw[en];refine kk _ _ ?_;clear kk R;refine aj (jh yk (i:=6) a9.nd rfl (aad rfl) 1 ["_law_k","_law_script"] [0] ⟨rfl,rfl,rfl,rfl,rfl,rfl,rfl,rfl⟩ (fj rfl z_range (aa (ae 5) ah)) (λ_ _ _ _=>(cL (i:=0) (show List.Nodup (["_law_k","_law_script"]:List Str)by decide +kernel) rfl (aad rfl))) (qI (i:=0)) (wj (by decide)) (λ_ _ _ _=>⟨m3,(aD cZ fJ cY (hr.mono (by decide)) rfl (aa (ae 1) (aa (bR aq (ae 0)) ah)))⟩)) (λR kk=>?_);walk_at "vc";refine⟨⟨by omega,by omega⟩,?_⟩;refine GN (λ_:Int=>True) PyData.int (by rw[dj];omega) ?_ ?_
 ·intro i d hd W N hW;obtain⟨hi,rfl⟩:=gf hd;walk_at "vc";rw[aan rfl];walk_at "vc";exact⟨rfl,rfl,ns,8 + i,by rw[show(8:Int) + (0 + (i:Int))=((8 + i:Nat):Int)by omega],by omega,λv=>⟨rfl,hW v trivial⟩⟩
 intro cs lcs _;rw[dj,aaP]at lcs;walk_at "vc";refine kk _ _ ?_;clear kk R;refine BY (qK (bf (i:=7) a9.nd rfl (aad rfl) (bY xj (hr.mono (by decide)) rfl (pK (bh (pK (pv 1) (pK (pv 3) pN))) (pK (pv 4) (pK (bY j2 (hr.mono (by decide)) rfl (pK (aG cc (pv 3) (pv 4) (λ_ _=>rfl)) pN)) (pK (pv 6) (pK (fg pN) pN)))))))
   (qK (bf (i:=7) a9.nd rfl (aad rfl) (df Br (pv 7) (fg (pK (bh (pK ba (pK (bY dH (hr.mono (by decide)) rfl (pK (bY cZ (hr.mono (by decide)) rfl (pK (pv 0) (pK pI pN))) pN)) pN))) (pK (bh (pK ba pN)) pN)))))
   (qK (bS (tR Bh (df vJ (bY cZ (hr.mono (by decide)) rfl (pK (pv 0) (pK pI pN))) pI) pI (aZ _)) (qO (vG (bh (pK ba pN)) (vF (pv 7) (Mw Eu pI) set_list))) aT)
   (qK (vG (df mm (gI jB (aG cc (pv 3) (pv 4) (λ_ _=>rfl)) jx (jy pI)) (bh (pK (pv 7) (pK (fg pN) pN)))) (vF (pv 3) (pv 4) set_list))
   (qK (bf (i:=2) a9.nd rfl (aby rfl) (bY cZ (hr.mono (by decide)) rfl (pK (pv 0) (pK pI pN))))
   (qK (bS (tR dh (df vJ (pv 2) pI) pI (aZ _)) (qK (bf (i:=8) a9.nd rfl (aad rfl) (bY qU (hr.mono (by decide)) rfl (pK (bh (pK (pv 1) (pK (pv 3) pN))) (pK (pv 4) (pK (bY aM (hr.mono (by decide)) rfl (pK (pv 2) (pK pI pN))) (pK pI (pK (bh pN) pN)))))))
   (qO (bS (tR nU (aG aE (pv 8) pI (λ_ _=>rfl)) (bh (pK ba (pK ba (pK ba pN)))) rfl) (qO (vG (pv 8) (vF (pv 7) (df vJ (bY aM (hr.mono (by decide)) rfl (pK (pv 2) (pK pI pN))) (df pf (cn bM rfl z_len gK (pK (pv 7) pN)) pI)) set_list))) aT))) aT)
   (qO (aQ (bh (pK (bh (pK (pv 1) (pK (pv 3) pN))) (pK (pv 4) pN))))))))))) (λH0 A0 G al H1 σ D I En k=>?_)
 obtain⟨a0,a1,a2,a3,a4,a5,a6,a7,a8,rfl⟩:=ex9 En.1;obtain⟨v0,e0,r0⟩:=En.2 0 _ rfl;obtain⟨vm,e1,rm⟩:=En.2 1 _ rfl;obtain⟨v3,e3,r3⟩:=En.2 3 _ rfl;obtain⟨v4,e4,r4⟩:=En.2 4 _ rfl;obtain⟨v6,e6,r6⟩:=En.2 6 _ rfl;cases e0;cases e1;cases e3;cases e4;cases e6;obtain⟨P1,fr,hal,rfl⟩:=r3;have r4:aO K H1 v4 (.int (j:Int)):=aJ.now r4;cases r4;obtain⟨P2,ysP,e5,hP,hyP⟩:=I.cel 0 _ _ hal rfl;cases e5;have hpt:=(hps p (aaf hpj)).1 ps.length;have hall:∀p'∈ps,mJ zs ps.length p':=λp' h=>(hps p' h).1 _
 have rP:aO K H1 (.ref P1) (.list (ps.map eF)):=aO.lst (cG.of hP) hyP.1 λi x d h1 h2=>aJ.now (hyP.2 i x d h1 h2)
 have rm1:aO K H1 vm (eE ms):=aJ.now rm;obtain⟨yj,hyj,ryj⟩:∃y,ysP[j]?=some y/\aJ _ _ H1 y (eF p):=hyP.at (by rw[aaq,hpj];rfl);refine aS (λR kk=>?_);refine⟨_,rfl,_,rfl,zo,λt nt=>⟨_,rfl,_,rfl,_,rfl,P1,_,_,_,rfl,rfl,cG.of (by rw[uN (nN hP nt)];exact hP),aN hyj,?_⟩⟩;have s2:=sN nt (.tup [vm,.ref P1]);have g2:upd H1 t (.tup [vm,.ref P1]) t=_:=uS;generalize upd H1 t (.tup [vm,.ref P1])=H2 at s2 g2 ⊢;refine gp oF (.cons ((aJ.now ryj).same s2) .nil) ⟨p,rfl,hpt.bx,hpt.tb,λv7 H3 s3 r7=>⟨_,rfl,Mt,λe ne=>?_⟩⟩;have S3:=(s2.trans s3).trans (sN ne (.lst []));have S4:=s3.trans (sN ne (.lst []));have YF:aO K (upd H3 e (.lst [])) vm (eE ms):=rm1.same S3;have YG:=rP.same S3;have YH:aO K (upd H3 e (.lst [])) (.ref t) (oy ms ps):=.iQ (S4.tup (bz.of g2)) (.cons YF (.cons YG .nil));have YI:aO K (upd H3 e (.lst [])) (.ref e) (.list []):=.lst (cG.of uS) rfl (λi x d h=>nomatch h);have YJ:aO K (upd H3 e (.lst [])) v6 (.list (cs.map PyData.int)):=(aJ.now r6).same S3;refine gp wN (.cons YH (.cons (.int _) (.cons (r7.same (sN ne _)) (.cons YJ (.cons YI .nil))))) ⟨ms,zs,ps,j,p,cf p,cs,rfl,g,hpj,hall,sM hpt,by omega,λrs hrl hrs v8 H5 s5 r8=>?_⟩;have S5:aK H1 H5:=S3.trans s5;clear YI YJ YH YG YF r7 S4;generalize upd H3 e (.lst [])=H4 at s5 S3;clear s2 g2 s3 nt ne S3 s5 H2 H3 H4 t e;refine kk _ _ ?_;clear kk R;refine aS (λR kk=>?_);obtain⟨L0,P7,rfl,hS8,YL⟩:=aO.dn r8;have l8:P7.length=rs.length:=by rw[YL.1,aac]
 refine⟨_,rfl,_,rfl,gp cY (.cons ((aJ.now r0).same S5) (.cons (.int _) .nil)) ⟨ns,4,rfl,by decide,λc4 v9 H6 s6 r9=>?_⟩⟩;cases r9;refine gp iE (.cons (.int _) .nil) ⟨c4,rfl,λw w0 w1 v9 H7 s7 r9=>?_⟩;cases r9;refine⟨zo,λt1 n1=>⟨xJ,λt2 n2=>⟨zo,λl nl=>?_⟩⟩⟩;have u1:=sN n1 (.tup [.str "push",.int w]);have g1:upd H7 t1 (.tup [.str "push",.int w]) t1=_:=uS;generalize upd H7 t1 (.tup [.str "push",.int w])=H8 at u1 g1 n2 nl ⊢;have u2:=sN n2 (.tup [.str "toss"]);have g2:upd H8 t2 (.tup [.str "toss"]) t2=_:=uS;generalize upd H8 t2 (.tup [.str "toss"])=H9 at u2 g2 nl ⊢;have u3:=sN nl (.lst [.ref t1,.ref t2]);have g3:upd H9 l (.lst [.ref t1,.ref t2]) l=_:=uS;generalize upd H9 l (.lst [.ref t1,.ref t2])=Rl at u3 g3 ⊢;have U:aK H5 Rl:=((((s6.trans s7).trans u1).trans u2).trans u3);refine⟨L0,l,P7,[.ref t1,.ref t2],rfl,rfl,U.seq hS8,cG.of g3,(Nat.le_trans (m:=100) (by simp;omega) (by decide)),λL nL=>?_⟩;have u4:=sN nL (.lst (P7++[.ref t1,.ref t2]));have Ry:=(S5.trans U).free nL;have G4:aK H1 (upd Rl L (.lst (P7++[.ref t1,.ref t2]))):=S5.trans (U.trans u4)
 have vy:jK K (upd Rl L (.lst (P7++[.ref t1,.ref t2]))) L (P7++[.ref t1,.ref t2]) (rs++[.push w,.bare "toss"]):=by
  have V4:=U.trans u4;refine⟨uS,?_⟩;rw[aa6];refine cu.append (YL.same V4) (.cons ?_ (.cons ?_ .nil))
  ·exact .iQ (((u2.trans u3).trans u4).tup (bz.of g1)) (.cons (.str _) (.cons (.int _) .nil))
  ·exact .iQ ((u3.trans u4).tup (bz.of g2)) (.cons (.str _) .nil)
 have vz:sR zs ps.length p.boxes (rs++[.push w,.bare "toss"]):=by
  refine⟨by simp;omega,by simp,λr hr=>?_,rs++[.push w],"toss",by simp,.inl rfl⟩;rcases List.mem_append.mp hr with h | h
  ·exact hrs r h
  ·rcases aap.mp h with rfl | h
   ·exact jl w0 w1
   ·rw[jr h];exact fq (by decide +kernel)
 generalize P7++[.ref t1,.ref t2]=ys at vy G4;generalize rs++[.push w,.bare "toss"]=yQ at vy vz;generalize upd Rl L (.lst ys)=X3 at vy G4 ⊢;clear n1 n2 nl u1 g1 u2 g2 u3 g3 u4 U nL;refine kk _ _ ?_;clear kk R;refine aS (λR kk=>?_);dsimp only[List.set_cons_zero,List.set_cons_succ]
 have nxt:∀P8 ys yQ,aK H1 P8->jK K P8 L ys yQ->sR zs ps.length p.boxes yQ->R [some v0,some vm,a2,some (.ref P1),some (.int (j:Int)),a5,some v6,some (.ref L),a8] P8:=by
  clear vy vz G4 X3 ys yQ;intro P8 ys yQ G4 vy vz;refine kk _ _ ?_;clear kk R;refine aS (λR kk=>?_);have K2:P8 P1=some (.lst ysP):=G4 _ _ hP;refine⟨_,rfl,_,rfl,P1,_,_,_,rfl,rfl,cG.of K2,aN hyj,?_⟩;obtain⟨T0,ws,rfl,Vb,Yv,hws⟩:=aJ.bq ryj;obtain⟨w0,w1,w2,w3,w4,w5,rfl⟩:=Ti hws.1;refine⟨_,rfl,T0,_,rfl,G4.tup Vb,λp4 H13 TZ YM=>⟨_,rfl,Mt,λe ne=>⟨zo,λt4 n4=>⟨p4,t4,_,_,rfl,rfl,((sN ne _).trans (sN n4 _)).tup YM,bz.of uS,(by show 4 + 2<=sizeLine;decide),λT P9 Ve hT=>⟨_,rfl,_,rfl,P1,ysP,j,j,rfl,rfl,?_,?_,?_⟩⟩⟩⟩⟩
  ·exact Ve _ _ (sN n4 _ _ _ (sN ne _ _ _ (TZ _ _ K2)))
  ·have:=(bX hyj).1;unfold xR;rw[if_pos (by omega),if_pos (by omega),Int.toNat_natCast]
  have u5:=sN ne (.lst []);have u6:=sN n4 (.tup [.ref L,.ref e]);have ge:P9 e=some (.lst []):=Ve _ _ (u6 _ _ uS);have Ua:aK P8 P9:=((TZ.trans u5).trans u6).trans Ve;have gP:P9 P1=some (.lst ysP):=Ua _ _ K2;have e1:H1 e=none:=(G4.trans TZ).free ne;have eP:e≠P1:=λz=>by rw[z,hP]at e1;cases e1
  have LP:L≠P1:=λz=>by rw[z,hP]at Ry;cases Ry
  have eL:e≠L:=λz=>by rw[z,TZ _ _ vy.at']at ne;cases ne
  have hPF:Fb G al [.live (ps.map eF)] P1:=.inr ⟨0,_,_,hal,aaS.mpr rfl,rfl,rfl⟩;have hKP:∀c o,c≠P1->H1 c=some o->upd P9 P1 (.lst (ysP.set j (.ref T))) c=some o:=λc o n q=>by rw[uN n];exact Ua _ _ (G4 _ _ q)
  have kT:=jm gP (ysP.set j (.ref T))
  have hB:jL K (cutH (Fb G al [.live (ps.map eF)]) H1) (upd P9 P1 (.lst (ysP.set j (.ref T)))) L T e [w0,w1,w2,w3] ys yQ:=⟨λc o q=>by
   obtain⟨q1,q2⟩:=bG.mp q;exact hKP c o (λz=>q1 (by rw[z];exact hPF)) q2,bz.move kT hT,by rw[uN eP];exact ge,⟨by rw[uN LP];exact Ua _ _ vy.at',oB kT (vy.it.same Ua)⟩⟩
  have hPg:upd P9 P1 (.lst (ysP.set j (.ref T))) P1=_:=uS;generalize upd P9 P1 (.lst (ysP.set j (.ref T)))=H15 at hKP hB hPg ⊢;have YN:aP K (cutH (Fb G al [.live (ps.map eF)]) H1) [w0,w1,w2,w3] [.list (aA p.takes),.tuple (cH p.gives),.int (p.boxes:Int),.int (p.height:Int)]:=cu.take (xs:=[PyData.list (aA p.takes),.tuple (cH p.gives),.int (p.boxes:Int),.int (p.height:Int),.list (p.rows.map ki),.list (p.spans.map Tn)]) hws 4;have rPB:aP K (cutH (Fb G al [.live (ps.map eF)]) H1) ysP (ps.map eF):=hyP;clear u5 u6 ge Ua gP kT hT Ve n4 ne YM TZ vy G4 K2 t4 p4;refine kk _ _ ?_;clear kk R;refine aS (λR kk=>?_);refine⟨_,rfl,gp cY (.cons (aO.same hB.keep r0) (.cons (.int _) .nil)) ⟨ns,5,rfl,by decide,λc5 v9 WC Vf r9=>?_⟩⟩;cases r9
  replace hB:=hB.same Vf
  replace hKP:∀c o,c≠P1->H1 c=some o->WC c=some o:=λc o n q=>Vf _ _ (hKP c o n q)
  replace hPg:=Vf _ _ hPg
  clear Vf;refine kk _ _ ?_;clear kk R;refine aS (λR kk=>?_);dsimp only[List.set_cons_zero,List.set_cons_succ]
  have nxt:∀G5 ys yQ a8,(∀c o,c≠P1->H1 c=some o->G5 c=some o)->G5 P1=some (.lst (ysP.set j (.ref T)))->jL K (cutH (Fb G al [.live (ps.map eF)]) H1) G5 L T e [w0,w1,w2,w3] ys yQ->sR zs ps.length p.boxes yQ->R [some v0,some vm,some (.int c5),some (.ref P1),some (.int (j:Int)),a5,some v6,some (.ref L),a8] G5:=by
   clear hB hKP hPg vz WC ys yQ;intro G5 ys yQ a8 hKP hPg hB vz;refine kk _ _ ?_;clear kk R;refine⟨_,rfl,_,rfl,zo,λt1 n1=>⟨_,rfl,zo,λt2 n2=>?_⟩⟩;have u1:=sN n1 (.tup [vm,.ref P1]);have g1:upd G5 t1 (.tup [vm,.ref P1]) t1=_:=uS;generalize upd G5 t1 (.tup [vm,.ref P1])=Vg at u1 g1 n2 ⊢;have u2:=sN n2 (.tup [.ref t1,.int (j:Int)]);have g2:upd Vg t2 (.tup [.ref t1,.int (j:Int)]) t2=_:=uS;generalize upd Vg t2 (.tup [.ref t1,.int (j:Int)])=Ub at u2 g2 ⊢;have U:=u1.trans u2;have jlt:=(bX hpj).1;refine GX I k.rt hal hP hyP rm (λc o n z=>U _ _ (hKP c o n z)) (U _ _ hPg) (hB.same U) Ry e1 YN (u2 _ _ g1) g2 ?_;refine q ms zs (ps.set j (p.wr yQ)) j (p.wr yQ) g (by rw[aaz];exact lps) (aao jlt) (λp' hp'=>?_) rfl (λr hr=>?_)
   ·rw[aaz];rcases aaU hp' with h | rfl
    ·exact hall p' h
    ·exact vz.pt hpt
   ·rw[aaz];exact vz.2.2.1 r hr
  clear kk;refine⟨_,rfl,_,_,rfl,rfl,(by show(0:Int) < 2;decide),rfl,_,rfl,aW (λ_=>?_) (λ_=>nxt _ _ _ _ hKP hPg hB vz)⟩;refine⟨_,rfl,_,rfl,zo,λt5 n5=>⟨_,rfl,_,rfl,gp aY (.cons (.int _) (.cons (.int _) .nil)) ⟨c5,3,rfl,by decide,by decide,λv _ _ v9 G5 YO r9=>⟨Mt,λt6 n6=>?_⟩⟩⟩⟩;cases r9;have u5:=sN n5 (.tup [vm,.ref P1]);have u6:=sN n6 (.tup []);have gt5:upd WC t5 (.tup [vm,.ref P1]) t5=_:=uS;have Vh:=(u5.trans YO).trans u6;have YQ:upd G5 t6 (.tup []) t6=_:=uS;have YR:bz K (upd G5 t6 (.tup [])) t5 [vm,.ref P1]:=(YO.trans u6).tup (bz.of gt5);generalize upd G5 t6 (.tup [])=Vg at Vh YQ YR ⊢;have Qa:=hB.same Vh;have Uc:=Vh _ _ hPg;have Ud:=Qa.items YN rPB j;have WD:aO K Vg vm (eE ms):=aO.same Qa.keep rm;have jlt:=(bX hpj).1;refine gp qN (.cons (.iQ YR (.cons WD (.cons (.lst (cG.of Uc) Ud.1 Ud.2) .nil))) (.cons (.int _) (.cons (.int _) (.cons (.int _) (.cons (.iQ (bz.of YQ) .nil) .nil))))) ⟨ms,zs,ps.set j (p.wr yQ),j,p.wr yQ,v,rfl,g,aao jlt,λp' hp'=>?_,λr hr v8 Ub WE YS=>?_⟩
  ·rcases aaU hp' with h | rfl
   ·exact(hall p' h).bx
   ·exact hpt.bx
  rw[aaz]at hr;have WG:=Qa.same WE;have WH:=WE _ _ Uc;have WI:∀c o,c≠P1->H1 c=some o->Ub c=some o:=λc o n z=>WE _ _ (Vh _ _ (hKP c o n z))
  obtain⟨q8,us8,rfl,UW,hU8⟩:=aO.bq (show aO K Ub v8 (.tuple (.str (cj r)::(wz r).map PyData.int))from YS);obtain⟨u0,hu0,ru0⟩:=aP.at hU8 (i:=0) (d:=.str (cj r)) rfl;cases ru0;refine⟨_,rfl,q8,us8,0,.str (cj r),rfl,rfl,UW,aN (j:=0) hu0,Rj,λq9 n9=>⟨q9,km.map V.str,rfl,.inr (bz.of uS),rfl,by decide +kernel,?_⟩⟩;have u9:=sN n9 (.tup (km.map V.str));show UP (.bl (!Bm (.str (cj r)) (km.map V.str))) (upd Ub q9 (.tup (km.map V.str))) _;rw[k9];generalize upd Ub q9 (.tup (km.map V.str))=H20 at u9 ⊢;have Ue:=WG.same u9;have Ug:=u9 _ _ WH;have Uh:∀c o,c≠P1->H1 c=some o->H20 c=some o:=λc o n z=>u9 _ _ (WI c o n z)
  refine⟨_,rfl,rz (λhgo=>?_) (λ_=>nxt _ _ _ _ Uh Ug Ue vz)⟩;have hfr:dD zs ps.length p.boxes r:=hr.resolve_right hgo;refine⟨_,rfl,_,rfl,_,rfl,gp aY (.cons (.int _) (.cons (.int _) .nil)) ⟨c5,4,rfl,by decide,by decide,λv4 _ _ v9 H21 Vi r9=>?_⟩⟩;cases r9;have K3:=Ue.same Vi;have WJ:=Vi _ _ Ug;have hl:ys.length=yQ.length:=by rw[K3.ro.it.1,aac]
  have h2:=vz.2.1
  have nL:cutH (Fb G al [.live (ps.map eF)]) H1 L=none:=by
   cases q:cutH (Fb G al [.live (ps.map eF)]) H1 L with
   | none=>rfl
   | some o=>have:=(bG.mp q).2;rw[Ry]at this;cases this
  obtain⟨m,em,hm⟩:=gZ v4 (m:=(ys.length:Int) - 1) (n:=ys.length - 1) (by omega) (by omega);refine⟨_,rfl,L,ys,rfl,.inl (cG.of K3.ro.at'),_,_,rfl,rfl,_,_,rfl,rfl,(by show(0:Int) < (ys.length:Int) - 1;omega),L,ys,v4 % ((ys.length:Int) - 1),m,rfl,rfl,K3.ro.at',?_,?_⟩
  ·rw[em];unfold xR;rw[if_pos (by omega),if_pos (by omega),Int.toNat_natCast]
  have r21:aO K H21 (.ref q8) (ki r):=(YS.same u9).same Vi;exact nxt _ _ _ _ (λc o n z=>by rw[uN (nN z Ry)];exact Vi _ _ (Uh c o n z)) (by rw[uN LP.symm];exact WJ) (K3.put nL eL r21 m) (vz.put hfr (by omega))
 clear kk;refine⟨_,rfl,gp cY (.cons ((aJ.now r0).same G4) (.cons (.int _) .nil)) ⟨ns,6,rfl,by decide,λc6 v9 P8 YT r9=>?_⟩⟩;cases r9;have Ui:=vy.same YT;have YU:=G4.trans YT;refine⟨_,_,rfl,rfl,(by show(0:Int) < 3;decide),_,_,rfl,rfl,_,rfl,aW (λ_=>?_) (λ_=>nxt _ _ _ YU Ui vz)⟩;refine⟨xJ,λt3 n3=>⟨_,rfl,1,rfl,L,ys,-1,ys.length - 1,rfl,rfl,?_,KW ?_,?_⟩⟩
 ·exact sN n3 _ _ _ Ui.at'
 ·have:=Ui.it.1;rw[aac]at this;have:=vz.2.1;omega
 ·have hl:ys.length=yQ.length:=by rw[Ui.it.1,aac]
  have u3:=sN n3 (.tup [.str "give"]);refine nxt _ _ _ (yJ (YU.trans u3) Ry) ((Ui.same u3).put (r:=.bare "give") (.iQ (bz.of uS) (.cons (.str _) .nil)) _) ?_;rw[hl];exact vz.last
theorem uo:aH ["_law_found"] ["_law_found"] (dS kZ):=by walk_at "sc"
theorem uq{f:Addr}{fd:FuncData}(F:fe K "_law_whole" "_law_whole" kZ f fd)(z_bool:mg "bool"=none)(z_int:mg "int"=none)(z_isinstance:mg "isinstance"=none)(oQ:IsT K "bool" (BU "bool"))(sZ:IsT K "int" Kh):bK P w K mg base bP 1 f fd ["_law_found"] (jY K):=by
 refine F.ok uo (λvs H Q E h=>?_) (λcdv A outer s H vs Q E hr h=>?_)
 ·obtain⟨PP,ds,hP,hv,x,rfl,q⟩:=h;exact hv.1
 obtain⟨PP,ds,hP,hv,x,rfl,q⟩:=h;refine bc hP hv ?_;show kN _ _ _ _ [some _] [];clear hP hv;refine bF (az (BK (Ga sZ rfl z_isinstance rfl z_int EF (ae 0)) (FI (J3 (Ga oQ rfl z_isinstance rfl z_bool Js (ae 0)))))) ?_;walk_at "vc";rw[show(!("int" == "bool"))=true by decide];exact Yy (by decide) q
theorem i5:aH ["book","part","papers","least","paper","at"] ["book","part","papers"] (dS jI):=by walk_at "sc"
theorem ur{f:Addr}{fd:FuncData}(F:fe K "check_form" "check_form" jI f fd):bK P w K mg base bP 1 f fd ["book","part","papers"] (i3 K):=by
 refine F.ok i5 (λvs H Q E h=>?_) (λcdv A outer s H vs Q E hr h=>?_)
 ·obtain⟨PP,ds,hP,hv,b,j,rfl,q⟩:=h;exact hv.1
 obtain⟨PP,ds,hP,hv,b,j,rfl,q⟩:=h;refine bc hP hv ?_;show kN _ _ _ _ [some _,some _,some _,none,none,none] [];clear hP hv;refine aj (aL (i:=3) i5.nd rfl (aad rfl) aq) (λR kk=>?_);walk_at "vc";refine kk _ _ ?_;clear kk R;refine bF (iS aaI rfl (pG (ae 2)) (bN (i:=4) i5.nd rfl (aad rfl)) (b6 ji
   (b6 ji
   (ax ji)))) ?_
 walk_at "vc";refine fz (λi' env st=>st=[]) rfl (λ_ _ _ _=>trivial) (λi' env st d hd=>nomatch hd) ?_;rintro env st rfl;exact q
theorem tm:aH ["book","part","takes","others"] ["book","part"] (dS wq):=by walk_at "sc"
theorem G6{f:Addr}{fd:FuncData}(F:fe K "entry" "entry" wq f fd)(z_len:mg "len"=none)(z_tuple:mg "tuple"=none):bK P w K mg base bP 1 f fd ["book","part"] (sU K):=by
 refine F.ok tm (λvs H Q E h=>?_) (λcdv A outer s H vs Q E hr h=>?_)
 ·obtain⟨b,ms,ps,j,p,rfl,hB,hp,h8,htb,q⟩:=h;rfl
 obtain⟨b,ms,ps,j,p,rfl,hB,hp,h8,htb,q⟩:=h;refine⟨_,(qK (bf (i:=2) tm.nd rfl (aad rfl) (aG aE (aG cc (aG aE (pv 0) pI (λ_ _=>rfl)) (pv 1) (λ_ _=>rfl)) pI (λ_ _=>rfl)))
   (qK (bf (i:=3) tm.nd rfl (aad rfl) (df pf (aG aE (aG cc (aG aE (pv 0) pI (λ_ _=>rfl)) (pv 1) (λ_ _=>rfl)) pI (λ_ _=>rfl)) (cn bM rfl z_len gK (pK (pv 2) pN))))
   (qO (aQ (bh (pK (df mm (i8 mM rfl z_tuple xT (pK (pv 2) pN)) (df rl (bh (pK (bh (pK ba pN)) pN)) (pv 3))) (pK (bh pN) pN))))))),?_⟩
 obtain⟨b',mk,pl,xs,e,hT,hM,hL,hP⟩:=sG hB;cases e;obtain⟨v,hv,hvr⟩:=mw hP hp;obtain⟨t,l0,l4,l5,ks,IK,Gr,f1,rfl,hTt,IL,hk,rg,KJ,KL,Nb,IF⟩:=pS hvr;have lk:=hk.1;rw[aac]at lk;refine⟨_,rfl,b,_,_,_,rfl,rfl,hT,aN (j:=1) rfl,_,rfl,pl,_,_,_,rfl,rfl,hL,aN hv,t,_,_,_,rfl,rfl,hTt,aN (j:=0) rfl,?_⟩;refine⟨_,rfl,b,_,_,_,rfl,rfl,hT,aN (j:=1) rfl,_,rfl,pl,_,_,_,rfl,rfl,hL,aN hv,t,_,_,_,rfl,rfl,hTt,aN (j:=2) rfl,_,rfl,l0,ks,rfl,.inl IL,_,_,rfl,rfl,?_⟩;refine⟨_,rfl,l0,ks,rfl,.inl ⟨IL,λa1 n1=>?_⟩⟩;have u1:=sN n1 (.tup ks);refine⟨xJ,λa2 n2=>⟨xJ,λa3 n3=>?_⟩⟩;have u2:=sN n2 (.tup [.str "any"]);have u3:=sN n3 (.tup [.ref a2]);have hn:((p.boxes:Int) - ((ks.length:Nat):Int)).toNat=p.boxes - p.takes.length:=by omega
 refine⟨_,rfl,a3,_,_,rfl,rfl,bz.of uS,(by simp),by omega,by omega,?_,λa4 H4 s4 h4=>?_⟩
 ·rw[hn];exact Nat.le_of_lt (sK (by simp;omega))
 rw[hn]at h4;have g1:=s4 _ _ (u3 _ _ (u2 _ _ (uS (H:=H) (a:=a1) (o:=.tup ks))));have g2:=s4 _ _ (u3 _ _ (uS (a:=a2) (o:=.tup [.str "any"])));have S4:=u1.trans (u2.trans (u3.trans s4))
 have e4:(List.replicate (p.boxes - p.takes.length) [V.ref a2]).flatten=List.replicate (p.boxes - p.takes.length) (V.ref a2):=by
  generalize p.boxes - p.takes.length=n
  induction n with
  | zero=>rfl
  | succ n ih=>rw[aaB,aaQ,ih,aaB];rfl
 rw[e4]at h4;refine⟨a1,a4,ks,_,rfl,rfl,bz.of g1,h4,Nat.le_of_lt (sK (by simp;omega)),λa5 H5 s5 h5=>?_⟩;refine⟨Mt,λa6 n6=>⟨zo,λa7 n7=>?_⟩⟩;have u6:=sN n6 (.tup []);have u7:=sN n7 (.tup [.ref a5,.ref a6]);have S7:=s5.trans (u6.trans u7);refine q a7 _ (S4.trans S7) ?_;refine .iQ (bz.of uS) (.cons (.iQ ((u6.trans u7).tup h5) ?_) (.cons (.iQ (bz.of (u7 _ _ uS)) .nil) .nil));unfold cf;rw[show aA (p.takes++List.replicate (p.boxes - p.takes.length) Kd.any)=aA p.takes++List.replicate (p.boxes - p.takes.length) (.tuple (cH .any))by simp[aA]];exact aP.append (hk.same (S4.trans S7)) (Gs (vg (k:=.any) (bz.of (S7 _ _ g2))) _)
theorem j4:aH ["makes","c","elders"] ["makes","c"] (dS k4):=by walk_at "sc"
theorem xl{f:Addr}{fd:FuncData}(F:fe K "elders_of" "elders_of" k4 f fd):bK P w K mg base bP 1 f fd ["makes","c"] (gz K):=by
 refine F.ok j4 (λvs H Q E h=>?_) (λcdv A outer s H vs Q E hr h=>?_)
 ·obtain⟨a,ms,c,rfl,hM,hw,hc,q⟩:=h;rfl
 obtain⟨a,ms,c,rfl,hM,hw,hc,q⟩:=h;refine⟨_,(qK (bf (i:=2) j4.nd rfl (aad rfl) (fg pN))
   (qK (xO aaI (tR mi (pv 1) kq (aZ _)) (qK (vD (Bo abJ abF abG ml (pv 2) (pK (pv 1) pN)))
   (qO (bf (i:=1) j4.nd rfl (aad rfl) (aG aE (aG cc (pv 0) (pv 1) (λ_ _=>rfl)) pI (λ_ _=>rfl))))))
   (qO (aQ (pv 2))))),?_⟩
 refine⟨Mt,λr hr'=>?_⟩;refine Er (λσ H2=>∃(cur:Option Nat) (pre:List Nat),σ=[some (.ref a),some (U8 cur),some (.ref r)]/\aK H H2/\H2 r=some (.lst (kh pre))/\(∀j,cur=some j->j < ms.length)/\pre++rest ms cur=bD ms c)
  (λ(σ:St) (_:Hp)=>match σ[1]? with | some (some (V.int j))=>j.toNat + 1 | _=>0) ⟨some c,[],rfl,λb o e=>by rw[uN (nN e hr')];exact e,uS,λj hj=>by cases hj;exact hc,rfl⟩ ?_ ?_
 ·rintro σ H2 ⟨cur,pre,rfl,sm,Rz,hj,he⟩
  cases cur with
  | none =>
   refine⟨_,rfl,rfl,_,rfl,eQ ?_⟩;have e':pre=bD ms c:=by rw[← he];simp[rest]
   rw[e']at Rz;exact⟨_,rfl,q r H2 sm hr' Rz⟩
  | some j =>
   refine⟨_,rfl,rfl,_,rfl,fh ?_⟩;have hjl:=hj j rfl
   have hlen:(kh pre).length < sizeLine:=by
    have h1:=(mv hw c hc).1;have h2:(pre++rest ms (some j)).length=(bD ms c).length:=by rw[he]
    have h3:=hw.few;rw[aaC]at h2;rw[aac];exact sK (by omega)
   refine⟨_,rfl,.inl ⟨rfl,_,cG.of Rz⟩,_,rfl,r,_,_,rfl,rfl,Rz,hlen,?_⟩;have Qb:aK H (upd H2 r (.lst (kh pre++[.int (j:Int)]))):=λb o e=>by rw[uN (nN e hr')];exact sm b o e
   obtain⟨xs,hS,hI⟩:=hM.same Qb;obtain⟨m,hm,hel,hlt⟩:=hw.el hjl;have hxl:j < xs.length:=by rw[hI.1];exact hjl
   obtain⟨t,l,ks,hx,ht,_⟩:=hI.2 j _ m (cW hxl) hm;refine⟨_,rfl,_,rfl,a,xs,_,_,rfl,rfl,hS,aN (cW hxl),t,_,_,_,hx,rfl,ht,aN (j:=0) rfl,?_⟩;refine⟨⟨m.1,pre++[j],rfl,Qb,?_,λi hi=>?_,?_⟩,?_⟩
   ·rw[uS];show _=some (HO.lst (List.map _ (pre++[j])));rw[aa6];rfl
   ·have:=hlt i hi;omega
   ·rw[← he];show(pre++[j])++rest ms m.1=pre++bD ms j;rw[eI hw hjl,hel];simp
   ·show(match (some (some (U8 m.1)):Option (Option V))with | some (some (V.int j))=>j.toNat + 1 | _=>0) < ((j:Int).toNat + 1)
    cases e:m.1 with
    | none=>show 0 < _;omega
    | some i =>
     have:=hlt i e;show(i:Int).toNat + 1 < _;omega
 ·rintro σ H2 Q1 Q2 f ⟨v,e1,e2,k,e3,q1⟩;exact⟨v,e1,e2,k,e3,f _ _ q1⟩
theorem yR:aH ["makes","c","other"] ["makes","c","other"] (dS nj):=by walk_at "sc"
theorem yS{f:Addr}{fd:FuncData}(F:fe K "is_under" "is_under" nj f fd)(lN:dw P w K mg base bP "elders_of" 1 ["makes","c"] (gz K)):bK P w K mg base bP 2 f fd ["makes","c","other"] (lI K):=by
 refine F.ok yR (λvs H Q E h=>?_) (λcdv A outer s H vs Q E hr h=>?_)
 ·obtain⟨a,ms,c,o,rfl,hM,hw,hc,q⟩:=h;rfl
 obtain⟨a,ms,c,o,rfl,hM,hw,hc,q⟩:=h;refine⟨_,(qO (aQ (rf gB (pv 2) (bY lN (hr.mono (by decide)) rfl (pK (pv 0) (pK (pv 1) pN))) rfl))),?_⟩;refine⟨_,rfl,_,rfl,_,rfl,a,ms,c,rfl,hM,hw,hc,λr H2 sm _ Rz=>?_⟩;refine⟨r,_,rfl,.inl (cG.of Rz),rfl,vf _,?_⟩;show Q (.bl (Bm (.int (o:Int)) (kh (bD ms c)))) H2;rw[yv];exact q H2 sm
theorem Ah:aH ["makes","kind","other"] ["makes","kind","other"] (dS pP):=by walk_at "sc"
theorem Ai{f:Addr}{fd:FuncData}(F:fe K "beneath" "beneath" pP f fd)(Aj:dw P w K mg base bP "is_under" 2 ["makes","c","other"] (lI K)):bK P w K mg base bP 3 f fd ["makes","kind","other"] (ny K):=by
 refine F.ok Ah (λvs H Q E h=>?_) (λcdv A outer s H vs Q E hr h=>?_)
 ·obtain⟨a,ms,t,u,k,o,rfl,hM,hw,ht,hu,hc,q⟩:=h;rfl
 obtain⟨a,ms,t,u,k,o,rfl,hM,hw,ht,hu,hc,q⟩:=h;refine⟨_,(qK (bS (tR dh (aG aE (pv 2) pI (λ_ _=>rfl)) ba (aZ _)) (qO (aQ xN)) aT)
   (qK (bS (tR Ey (aG aE (pv 1) pI (λ_ _=>rfl)) (aG aE (pv 2) pI (λ_ _=>rfl)) (aZ _)) (qO (aQ xN)) aT)
   (qK (bS (tR dh (aG aE (pv 1) pI (λ_ _=>rfl)) ba (aZ _)) (qO (aQ (bY Aj (hr.mono (by decide)) rfl (pK (pv 0) (pK (aG aE (pv 1) pI (λ_ _=>rfl)) (pK (aG aE (pv 2) pI (λ_ _=>rfl)) pN)))))) aT)
   (qK (bS (tR dh (aG aE (pv 1) pI (λ_ _=>rfl)) ba (aZ _)) (qO (aQ (Ek (rf dh (aG aE (pv 1) pI (λ_ _=>rfl)) (aG aE (pv 2) pI (λ_ _=>rfl)) (aZ _)) (Ej (rf dh (df Es (aG aE (pv 1) pI (λ_ _=>rfl)) (aG aE (pv 2) pI (λ_ _=>rfl))) (aG aE (pv 2) pI (λ_ _=>rfl)) (aZ _)))))) aT)
   (qO (aQ xN)))))),?_⟩
 have q0:=q H (aK.refl _);have i0:∀k:Kd,∃s,kA (M9 k) 0=some (.str s)/\s=(match k with | .any=>"any" | .num=>"number" | .whole _=>"whole" | .raw _ _=>"raw" : Str):=λk=>by cases k<;>exact⟨_,aN (j:=0) rfl,rfl⟩
 cases o with
 | any =>
  refine⟨_,rfl,u,_,_,_,rfl,rfl,hu,aN (j:=0) rfl,rfl,_,rfl,Ju rfl ?_⟩;cases k<;>exact q0
 | num =>
  refine⟨_,rfl,u,_,_,_,rfl,rfl,hu,aN (j:=0) rfl,rfl,_,rfl,zJ Z9 ?_⟩
  cases k with
  | any=>exact⟨_,rfl,t,_,_,_,rfl,rfl,ht,aN (j:=0) rfl,_,rfl,u,_,_,_,rfl,rfl,hu,aN (j:=0) rfl,rfl,_,rfl,tU nAN q0⟩
  | num =>
   refine⟨_,rfl,t,_,_,_,rfl,rfl,ht,aN (j:=0) rfl,_,rfl,u,_,_,_,rfl,rfl,hu,aN (j:=0) rfl,rfl,_,rfl,Jv rfl ?_⟩;refine⟨_,rfl,t,_,_,_,rfl,rfl,ht,aN (j:=0) rfl,rfl,_,rfl,zJ Yr ?_⟩;exact⟨_,rfl,t,_,_,_,rfl,rfl,ht,aN (j:=0) rfl,rfl,_,rfl,zJ Ys q0⟩
  | whole c=>exact⟨_,rfl,t,_,_,_,rfl,rfl,ht,aN (j:=0) rfl,_,rfl,u,_,_,_,rfl,rfl,hu,aN (j:=0) rfl,rfl,_,rfl,tU nWN q0⟩
  | raw c m=>exact⟨_,rfl,t,_,_,_,rfl,rfl,ht,aN (j:=0) rfl,_,rfl,u,_,_,_,rfl,rfl,hu,aN (j:=0) rfl,rfl,_,rfl,tU nRN q0⟩
 | whole d =>
  refine⟨_,rfl,u,_,_,_,rfl,rfl,hu,aN (j:=0) rfl,rfl,_,rfl,zJ Z7 ?_⟩
  cases k with
  | any=>exact⟨_,rfl,t,_,_,_,rfl,rfl,ht,aN (j:=0) rfl,_,rfl,u,_,_,_,rfl,rfl,hu,aN (j:=0) rfl,rfl,_,rfl,tU nAW q0⟩
  | num=>exact⟨_,rfl,t,_,_,_,rfl,rfl,ht,aN (j:=0) rfl,_,rfl,u,_,_,_,rfl,rfl,hu,aN (j:=0) rfl,rfl,_,rfl,tU Yr q0⟩
  | whole c =>
   refine⟨_,rfl,t,_,_,_,rfl,rfl,ht,aN (j:=0) rfl,_,rfl,u,_,_,_,rfl,rfl,hu,aN (j:=0) rfl,rfl,_,rfl,Jv rfl ?_⟩;refine⟨_,rfl,t,_,_,_,rfl,rfl,ht,aN (j:=0) rfl,rfl,_,rfl,Ju rfl ?_⟩;exact⟨_,rfl,_,rfl,t,_,_,_,rfl,rfl,ht,aN (j:=1) rfl,_,rfl,u,_,_,_,rfl,rfl,hu,aN (j:=1) rfl,a,ms,c,d,rfl,hM,hw,hc c rfl,q⟩
  | raw c m=>exact⟨_,rfl,t,_,_,_,rfl,rfl,ht,aN (j:=0) rfl,_,rfl,u,_,_,_,rfl,rfl,hu,aN (j:=0) rfl,rfl,_,rfl,tU Yt q0⟩
 | raw d n =>
  refine⟨_,rfl,u,_,_,_,rfl,rfl,hu,aN (j:=0) rfl,rfl,_,rfl,zJ Z8 ?_⟩
  cases k with
  | any=>exact⟨_,rfl,t,_,_,_,rfl,rfl,ht,aN (j:=0) rfl,_,rfl,u,_,_,_,rfl,rfl,hu,aN (j:=0) rfl,rfl,_,rfl,tU nAR q0⟩
  | num=>exact⟨_,rfl,t,_,_,_,rfl,rfl,ht,aN (j:=0) rfl,_,rfl,u,_,_,_,rfl,rfl,hu,aN (j:=0) rfl,rfl,_,rfl,tU Ys q0⟩
  | whole c=>exact⟨_,rfl,t,_,_,_,rfl,rfl,ht,aN (j:=0) rfl,_,rfl,u,_,_,_,rfl,rfl,hu,aN (j:=0) rfl,rfl,_,rfl,tU nWR q0⟩
  | raw c m =>
   refine⟨_,rfl,t,_,_,_,rfl,rfl,ht,aN (j:=0) rfl,_,rfl,u,_,_,_,rfl,rfl,hu,aN (j:=0) rfl,rfl,_,rfl,Jv rfl ?_⟩;refine⟨_,rfl,t,_,_,_,rfl,rfl,ht,aN (j:=0) rfl,rfl,_,rfl,zJ Yt ?_⟩;refine⟨_,rfl,t,_,_,_,rfl,rfl,ht,aN (j:=0) rfl,rfl,_,rfl,Ju rfl ?_⟩;refine⟨_,rfl,t,_,_,_,rfl,rfl,ht,aN (j:=1) rfl,_,rfl,u,_,_,_,rfl,rfl,hu,aN (j:=1) rfl,rfl,_,rfl,?_⟩;have qq:Q (.bl (decide (c=d)&&decide (m&&&n=n))) H:=q0;rw[B2];by_cases e:c=d
   ·rw[decide_eq_true e]at qq ⊢;refine fh ⟨_,rfl,t,_,_,_,rfl,rfl,ht,aN (j:=2) rfl,_,rfl,u,_,_,_,rfl,rfl,hu,aN (j:=2) rfl,_,_,rfl,rfl,_,rfl,u,_,_,_,rfl,rfl,hu,aN (j:=2) rfl,rfl,?_⟩;show Q (.bl (decide (V.int (Builtin.bitAnd (m:Int) (n:Int))=V.int (n:Int)))) H;rw[sF,B2];simpa using qq
   ·rw[aaw e]at qq ⊢;exact eQ qq
theorem tq:aH ["makes","some","others"] ["makes","some","others"] (dS iV):=by walk_at "sc"
theorem tw{f:Addr}{fd:FuncData}(F:fe K "all_beneath" "all_beneath" iV f fd)(z_all:mg "all"=none)(z_len:mg "len"=none)(oO:mg "zip"=none)(Dv:dw P w K mg base bP "beneath" 3 ["makes","kind","other"] (ny K)):bK P w K mg base bP 4 f fd ["makes","some","others"] (hU K):=by
 refine F.ok tq (λvs H Q E h=>?_) (λcdv A outer s H vs Q E hr h=>?_)
 ·obtain⟨a,ms,t,u,xs,ys,ks,js,rfl,hM,hw,hx,hX,hy,hY,hk,Qc,q⟩:=h;rfl
 obtain⟨a,ms,t,u,xs,ys,ks,js,rfl,hM,hw,hx,hX,hy,hY,hk,Qc,q⟩:=h;refine⟨_,(qK (bS (tR Ey (cn bM rfl z_len gK (pK (pv 1) pN)) (cn bM rfl z_len gK (pK (pv 2) pN)) (aZ _)) (qO (aQ xN)) aT)
   (qO (aQ (cn (EM rfl) rfl z_all Ov (pK (EK 2 ["kind","other","makes"] [0] ⟨rfl,rfl,rfl,rfl,rfl,rfl,rfl,rfl⟩ (OC false true rfl oO (pK (pv 1) (pK (pv 2) pN))) (λ_ _ _ _=>⟨(show PG _ _ (Jf K 2 _)from (zt rfl (ky (cL (i:=0) (show List.Nodup (["kind","other","makes"]:List Str)by decide +kernel) rfl (aad rfl)) (ky (cL (i:=1) (show List.Nodup (["kind","other","makes"]:List Str)by decide +kernel) rfl (aad rfl)) vE)))),Bp,(bY Dv (hr.mono (by decide)) rfl (pK (pv 2) (pK (pv 0) (pK (pv 1) pN))))⟩)) pN))))),?_⟩
 have lx:=hX.1;have ly:=hY.1;refine⟨_,rfl,t,xs,rfl,.inr hx,_,rfl,u,ys,rfl,.inl hy,rfl,_,rfl,?_⟩;by_cases hl:ks.length=js.length
 ·refine Jv (by rw[lx,ly,hl]) ?_;refine⟨_,rfl,_,rfl,t,u,xs,ys,rfl,hx,hy,λD hD=>?_⟩;refine OD ks.length (λi zs H2=>aK H H2/\H2 D=some (.lst zs)/\zs=((List.zipWith (below ms) ks js).take i).map V.bl) (abC (sK (by omega))) (by omega) (by omega) (by omega) ⟨sN hD _,uS,rfl⟩ ?_ ?_ ?_
  ·rintro i zs H2 hi ⟨s2,d2,rfl⟩;exact⟨d2,by rw[aac,aaG];omega,s2.tup hx,s2.seq hy⟩
  ·rintro i u' v' zs H2 T hu' hv' hi ⟨s2,d2,rfl⟩ hT;obtain⟨k,Rn,t1,rfl,hk2⟩:=fc.at hX hu';obtain⟨o,ho1,t2,rfl,D9⟩:=fc.at hY hv';have sT:=sN hT (.tup [.ref t1,.ref t2]);have sA:=s2.trans sT;refine⟨T,_,rfl,bz.of uS,rfl,_,_,rfl,_,_,rfl,rfl,rfl,?_⟩;refine⟨_,rfl,_,rfl,_,rfl,a,ms,t1,t2,k,o,rfl,hM.same sA,hw,sA.tup hk2,sA.tup D9,hk k (aaf Rn),λH6 s6=>?_⟩;refine⟨s6 _ _ (sT _ _ d2),λb ob e=>?_,uS,?_⟩
   ·rw[uN (nN e hD)];exact s6 b ob (sA b ob e)
   ·have hz:(List.zipWith (below ms) ks js)[i]?=some (below ms k o):=by rw[List.getElem?_zipWith,Rn,ho1]
    obtain⟨hlt,hz'⟩:=bX hz;rw[List.take_succ_eq_append_getElem hlt,aa6,hz'];rfl
  ·rintro zs H2 ⟨s2,d2,rfl⟩;have e:(List.zipWith (below ms) ks js).take ks.length=List.zipWith (below ms) ks js:=List.take_of_length_le (by rw[List.length_zipWith];omega);rw[e]at d2;refine⟨D,_,rfl,cG.of d2,?_⟩;have z:=q H2 s2;unfold bV at z;rw[decide_eq_true hl,Bool.true_and]at z;exact z
 ·refine tU (λz=>hl ?_) ?_
  ·have:=V.int.inj z;omega
  ·have z:=q H (aK.refl _);unfold bV at z;rw[decide_eq_false hl,Bool.false_and]at z;exact z
theorem gA:aH ["makes","c","fields","elder"] ["makes","c"] (dS k6):=by walk_at "sc"
theorem xm{f:Addr}{fd:FuncData}(F:fe K "fields_of" "fields_of" k6 f fd)(z_list:mg "list"=none)(lN:dw P w K mg base bP "elders_of" 1 ["makes","c"] (gz K)):bK P w K mg base bP 2 f fd ["makes","c"] (eW K):=by
 refine F.ok gA (λvs H Q E h=>?_) (λcdv A outer s H vs Q E hr h=>?_)
 ·obtain⟨a,ms,c,rfl,hM,hw,hf,hc,q⟩:=h;rfl
 obtain⟨a,ms,c,rfl,hM,hw,hf,hc,q⟩:=h;refine⟨_,(qK (bf (i:=2) gA.nd rfl (aad rfl) (fg pN))
   (qK (rH aaI rfl (vH (bY lN (hr.mono (by decide)) rfl (pK (pv 0) (pK (pv 1) pN)))) (cL (i:=3) gA.nd rfl (aad rfl)) (qO (bf (i:=2) gA.nd rfl (aad rfl) (df Oo (i8 f9 rfl z_list rh (pK (aG aE (aG cc (pv 0) (pv 3) (λ_ _=>rfl)) pI (λ_ _=>rfl)) pN)) (pv 2)))))
   (qO (aQ (pv 2))))),?_⟩
 obtain⟨xs,hS,hI⟩:=id hM;have lx:=hI.1;refine⟨Mt,λr0 vy=>?_⟩;have s0:=sN vy (.lst []);refine⟨_,rfl,_,rfl,a,ms,c,rfl,hM.same s0,hw,hc,λre H1 s1 _ he=>?_⟩;have YV:=s0.trans s1;refine⟨re,rfl,⟨_,cG.of he⟩,?_⟩;refine rJ (xs:=kh (bD ms c)) (λi σ H2=>∃(r:Addr) (ks:List V) (o3:Option V),σ=[some (.ref a),some (.int (c:Int)),some (.ref r),o3]/\aK H1 H2/\H r=none/\H2 r=some (.lst ks)/\aP K H ks (aA (cB ms ((bD ms c).take i)))/\ks.length<=50 * i) ?_ ?_ ?_ ?_
 ·exact⟨r0,[],none,rfl,aK.refl _,vy,s1 _ _ uS,.nil,by simp⟩
 ·rintro i σ H2 hi ⟨r,ks,o3,rfl,s2,_⟩;exact cG.of (s2 _ _ he)
 ·rintro i y σ H2 hy ⟨r,ks,o3,rfl,s2,nr,g2,hR,Qd⟩
  have hil:i < (bD ms c).length:=by
   have:=(bX hy).1;simpa using this
  have hy':y=.int (((bD ms c)[i]:Nat):Int):=by
   rw[aaq,cW hil]at hy;exact(aax hy).symm
  subst hy'
  have hel:(bD ms c)[i] < ms.length:=by
   have:=(mv hw c hc).2 _ (abQ hil);omega
  have hi8:i < 8:=by
   have:=(mv hw c hc).1;have:=hw.few;omega
  generalize hj:(bD ms c)[i]=j at hel;have hjx:j < xs.length:=by omega
  obtain⟨t,l,kk,hx,e2,e3,e4⟩:=hI.2 j _ _ (cW hjx) (cW hel);have Qb:=YV.trans s2;have own:ownOf ms j=(ms[j]).2:=by unfold ownOf;rw[cW hel]
  have l2:=e4.1
  have lk:kk.length<=50:=by
   rw[aac]at l2;have:=hf j _ (cW hel);omega
  refine⟨_,rfl,_,rfl,a,xs,_,_,rfl,rfl,Qb.seq hS,(?_:kA xs ((j:Nat):Int)=some (.ref t)),t,_,_,_,rfl,rfl,Qb.tup e2,aN (j:=1) rfl,l,kk,rfl,.inl (Qb.seq e3),λp0 hp0=>?_⟩
  ·rw[← hx];exact aN (cW hjx)
  have s3:=sN hp0 (.lst kk);refine⟨_,rfl,p0,r,kk,ks,rfl,rfl,uS,s3 _ _ g2,abC (sK (by omega)),λp hp=>?_⟩;refine⟨p,kk++ks,_,rfl,s2.trans (s3.trans (sN hp _)),(Qb.trans s3).free hp,uS,?_,by rw[aaC];omega⟩
  have stp:cB ms ((bD ms c).take (i + 1))=ownOf ms j++cB ms ((bD ms c).take i):=by
   rw[gm,gm,List.take_succ_eq_append_getElem hil,hj];simp
  rw[stp,own,aA,aa6];exact aP.append e4 hR
 ·rintro σ H2 ⟨r,ks,o3,rfl,s2,nr,g2,hR,_⟩;have e:(bD ms c).take (kh (bD ms c)).length=bD ms c:=List.take_of_length_le (by simp);rw[e]at hR;exact⟨_,rfl,q r ks H2 (YV.trans s2) nr g2 hR⟩
theorem xn:aH ["makes","c"] ["makes","c"] (dS k7):=by walk_at "sc"
theorem xo{f:Addr}{fd:FuncData}(F:fe K "full_mask" "full_mask" k7 f fd)(z_len:mg "len"=none)(fK:dw P w K mg base bP "fields_of" 2 ["makes","c"] (eW K)):bK P w K mg base bP 3 f fd ["makes","c"] (jZ K):=by
 refine F.ok xn (λvs H Q E h=>?_) (λcdv A outer s H vs Q E hr h=>?_)
 ·obtain⟨a,ms,c,rfl,hM,hw,hf,hc,q⟩:=h;rfl
 obtain⟨a,ms,c,rfl,hM,hw,hf,hc,q⟩:=h;refine⟨_,(qO (aQ (df pf (df zy pI (cn bM rfl z_len gK (pK (bY fK (hr.mono (by decide)) rfl (pK (pv 0) (pK (pv 1) pN))) pN))) pI))),?_⟩;refine⟨_,rfl,_,rfl,a,ms,c,rfl,hM,hw,hf,hc,λr ks H2 s2 _ g2 hR=>?_⟩;have l1:=hR.1;rw[List.length_map]at l1;have aaR:=hf.fields hw hc;refine⟨r,ks,rfl,.inl (cG.of g2),_,_,rfl,rfl,⟨by omega,by omega,by decide⟩,_,_,rfl,rfl,?_⟩;dsimp only;rw[show((ks.length:Nat):Int).toNat=(fields ms c).length by omega,Int.one_mul];exact q H2 s2
theorem cO:aH ["makes","row","sign","c","field"] ["makes","row"] (dS eD):=by walk_at "sc"
theorem mK{f:Addr}{fd:FuncData}(F:fe K "asked_of_records" "asked_of_records" eD f fd)(fK:dw P w K mg base bP "fields_of" 2 ["makes","c"] (eW K))(yT:dw P w K mg base bP "full_mask" 3 ["makes","c"] (jZ K)):bK P w K mg base bP 4 f fd ["makes","row"] (dR K):=by
 refine F.ok cO (λvs H Q E h=>?_) (λcdv A outer s H vs Q E hr h=>?_)
 ·obtain⟨mk,rw',ms,sign,xs,ks,rfl,hM,hw,hf,hR,hA,q⟩:=h;rfl
 obtain⟨mk,rw',ms,sign,xs,ks,rfl,hM,hw,hf,hR,hA,q⟩:=h;refine⟨_,(qK (bf (i:=2) cO.nd rfl (aad rfl) (aG aE (pv 1) pI (λ_ _=>rfl)))
   (qK (bf (i:=3) cO.nd rfl (aad rfl) (aG aE (pv 1) pI (λ_ _=>rfl)))
   (qK (bS (tR dh (pv 2) ba (aZ _)) (qO (aQ (fg (pK (bh (pK ba (pK (pv 3) (pK (bY yT (hr.mono (by decide)) rfl (pK (pv 0) (pK (pv 3) pN))) pN)))) pN)))) aT)
   (qK (bS (tR dh (pv 2) ba (aZ _)) (qO (aQ (fg (pK (bh (pK ba (pK (pv 3) pN))) pN)))) aT)
   (qK (bf (i:=4) cO.nd rfl (aad rfl) (aG cc (bY fK (hr.mono (by decide)) rfl (pK (pv 0) (pK (pv 3) pN))) (aG aE (pv 1) pI (λ_ _=>rfl)) (λ_ _=>rfl)))
   (qK (bS (tR dh (pv 2) ba (aZ _)) (qO (aQ (fg (pK (bh (pK ba (pK (pv 3) (pK pI pN)))) (pK (pv 4) pN))))) aT)
   (qO (aQ (fg (pK (bh (pK ba (pK (pv 3) pN))) (pK (pv 4) pN))))))))))),?_⟩
 have few:=hw.few
 cases hA with
 | @begin c hc =>
  refine⟨_,rfl,rw',_,_,_,rfl,rfl,hR,aN (j:=0) rfl,_,rfl,rw',_,_,_,rfl,rfl,hR,aN (j:=1) rfl,?_⟩;refine⟨_,rfl,rfl,_,rfl,Ju rfl ?_⟩;refine⟨_,rfl,_,rfl,_,rfl,mk,ms,c,rfl,hM,hw,hf,hc,λH1 s1=>?_⟩;refine⟨Rj,λt ht=>⟨xJ,λr hr=>?_⟩⟩;have s2:=sN ht (.tup [.str "raw",.int (c:Int),.int (2 ^ (fields ms c).length - 1)]);have s3:=sN hr (.lst [.ref t]);refine q r _ _ (s1.trans (s2.trans s3)) ((s1.trans s2).free hr) uS ?_;refine .cons (vg (k:=.raw c (2 ^ (fields ms c).length - 1)) ?_) .nil
  have e:((2 ^ (fields ms c).length - 1:Nat):Int)=2 ^ (fields ms c).length - 1:=by
   have:=Nat.one_le_two_pow (n:=(fields ms c).length);rw[Int.ofNat_sub this];simp
  show bz K _ t [.str "raw",.int (c:Int),.int ((2 ^ (fields ms c).length - 1:Nat):Int)];rw[e];exact s3.tup (bz.of uS)
 | @get c f =>
  refine⟨_,rfl,rw',_,_,_,rfl,rfl,hR,aN (j:=0) rfl,_,rfl,rw',_,_,_,rfl,rfl,hR,aN (j:=1) rfl,?_⟩;refine⟨_,rfl,rfl,_,rfl,zJ (by decide +kernel) ?_⟩;refine⟨_,rfl,rfl,_,rfl,Ju rfl ?_⟩;refine⟨_,rfl,zo,λt ht=>⟨xJ,λr hr=>?_⟩⟩;have s2:=sN ht (.tup [.str "whole",.int (c:Int)]);have s3:=sN hr (.lst [.ref t]);exact q r _ _ (s2.trans s3) (s2.free hr) uS (.cons (vg (k:=.whole c) (s3.tup (bz.of uS))) .nil)
 | @fill c f k hc hk =>
  refine⟨_,rfl,rw',_,_,_,rfl,rfl,hR,aN (j:=0) rfl,_,rfl,rw',_,_,_,rfl,rfl,hR,aN (j:=1) rfl,?_⟩;refine⟨_,rfl,rfl,_,rfl,zJ (by decide +kernel) ?_⟩;refine⟨_,rfl,rfl,_,rfl,zJ (by decide +kernel) ?_⟩;refine⟨_,rfl,_,rfl,mk,ms,c,rfl,hM,hw,hf,hc,λr1 vs H1 s1 _ g1 hV=>?_⟩;obtain⟨v,hv,hvr⟩:=aP.at hV (i:=f) (d:=.tuple (cH k)) (by rw[aaq,hk];rfl);refine⟨_,rfl,rw',_,_,_,rfl,rfl,s1.tup hR,aN (j:=2) rfl,r1,_,_,_,rfl,rfl,cG.of g1,aN hv,?_⟩;refine⟨_,rfl,rfl,_,rfl,Ju rfl ?_⟩;refine⟨_,rfl,Rj,λt ht=>⟨_,rfl,zo,λr hr=>?_⟩⟩;have s2:=sN ht (.tup [.str "raw",.int (c:Int),.int 0]);have s3:=sN hr (.lst [.ref t,v]);exact q r _ _ (s1.trans (s2.trans s3)) ((s1.trans s2).free hr) uS (.cons (vg (k:=.raw c 0) (s3.tup (bz.of uS))) (.cons (hvr.same (s1.trans (s2.trans s3))) .nil))
 | @put c f k hc hk =>
  refine⟨_,rfl,rw',_,_,_,rfl,rfl,hR,aN (j:=0) rfl,_,rfl,rw',_,_,_,rfl,rfl,hR,aN (j:=1) rfl,?_⟩;refine⟨_,rfl,rfl,_,rfl,zJ (by decide +kernel) ?_⟩;refine⟨_,rfl,rfl,_,rfl,zJ (by decide +kernel) ?_⟩;refine⟨_,rfl,_,rfl,mk,ms,c,rfl,hM,hw,hf,hc,λr1 vs H1 s1 _ g1 hV=>?_⟩;obtain⟨v,hv,hvr⟩:=aP.at hV (i:=f) (d:=.tuple (cH k)) (by rw[aaq,hk];rfl);refine⟨_,rfl,rw',_,_,_,rfl,rfl,s1.tup hR,aN (j:=2) rfl,r1,_,_,_,rfl,rfl,cG.of g1,aN hv,?_⟩;refine⟨_,rfl,rfl,_,rfl,zJ (by decide +kernel) ?_⟩;refine⟨_,rfl,zo,λt ht=>⟨_,rfl,zo,λr hr=>?_⟩⟩;have s2:=sN ht (.tup [.str "whole",.int (c:Int)]);have s3:=sN hr (.lst [.ref t,v]);exact q r _ _ (s1.trans (s2.trans s3)) ((s1.trans s2).free hr) uS (.cons (vg (k:=.whole c) (s3.tup (bz.of uS))) (.cons (hvr.same (s1.trans (s2.trans s3))) .nil))
theorem tx:aH ["book","part","row","sign","parts"] ["book","part","row"] (dS wu):=by walk_at "sc"
theorem G7{f:Addr}{fd:FuncData}(F:fe K "asked" "asked" wu f fd)(z_list:mg "list"=none){b9:Addr}(jn:mg "ALWAYS"=some (.ref b9))(lO:Jz K w b9 bp)(nA:dw P w K mg base bP "asked_of_records" 4 ["makes","row"] (dR K)):bK P w K mg base bP 5 f fd ["book","part","row"] (oK K):=by
 refine F.ok tx (λvs H Q E h=>?_) (λcdv A outer s H vs Q E hr h=>?_)
 ·obtain⟨b,mk,pl,rw',part,sign,xs,ks,rfl,hB,hR,hA,q⟩:=h;rfl
 obtain⟨b,mk,pl,rw',part,sign,xs,ks,rfl,hB,hR,hA,q⟩:=h;refine⟨_,(qK (bf (i:=3) tx.nd rfl (aad rfl) (aG aE (pv 2) pI (λ_ _=>rfl)))
   (qK (bS (tR OB (pv 3) (ik (v:=.ref b9) rfl jn rfl) rfl) (qO (aQ (i8 f9 rfl z_list rh (pK (aG EO (ik (v:=.ref b9) rfl jn rfl) (pv 3) (λ_ _=>rfl)) pN)))) aT)
   (qK (bf (i:=4) tx.nd rfl (aad rfl) (aG aE (pv 0) pI (λ_ _=>rfl)))
   (qK (bS (tR dh (pv 3) ba (aZ _)) (qO (aQ (i8 f9 rfl z_list rh (pK (aG aE (aG cc (pv 4) (aG aE (pv 2) pI (λ_ _=>rfl)) (λ_ _=>rfl)) pI (λ_ _=>rfl)) pN)))) aT)
   (qK (bS (tR dh (pv 3) ba (aZ _)) (qO (aQ (fg (pK (aG aE (aG cc (pv 4) (pv 1) (λ_ _=>rfl)) pI (λ_ _=>rfl)) pN)))) aT)
   (qO (aQ (bY nA (hr.mono (by decide)) rfl (pK (aG aE (pv 0) pI (λ_ _=>rfl)) (pK (pv 2) pN)))))))))),?_⟩
 refine⟨_,rfl,rw',_,_,_,rfl,rfl,hR,aN (j:=0) rfl,?_⟩
 cases hA with
 | always h =>
  refine⟨_,rfl,b9,bp,sign,rfl,rfl,lO,_,rfl,Zx (by rw[h];rfl) ?_⟩;refine⟨_,rfl,b9,bp,sign,_,rfl,rfl,lO,h,λv hv=>?_⟩;obtain⟨a,ys,rfl,hS,hY⟩:=aO.bq (hv H);refine⟨a,ys,rfl,.inr hS,λr hr=>?_⟩;have s1:=sN hr (.lst ys);exact q r ys _ s1 hr uS (hY.same s1)
 | @call k ys rest vs t l _ h1 h2 h3 h4 h5 =>
  refine⟨_,rfl,b9,bp,_,rfl,rfl,lO,_,rfl,VD (by rw[K0];rfl) ?_⟩;refine⟨_,rfl,b,_,_,_,rfl,rfl,hB,aN (j:=1) rfl,?_⟩;refine⟨_,rfl,rfl,_,rfl,Ju rfl ?_⟩;refine⟨_,rfl,_,rfl,rw',_,_,_,rfl,rfl,hR,aN (j:=1) rfl,pl,_,_,_,rfl,rfl,h1,aN h2,t,_,_,_,rfl,rfl,h3,aN (j:=0) rfl,l,vs,rfl,.inl h4,λr hr=>?_⟩;have s1:=sN hr (.lst vs);exact q r vs _ s1 hr uS (h5.same s1)
 | @give ys rest t v0 v k h1 h2 h3 h4 =>
  refine⟨_,rfl,b9,bp,_,rfl,rfl,lO,_,rfl,VD (by rw[K1];rfl) ?_⟩;refine⟨_,rfl,b,_,_,_,rfl,rfl,hB,aN (j:=1) rfl,?_⟩;refine⟨_,rfl,rfl,_,rfl,zJ (by decide +kernel) ?_⟩;refine⟨_,rfl,rfl,_,rfl,Ju rfl ?_⟩;refine⟨_,rfl,_,rfl,pl,_,_,_,rfl,rfl,h1,aN h2,t,_,_,_,rfl,rfl,h3,aN (j:=1) rfl,xJ,λr hr=>?_⟩;have s1:=sN hr (.lst [v]);exact q r _ _ s1 hr uS (.cons (h4.same s1) .nil)
 | @ofR ms _ _ _ hM hw hf h =>
  obtain⟨n1,n2,n3⟩:=PX h;refine⟨_,rfl,b9,bp,_,rfl,rfl,lO,_,rfl,VD (by rw[n1];rfl) ?_⟩;refine⟨_,rfl,b,_,_,_,rfl,rfl,hB,aN (j:=1) rfl,?_⟩;refine⟨_,rfl,rfl,_,rfl,zJ n2 ?_⟩;refine⟨_,rfl,rfl,_,rfl,zJ n3 ?_⟩;exact⟨_,rfl,b,_,_,_,rfl,rfl,hB,aN (j:=0) rfl,_,rfl,mk,rw',ms,sign,xs,ks,rfl,hM,hw,hf,hR,h,q⟩
theorem Dw:aH ["row"] ["row"] (dS sC):=by walk_at "sc"
theorem Dx{f:Addr}{fd:FuncData}(F:fe K "leaves" "leaves" sC f fd){ia:Addr}(tD:mg "LEFT"=some (.ref ia))(Qe:Jz K w ia mr):bK P w K mg base bP 1 f fd ["row"] (mD K):=by
 refine F.ok Dw (λvs H Q E h=>?_) (λcdv A outer s H vs Q E hr h=>?_)
 ·obtain⟨rw',sign,xs,rfl,hR,q⟩:=h;rfl
 obtain⟨rw',sign,xs,rfl,hR,q⟩:=h;refine⟨_,(qO (aQ (JB (ik (v:=.ref ia) rfl tD rfl) (pK (aG aE (pv 0) pI (λ_ _=>rfl)) (pK pI pN))))),?_⟩;refine⟨ia,mr,rfl,Qe,_,rfl,rw',_,_,_,rfl,rfl,hR,aN (j:=0) rfl,sign,_,rfl,λhn=>?_,λdt hd v hv=>?_⟩
 ·unfold lg at q;rw[hn]at q;exact q
 ·obtain⟨i,rfl⟩:=Gv hd;unfold lg at q;rw[hd]at q;rw[aO.aU (hv H)];exact q
theorem mE:aH ["book","part","at","stand","row","wanted","under"] ["book","part","at","stand"] (dS sD):=by walk_at "sc"
theorem Dy{f:Addr}{fd:FuncData}(F:fe K "breaks" "breaks" sD f fd)(z_len:mg "len"=none)(uu:dw P w K mg base bP "all_beneath" 4 ["makes","some","others"] (hU K))(xp:dw P w K mg base bP "asked" 5 ["book","part","row"] (oK K))(tE:dw P w K mg base bP "leaves" 1 ["row"] (mD K)):bK P w K mg base bP 6 f fd ["book","part","at","stand"] (pX K):=by
 refine F.ok mE (λvs H Q E h=>?_) (λcdv A outer s H vs Q E hr h=>?_)
 ·obtain⟨b,ms,zs,ps,j,i,p,r,v,bx,st,rfl,hB,hg,hp,hr',hok,hv,Qd,hin,q⟩:=h;rfl
 obtain⟨b,ms,zs,ps,j,i,p,r,v,bx,st,rfl,hB,hg,hp,hr',hok,hv,Qd,hin,q⟩:=h;refine⟨_,(qK (bf (i:=4) mE.nd rfl (aad rfl) (aG cc (aG aE (aG cc (aG aE (pv 0) pI (λ_ _=>rfl)) (pv 1) (λ_ _=>rfl)) pI (λ_ _=>rfl)) (pv 2) (λ_ _=>rfl)))
   (qK (bf (i:=5) mE.nd rfl (aad rfl) (bY xp (hr.mono (by decide)) rfl (pK (pv 0) (pK (pv 1) (pK (pv 4) pN)))))
   (qK (bf (i:=6) mE.nd rfl (aad rfl) (df pf (cn bM rfl z_len gK (pK (aG aE (pv 3) pI (λ_ _=>rfl)) pN)) (cn bM rfl z_len gK (pK (pv 5) pN))))
   (qK (bS (tR My (pv 6) pI (aZ _)) (qO (aQ ba)) aT)
   (qK (bS (Ei (Eh (bY uu (hr.mono (by decide)) rfl (pK (aG aE (pv 0) pI (λ_ _=>rfl)) (pK (gI jB (aG aE (pv 3) pI (λ_ _=>rfl)) (jy (pv 6)) jx) (pK (pv 5) pN)))))) (qO (aQ ba)) aT)
   (qK (bS (tR Bh (df vI (pv 6) (bY tE (hr.mono (by decide)) rfl (pK (pv 4) pN))) (aG aE (aG cc (aG aE (pv 0) pI (λ_ _=>rfl)) (pv 1) (λ_ _=>rfl)) pI (λ_ _=>rfl)) (aZ _)) (qO (aQ ba)) aT)
   (qO (aQ kq)))))))),?_⟩
 obtain⟨b',mk,pl,xs,e,hT,hM,hL,hP⟩:=sG hB;cases e;obtain⟨w0,vz,hwr⟩:=mw hP hp;obtain⟨t,l0,l4,l5,ks,IK,Gr,f1,rfl,hTt,IL,hk,rg,KJ,KL,Nb,IF⟩:=pS hwr;obtain⟨rv,hrv,hrr⟩:=aP.at KL (i:=i) (d:=ki r) (by rw[aaq,hr'];rfl);obtain⟨rt,rx,rfl,hRT,hRR⟩:=aO.bq hrr
 have hrx:rx=Na r:=by
  match rx,hRR with
  | [],hRR=>have:=hRR.1;simp at this
  | y::ys,hRR =>
   have z:=hRR.2 0 y _ rfl rfl;cases z
   have el:ys=(wz r).map V.int:=by
    have hl:=hRR.1;simp at hl;apply List.ext_getElem?;intro n;by_cases hn:n < ys.length
    ·have zz:=hRR.2 (n + 1) ys[n] (.int ((wz r)[n]'(by omega))) (by rw[abg];exact cW hn) (by rw[abg,aaq,cW (by omega)];rfl);rw[cW hn,aO.aU zz,aaq,cW (by omega)];rfl
    ·rw[List.getElem?_eq_none (by omega),List.getElem?_eq_none (by simp;omega)]
   rw[el];rfl
 subst hrx;obtain⟨vt,vx,rfl,hVT,hVX⟩:=aO.bq hv;obtain⟨s1v,P4,hs1r⟩:=aP.at hVX (i:=1) (d:=.tuple (aA st)) rfl;obtain⟨sa,sx,rfl,hSA,hSX⟩:=aO.bq hs1r;have lsx:=hSX.1;rw[List.length_map]at lsx;refine⟨_,rfl,b,_,_,_,rfl,rfl,hT,aN (j:=1) rfl,_,rfl,pl,_,_,_,rfl,rfl,hL,aN vz,t,_,_,_,rfl,rfl,hTt,aN (j:=4) rfl,_,rfl,l4,_,_,_,rfl,rfl,KJ,aN hrv,?_⟩;refine⟨_,rfl,_,rfl,_,rfl,b,mk,pl,rt,j,cj r,(wz r).map V.int,cq ms ps p r,rfl,hT,hRT,B3 hM hg hL hP hp hok,λwa ws H1 s1 n1 g1 hW=>?_⟩;have lws:=hW.1;rw[List.length_map]at lws;generalize hA:cq ms ps p r=ak at hW lws;refine⟨_,rfl,vt,_,_,_,rfl,rfl,s1.tup hVT,aN P4,sa,sx,rfl,.inr (s1.tup hSA),_,rfl,wa,ws,rfl,.inl (cG.of g1),_,_,rfl,rfl,?_⟩;have qb:bW ms ps p r st=(if st.length < ak.length then some ("empty" : Str)else if bV ms (st.drop (st.length - ak.length)) ak=false then some ("kind" : Str)else if (p.height:Int) < ((st.length - ak.length:Nat):Int) + iX (cj r)then some ("high" : Str)else none):=by unfold bW;rw[hA]
 rw[qb]at q;refine⟨_,rfl,_,_,rfl,rfl,_,rfl,R9 (λz=>?_) (λz=>?_)⟩
 ·have z':((sx.length:Nat):Int) - ((ws.length:Nat):Int) < 0:=aaH z;rw[aan (by omega)]at q;exact q H1 s1
 have z':¬ ((sx.length:Nat):Int) - ((ws.length:Nat):Int) < 0:=λy=>z (aaD y)
 rw[if_neg (by omega)]at q;dsimp only[kr];have eu:((sx.length:Nat):Int) - ((ws.length:Nat):Int)=((st.length - ak.length:Nat):Int):=by omega
 refine⟨_,rfl,b,_,_,_,rfl,rfl,s1.tup hT,aN (j:=0) rfl,_,rfl,vt,_,_,_,rfl,rfl,s1.tup hVT,aN P4,_,rfl,_,rfl,sa,sx,rfl,s1.tup hSA,λca H2 s2 hc=>?_⟩
 have hc':bz K H2 ca (sx.drop (st.length - ak.length)):=by
  rw[← sH (xs:=sx) (n:=st.length - ak.length) (by omega),← eu];exact hc
 have S2:=s1.trans s2;refine⟨_,rfl,mk,ms,ca,wa,_,ws,st.drop (st.length - ak.length),ak,rfl,hM.same S2,hg.wf,hc',((fc.z8 hSX).drop _).same S2,cG.of (s2 _ _ g1),(fc.z8 hW).same s2,λk hk=>hin k (abZ hk),by rw[aaW];omega,λH3 s3=>⟨_,rfl,?_⟩⟩;have S3:=S2.trans s3
 cases hbl:bV ms (st.drop (st.length - ak.length)) ak with
 | false =>
  refine fh ?_;rw[aan hbl]at q;exact q H3 S3
 | true =>
  refine eQ ?_;rw[if_neg (by rw[hbl];simp)]at q;dsimp only[kr];refine⟨_,rfl,_,rfl,rt,cj r,_,rfl,S3.tup hRT,_,_,rfl,rfl,_,rfl,b,_,_,_,rfl,rfl,S3.tup hT,aN (j:=1) rfl,_,rfl,pl,_,_,_,rfl,rfl,S3.seq hL,aN vz,t,_,_,_,rfl,rfl,S3.tup hTt,aN (j:=3) rfl,_,_,rfl,rfl,_,rfl,R9 (λy=>?_) (λy=>?_)⟩
  ·have y':(p.height:Int) < ((sx.length:Nat):Int) - ((ws.length:Nat):Int) + lg (cj r):=aaH y;rw[pT _ (rw_sign hok),eu]at y';rw[aan y']at q;exact q H3 S3
  ·have y':¬ (p.height:Int) < ((sx.length:Nat):Int) - ((ws.length:Nat):Int) + lg (cj r):=λe=>y (aaD e)
   rw[pT _ (rw_sign hok),eu]at y';rw[aak y']at q;exact q H3 S3
theorem tF:aH ["stretches","at","stretch"] ["stretches","at"] (dS pQ):=by walk_at "sc"
theorem Ak{f:Addr}{fd:FuncData}(F:fe K "catcher" "catcher" pQ f fd):bK P w K mg base bP 1 f fd ["stretches","at"] (nz K):=by
 refine F.ok tF (λvs H Q E h=>?_) (λcdv A outer s H vs Q E hr h=>?_)
 ·obtain⟨a,p,rfl,hS,q⟩:=h;rfl
 obtain⟨a,p,rfl,hS,q⟩:=h;refine⟨_,(qK (rH aaI rfl (vH (pv 0)) (cL (i:=2) tF.nd rfl (aad rfl)) (qO fG))
   (qO (aQ kq))),?_⟩
 refine⟨_,rfl,a,rfl,⟨_,hS⟩,?_⟩;refine rJ (xs:=[]) (λi σ H2=>H2=H) rfl (λi σ H2 hi e=>by rw[e];exact hS) (λi y σ H2 hy=>nomatch hy) ?_;rintro σ H2 rfl;exact q
theorem cT:aH ["makes","row","took","sign","c"] ["makes","row","took"] (dS da):=by walk_at "sc"
theorem jo{f:Addr}{fd:FuncData}(F:fe K "kinds_put_of_records" "kinds_put_of_records" da f fd)(fK:dw P w K mg base bP "fields_of" 2 ["makes","c"] (eW K)):bK P w K mg base bP 3 f fd ["makes","row","took"] (cS K):=by
 refine F.ok cT (λvs H Q E h=>?_) (λcdv A outer s H vs Q E hr h=>?_)
 ·obtain⟨mk,rt,tt,ms,zs,ps,p,r,bx,tk,ts,rfl,hM,hg,hR,hok,hrec,hT,hK,htk,q⟩:=h;rfl
 obtain⟨mk,rt,tt,ms,zs,ps,p,r,bx,tk,ts,rfl,hM,hg,hR,hok,hrec,hT,hK,htk,q⟩:=h;refine⟨_,(qK (bf (i:=3) cT.nd rfl (aad rfl) (aG aE (pv 1) pI (λ_ _=>rfl)))
   (qK (bf (i:=4) cT.nd rfl (aad rfl) (aG aE (pv 1) pI (λ_ _=>rfl)))
   (qK (bS (tR dh (pv 3) ba (aZ _)) (qO (aQ (bh (pK (bh (pK ba (pK (pv 4) (pK pI pN)))) pN)))) aT)
   (qK (bS (tR dh (pv 3) ba (aZ _)) (qO (aQ (bh (pK (bh (pK ba (pK (pv 4) (pK (df Mx (aG aE (aG aE (pv 2) pI (λ_ _=>rfl)) pI (λ_ _=>rfl)) (df zy pI (aG aE (pv 1) pI (λ_ _=>rfl)))) pN)))) pN)))) aT)
   (qK (bS (tR dh (pv 3) ba (aZ _)) (qO (aQ (bh (pK (bh (pK ba (pK (pv 4) pN))) pN)))) aT)
   (qK (bS (tR dh (pv 3) ba (aZ _)) (qO (aQ (bh (pK (aG cc (bY fK (hr.mono (by decide)) rfl (pK (pv 0) (pK (pv 4) pN))) (aG aE (pv 1) pI (λ_ _=>rfl)) (λ_ _=>rfl)) pN)))) aT)
   (qO (aQ (bh pN))))))))),?_⟩
 have h1:∃c:Nat,∃ns:List Int,wz r=(c:Int)::ns:=by
  rcases (by decide +kernel:∀s∈tZ,s="make"∨s="fill"∨s="begin"∨s="get"∨s="put") _ hrec with e | e | e | e | e
  ·obtain⟨c,rfl⟩:=B5 hok e;exact⟨c,_,rfl⟩
  ·obtain⟨c,f,rfl⟩:=B6 hok e;exact⟨c,_,rfl⟩
  ·obtain⟨c,rfl⟩:=GD hok e;exact⟨c,_,rfl⟩
  ·obtain⟨c,f,rfl⟩:=GF hok e;exact⟨c,_,rfl⟩
  ·obtain⟨c,f,rfl⟩:=GG hok e;exact⟨c,_,rfl⟩
 obtain⟨c,ns,hN⟩:=h1;have hat:(Na r)[1]?=some (.int (c:Int)):=by unfold Na;rw[hN];rfl
 refine⟨_,rfl,rt,_,_,_,rfl,rfl,hR,aN (j:=0) rfl,?_⟩;refine⟨_,rfl,rt,_,_,_,rfl,rfl,hR,aN (j:=1) hat,?_⟩;dsimp only[gH];refine aS (λR kk=>?_);refine⟨_,rfl,rfl,_,rfl,jb (λz=>?_) (λz1=>kk _ _ ?_)⟩
 ·obtain⟨c',rfl⟩:=B5 hok z;cases hN;refine⟨_,rfl,Rj,λu hu=>⟨xJ,λw hw=>?_⟩⟩;have s1:=sN hu (.tup [.str "raw",.int (c:Int),.int 0]);have s2:=sN hw (.tup [.ref u]);exact q w _ _ (s1.trans s2) (bz.of uS) (.PF ⟨u,rfl,s2.tup (bz.of uS)⟩)
 clear kk R;refine aS (λR kk=>?_);refine⟨_,rfl,rfl,_,rfl,jb (λz=>?_) (λz2=>kk _ _ ?_)⟩
 ·obtain⟨c',f,rfl⟩:=B6 hok z;cases hN;obtain⟨z',hz,hf⟩:∃z,zs[c]?=some z/\f < z:=hok;have h6:=hg.six z' (aaf hz);obtain⟨m,hm⟩:=htk.fill c f rfl;obtain⟨y,hy,hyk⟩:=hK.item (i:=0) (bX hm).1;rw[hm]at hyk;obtain⟨yt,rfl,hyt⟩:=hyk
  have ep:putK ms ps bx tk (.fill c f)=[.raw c (m ||| 2 ^ f)]:=by
   show [Kd.raw c (GC ((tk[0]?).getD .any) ||| 2 ^ f)]=_;rw[hm];rfl
  rw[ep]at q
  have eb:Builtin.bitOr (m:Int) (1 * 2 ^ ((f:Nat):Int).toNat)=((m ||| 2 ^ f:Nat):Int):=by
   rw[aaP,ac0,← Gz];rfl
  refine⟨_,rfl,_,rfl,tt,_,_,_,rfl,rfl,hT,aN (j:=0) hy,yt,_,_,_,rfl,rfl,hyt,aN (j:=2) rfl,_,rfl,rt,_,_,_,rfl,rfl,hR,aN (j:=2) rfl,_,_,rfl,rfl,⟨by omega,by omega,by decide⟩,_,_,rfl,rfl,Rj,λu hu=>⟨xJ,λw hw=>?_⟩⟩;have s1:=sN hu (.tup [.str "raw",.int (c:Int),.int (Builtin.bitOr (m:Int) (1 * 2 ^ ((f:Nat):Int).toNat))]);have s2:=sN hw (.tup [.ref u]);refine q w _ _ (s1.trans s2) (bz.of uS) (.PF ⟨u,rfl,s2.tup (bz.of ?_)⟩);show _=some (HO.tup [.str "raw",.int (c:Int),.int ((m ||| 2 ^ f:Nat):Int)]);rw[← eb];exact uS
 clear kk R;refine aS (λR kk=>?_);refine⟨_,rfl,rfl,_,rfl,jb (λz=>?_) (λz3=>kk _ _ ?_)⟩
 ·obtain⟨c',rfl⟩:=GD hok z;cases hN;refine⟨_,rfl,zo,λu hu=>⟨xJ,λw hw=>?_⟩⟩;have s1:=sN hu (.tup [.str "whole",.int (c:Int)]);have s2:=sN hw (.tup [.ref u]);exact q w _ _ (s1.trans s2) (bz.of uS) (.PF ⟨u,rfl,s2.tup (bz.of uS)⟩)
 clear kk R;refine aS (λR kk=>?_);refine⟨_,rfl,rfl,_,rfl,jb (λz=>?_) (λz4=>kk _ _ ?_)⟩
 ·obtain⟨c',f,rfl⟩:=GF hok z;cases hN;obtain⟨z',hz,hf⟩:∃z,zs[c]?=some z/\f < z:=hok;have hc:c < ms.length:=by rw[hg.len];exact(bX hz).1
  obtain⟨z2,JG,e2⟩:=hg.fk c hc;rw[hz]at JG;cases JG;refine⟨_,rfl,_,rfl,mk,ms,c,rfl,hM,hg.wf,hg.Gp,hc,λr2 ks2 H2 s2 n2 g2 hR2=>?_⟩;have hK2:=fc.z8 hR2;obtain⟨y,hy,hyk⟩:=hK2.item (i:=f) (by omega);refine⟨_,rfl,rt,_,_,_,rfl,rfl,s2.tup hR,aN (j:=2) rfl,r2,ks2,_,_,rfl,rfl,cG.of g2,aN hy,xJ,λw hw=>?_⟩;have s3:=sN hw (.tup [y]);exact q w _ _ (s2.trans s3) (bz.of uS) (.PF (hyk.same (s2.trans s3)))
 clear kk R
 have e5:cj r="put":=by
  rcases (by decide +kernel:∀s∈tZ,s="make"∨s="fill"∨s="begin"∨s="get"∨s="put") _ hrec with e | e | e | e | e
  ·exact absurd e z1
  ·exact absurd e z2
  ·exact absurd e z3
  ·exact absurd e z4
  ·exact e
 obtain⟨c',f,rfl⟩:=GG hok e5;refine⟨Mt,λw hw=>?_⟩;exact q w _ _ (sN hw (.tup [])) (bz.of uS) (fc.nil K _)
theorem oR:aH ["book","row","boxes","took","sign"] ["book","row","boxes","took"] (dS k8):=by walk_at "sc"
theorem xq{f:Addr}{fd:FuncData}(F:fe K "kinds_put" "kinds_put" k8 f fd){cD:Addr}(eY:mg "OF_RECORDS"=some (.ref cD))(xr:∀H:Hp,aO K H (.ref cD) mS)(K4:∃o,K.lookup cD=some o/\o.cls=.type "tuple"/\o.dict=none)(j5:dw P w K mg base bP "kinds_put_of_records" 3 ["makes","row","took"] (cS K))(tE:dw P w K mg base bP "leaves" 1 ["row"] (mD K)):bK P w K mg base bP 4 f fd ["book","row","boxes","took"] (j0 K):=by
 refine F.ok oR (λvs H Q E h=>?_) (λcdv A outer s H vs Q E hr h=>?_)
 ·obtain⟨b,rt,bt,tt,ms,zs,ps,p,r,bx,tk,bs,ts,rfl,hB,hg,hR,hok,hb,hBK,lb,hT,hK,htk,q⟩:=h;rfl
 obtain⟨b,rt,bt,tt,ms,zs,ps,p,r,bx,tk,bs,ts,rfl,hB,hg,hR,hok,hb,hBK,lb,hT,hK,htk,q⟩:=h;refine⟨_,(qK (bf (i:=4) oR.nd rfl (aad rfl) (aG aE (pv 1) pI (λ_ _=>rfl)))
   (qK (bS (tR dh (pv 4) ba (aZ _)) (qO (aQ (bh (pK (aG aE (pv 2) (aG aE (pv 1) pI (λ_ _=>rfl)) (λ_ _=>rfl)) pN)))) aT)
   (qK (bS (tR dh (pv 4) ba (aZ _)) (qO (aQ (bh (pK (aG aE (pv 3) pI (λ_ _=>rfl)) (pK (aG aE (pv 3) pI (λ_ _=>rfl)) pN))))) aT)
   (qK (bS (tR dh (pv 4) ba (aZ _)) (qO (aQ (bh (pK (aG aE (pv 3) pI (λ_ _=>rfl)) (pK (aG aE (pv 3) pI (λ_ _=>rfl)) pN))))) aT)
   (qK (bS (tR dh (pv 4) ba (aZ _)) (qO (aQ (bh (pK (aG aE (pv 3) pI (λ_ _=>rfl)) pN)))) aT)
   (qK (bS (tR dh (pv 4) ba (aZ _)) (qO (aQ (bh (pK (aG aE (aG cc (aG aE (pv 0) pI (λ_ _=>rfl)) (aG aE (pv 1) pI (λ_ _=>rfl)) (λ_ _=>rfl)) pI (λ_ _=>rfl)) pN)))) aT)
   (qK (bS (tR gB (pv 4) (ik (v:=.ref cD) rfl eY rfl) rfl) (qO (aQ (bY j5 (hr.mono (by decide)) rfl (pK (aG aE (pv 0) pI (λ_ _=>rfl)) (pK (pv 1) (pK (pv 3) pN)))))) aT)
   (qO (aQ (df rl (bh (pK (bh (pK ba pN)) pN)) (bY tE (hr.mono (by decide)) rfl (pK (pv 1) pN)))))))))))),?_⟩
 obtain⟨b',mk,pl,xs,e,hBT,hM,hL,hP⟩:=sG hB;cases e;refine⟨_,rfl,rt,_,_,_,rfl,rfl,hR,aN (j:=0) rfl,?_⟩;dsimp only[gH];refine aS (λR kk=>?_);refine⟨_,rfl,rfl,_,rfl,jb (λz=>?_) (λz1=>kk _ _ ?_)⟩
 ·obtain⟨w,rfl⟩:=B4 hok z;have hw:w < p.boxes:=hok;obtain⟨y,hy,hyk⟩:=hBK.item (i:=w) (by omega);refine⟨_,rfl,_,rfl,rt,_,_,_,rfl,rfl,hR,aN (j:=1) rfl,bt,_,_,_,rfl,rfl,hb,aN hy,xJ,λu hu=>?_⟩;have s1:=sN hu (.tup [y]);exact q u _ _ s1 (bz.of uS) (.PF (hyk.same s1))
 clear kk R;refine aS (λR kk=>?_);refine⟨_,rfl,rfl,_,rfl,jb (λz=>?_) (λz2=>kk _ _ ?_)⟩
 ·have er:=iy hok (by rw[z];decide +kernel);rw[z]at er;subst er;have l1:=htk.len;have l2:(cq ms ps p (.bare "dup")).length=1:=by rw[Gy];rfl
  obtain⟨y,hy,hyk⟩:=hK.item (i:=0) (by omega);refine⟨_,rfl,tt,_,_,_,rfl,rfl,hT,aN (j:=0) hy,_,rfl,tt,_,_,_,rfl,rfl,hT,aN (j:=0) hy,zo,λu hu=>?_⟩;have s1:=sN hu (.tup [y,y]);exact q u _ _ s1 (bz.of uS) (.Yu (hyk.same s1) (hyk.same s1))
 clear kk R;refine aS (λR kk=>?_);refine⟨_,rfl,rfl,_,rfl,jb (λz=>?_) (λz3=>kk _ _ ?_)⟩
 ·have er:=iy hok (by rw[z];decide +kernel);rw[z]at er;subst er;have l1:=htk.len;have l2:(cq ms ps p (.bare "swap")).length=2:=by rw[pU];rfl
  obtain⟨y,hy,hyk⟩:=hK.item (i:=0) (by omega);obtain⟨y',hy',hyk'⟩:=hK.item (i:=1) (by omega);refine⟨_,rfl,tt,_,_,_,rfl,rfl,hT,aN (j:=1) hy',_,rfl,tt,_,_,_,rfl,rfl,hT,aN (j:=0) hy,zo,λu hu=>?_⟩;have s1:=sN hu (.tup [y',y]);exact q u _ _ s1 (bz.of uS) (.Yu (hyk'.same s1) (hyk.same s1))
 clear kk R;refine aS (λR kk=>?_);refine⟨_,rfl,rfl,_,rfl,jb (λz=>?_) (λz4=>kk _ _ ?_)⟩
 ·obtain⟨c,w,rfl⟩:=PD hok z;have l1:tk.length=1:=htk.len;obtain⟨y,hy,hyk⟩:=hK.item (i:=0) (by omega);refine⟨_,rfl,tt,_,_,_,rfl,rfl,hT,aN (j:=0) hy,xJ,λu hu=>?_⟩;have s1:=sN hu (.tup [y]);exact q u _ _ s1 (bz.of uS) (.PF (hyk.same s1))
 clear kk R;refine aS (λR kk=>?_);refine⟨_,rfl,rfl,_,rfl,jb (λz=>?_) (λz5=>kk _ _ ?_)⟩
 ·obtain⟨w,rfl⟩:=B7 hok z;have hq:w < ps.length:=hok;obtain⟨v,hv,hvr⟩:=mw hP (cW hq);obtain⟨t,l0,l4,l5,ks,IK,Gr,f1,rfl,hTt,IL,hk,rg,KJ,KL,Nb,IF⟩:=pS hvr;refine⟨_,rfl,b,_,_,_,rfl,rfl,hBT,aN (j:=1) rfl,_,rfl,rt,_,_,_,rfl,rfl,hR,aN (j:=1) rfl,pl,_,_,_,rfl,rfl,hL,aN hv,t,_,_,_,rfl,rfl,hTt,aN (j:=1) rfl,xJ,λu hu=>?_⟩;have s1:=sN hu (.tup [f1])
  have e:putK ms ps bx tk (.call w)=[ps[w].gives]:=by
   show [((ps[w]?).map Pt.gives).getD .any]=_;rw[cW hq];rfl
  rw[e]at q;exact q u _ _ s1 (bz.of uS) (.PF ((Gw rg).same s1))
 clear kk R;refine aS (λR kk=>?_);refine⟨_,rfl,cD,tZ.map V.str,rfl,.inr (mx xr H),rfl,jj _,_,rfl,GA (λz=>?_) (λz6=>kk _ _ ?_)⟩
 ·exact⟨_,rfl,b,_,_,_,rfl,rfl,hBT,aN (j:=0) rfl,_,rfl,_,rfl,mk,rt,tt,ms,zs,ps,p,r,bx,tk,ts,rfl,hM,hg,hR,hok,z,hT,hK,htk,q⟩
 clear kk R;obtain⟨n,UT,VC,YW⟩:=GH (ms:=ms) (ps:=ps) (bx:=bx) (tk:=tk) hok z1 z2 z3 z4 z5 z6;rw[YW]at q;refine⟨xJ,λu hu=>⟨xJ,λw hw=>?_⟩⟩;have s1:=sN hu (.tup [.str "number"]);have s2:=sN hw (.tup [.ref u]);have S2:=s1.trans s2;have ku:Gn K (upd (upd H u (.tup [.str "number"])) w (.tup [.ref u])) (.ref u) .num:=⟨u,rfl,s2.tup (bz.of uS)⟩;have gw:=uS (H:=upd H u (.tup [.str "number"])) (a:=w) (o:=.tup [.ref u]);generalize upd (upd H u (.tup [.str "number"])) w (.tup [.ref u])=H2 at S2 ku gw ⊢;have hn:(lg (cj r)).toNat=n:=by omega
 refine⟨_,rfl,rt,cj r,_,rfl,S2.tup hR,w,_,_,rfl,rfl,bz.of gw,(by simp),by omega,by omega,?_,λa4 H4 s4 h4=>?_⟩
 ·rw[hn];exact Nat.le_of_lt (sK (by simp;omega))
 rw[hn]at h4
 have e4:(List.replicate n [V.ref u]).flatten=List.replicate n (V.ref u):=by
  clear hn UT VC YW h4 q
  induction n with
  | zero=>rfl
  | succ n ih=>rw[aaB,aaQ,ih,aaB];rfl
 rw[e4]at h4;exact q a4 _ H4 (S2.trans s4) h4 (fc.rep (ku.same s4) n)
theorem yU:aH ["some","spot","thing"] ["some","spot","thing"] (dS nk):=by walk_at "sc"
theorem yV{f:Addr}{fd:FuncData}(F:fe K "replaced" "replaced" nk f fd):bK P w K mg base bP 1 f fd ["some","spot","thing"] (lJ K):=by
 refine F.ok yU (λvs H Q E h=>?_) (λcdv A outer s H vs Q E hr h=>?_)
 ·obtain⟨t,xs,i,v,rfl,hT,hi,Qc,q⟩:=h;rfl
 obtain⟨t,xs,i,v,rfl,hT,hi,Qc,q⟩:=h;refine⟨_,(qO (aQ (df mm (df mm (gI jB (pv 0) jx (jy (pv 1))) (bh (pK (pv 2) pN))) (gI jB (pv 0) (jy (df vI (pv 1) pI)) jx)))),?_⟩;refine⟨_,rfl,_,rfl,_,rfl,t,xs,rfl,hT,λa1 H1 s1 h1=>?_⟩;rw[G0]at h1;refine⟨_,rfl,xJ,λu hu=>?_⟩;have w1:=sN hu (.tup [v]);have l1:(xs.take i).length<=100:=by rw[aaG];omega
 refine⟨a1,u,_,_,rfl,rfl,w1.tup h1,bz.of uS,Nat.le_of_lt (sK (by simp;omega)),λa2 H2 s2 h2=>?_⟩;have S2:=s1.trans (w1.trans s2);refine⟨_,rfl,_,rfl,_,_,rfl,rfl,_,rfl,t,xs,rfl,S2.tup hT,λa3 H3 s3 h3=>?_⟩;have e3:jz xs (some ((i:Int) + 1)) none=xs.drop (i + 1):=sH (xs:=xs) (n:=i + 1) (by omega);rw[e3]at h3;refine⟨a2,a3,_,_,rfl,rfl,s3.tup h2,h3,Nat.le_of_lt (sK (by simp;omega)),λr H4 s4 h4=>?_⟩;rw[Dt hi]at h4;exact q r H4 (S2.trans (s3.trans s4)) h4
theorem cz:aH ["book","part","row","stand","boxes","under","took","stack"] ["book","part","row","stand"] (dS gX):=by walk_at "sc"
theorem qV{f:Addr}{fd:FuncData}(F:fe K "stand_behind" "stand_behind" gX f fd)(z_len:mg "len"=none)(xp:dw P w K mg base bP "asked" 5 ["book","part","row"] (oK K))(yW:dw P w K mg base bP "kinds_put" 4 ["book","row","boxes","took"] (j0 K))(Al:dw P w K mg base bP "replaced" 1 ["some","spot","thing"] (lJ K)):bK P w K mg base bP 6 f fd ["book","part","row","stand"] (fY K):=by
 refine F.ok cz (λvs H Q E h=>?_) (λcdv A outer s H vs Q E hr h=>?_)
 ·obtain⟨b,ms,zs,ps,j,p,rt,r,v,bx,st,n,rfl,hB,hg,hp,hR,hok,hv,lb,h8,Qd,hn,htk,q⟩:=h;rfl
 obtain⟨b,ms,zs,ps,j,p,rt,r,v,bx,st,n,rfl,hB,hg,hp,hR,hok,hv,lb,h8,Qd,hn,htk,q⟩:=h;refine⟨_,(qK (bf (i:=4) cz.nd rfl (aad rfl) (aG aE (pv 3) pI (λ_ _=>rfl)))
   (qK (bf (i:=5) cz.nd rfl (aad rfl) (df pf (cn bM rfl z_len gK (pK (aG aE (pv 3) pI (λ_ _=>rfl)) pN)) (cn bM rfl z_len gK (pK (bY xp (hr.mono (by decide)) rfl (pK (pv 0) (pK (pv 1) (pK (pv 2) pN)))) pN))))
   (qK (bf (i:=6) cz.nd rfl (aad rfl) (gI jB (aG aE (pv 3) pI (λ_ _=>rfl)) (jy (pv 5)) jx))
   (qK (bf (i:=7) cz.nd rfl (aad rfl) (df mm (gI jB (aG aE (pv 3) pI (λ_ _=>rfl)) jx (jy (pv 5))) (bY yW (hr.mono (by decide)) rfl (pK (pv 0) (pK (pv 2) (pK (pv 4) (pK (pv 6) pN)))))))
   (qK (bS (tR dh (aG aE (pv 2) pI (λ_ _=>rfl)) ba (aZ _)) (qO (bf (i:=4) cz.nd rfl (aad rfl) (bY Al (hr.mono (by decide)) rfl (pK (pv 4) (pK (aG aE (pv 2) pI (λ_ _=>rfl)) (pK (aG aE (pv 6) pI (λ_ _=>rfl)) pN)))))) aT)
   (qO (aQ (bh (pK (pv 4) (pK (pv 7) pN)))))))))),?_⟩
 obtain⟨b',mk,pl,xs,e,hBT,hM,hL,hP⟩:=sG hB;cases e;obtain⟨vt,tb,ts,bs,ss,rfl,hV,hb,hBK,hs,hSK⟩:=PH hv;have lss:=hSK.1;have lbs:=hBK.1;refine⟨_,rfl,vt,_,_,_,rfl,rfl,hV,aN (j:=0) rfl,?_⟩;dsimp only[gH];refine aS (λR kk=>?_);refine⟨_,rfl,vt,_,_,_,rfl,rfl,hV,aN (j:=1) rfl,ts,ss,rfl,.inr hs,_,rfl,_,rfl,_,rfl,b,mk,pl,rt,j,cj r,(wz r).map V.int,cq ms ps p r,rfl,hBT,hR,B3 hM hg hL hP hp hok,λwa ws H1 s1 n1 g1 hW=>?_⟩;have lws:=hW.1;rw[List.length_map]at lws;refine⟨wa,ws,rfl,.inl (cG.of g1),_,_,rfl,rfl,kk _ _ ?_⟩;clear kk R;have eu:((ss.length:Nat):Int) - ((ws.length:Nat):Int)=((n:Nat):Int):=by omega
 try dsimp only
 rw[eu];refine aS (λR kk=>?_);refine⟨_,rfl,vt,_,_,_,rfl,rfl,s1.tup hV,aN (j:=1) rfl,_,rfl,_,rfl,ts,ss,rfl,s1.tup hs,λca H2 s2 hc=>kk _ _ ?_⟩;clear kk R;rw[sH (by omega)]at hc;have S2:=s1.trans s2;refine aS (λR kk=>?_);refine⟨_,rfl,vt,_,_,_,rfl,rfl,S2.tup hV,aN (j:=1) rfl,_,rfl,_,rfl,ts,ss,rfl,S2.tup hs,λcb H3 s3 hcb=>?_⟩;rw[Gm]at hcb;have S3:=S2.trans s3;refine⟨_,rfl,_,rfl,_,rfl,_,rfl,b,rt,tb,ca,ms,zs,ps,p,r,bx,st.drop n,bs,ss.drop n,rfl,hB.same S3,hg,S3.tup hR,hok,S3.tup hb,hBK.same S3,lb,s3.tup hc,(hSK.same S3).drop n,htk,λkt kys H4 s4 hkt hkK=>?_⟩;have lk:=hkK.1;have l2:=eA (ms:=ms) (ps:=ps) (bx:=bx) (tk:=st.drop n) (r:=r);refine⟨cb,kt,_,_,rfl,rfl,s4.tup hcb,hkt,abC (sK (by rw[aaG];omega)),λsk H5 s5 hsk=>kk _ _ ?_⟩;clear kk R;have S5:=S3.trans (s4.trans s5);have kS:fc K H5 (ss.take n++kys) (st.take n++putK ms ps bx (st.drop n) r):=fc.append ((hSK.same S5).take n) (hkK.same s5);have c5:=(s3.trans (s4.trans s5)).tup hc;have kD:=(hSK.same S5).drop n;generalize ss.take n++kys=sys at hsk kS;clear hcb hkt hkK s4 s3 s2 S2 S3 hc lk l2;refine aS (λR kk=>?_)
 have fin:∀(nb:Addr) (bs':List V) (H':Hp),aK H5 H'->bz K H' nb bs'->fc K H' bs' (oz bx (st.drop n) r)->R [some (.ref b),some (.int (j:Int)),some (.ref rt),some (.ref vt),some (.ref nb),some (.int (n:Int)),some (.ref ca),some (.ref sk)] H':=λnb bs' H' s' h1 h2=>kk _ _ (by
  refine⟨_,rfl,_,rfl,zo,λw hw=>?_⟩;have u1:=sN hw (.tup [.ref nb,.ref sk]);exact q w _ (S5.trans (s'.trans u1)) (Tp (bz.of uS) (u1.tup h1) (h2.same u1) ((s'.trans u1).tup hsk) (kS.same (s'.trans u1))))
 clear kk;refine⟨_,rfl,rt,_,_,_,rfl,rfl,S5.tup hR,aN (j:=0) rfl,rfl,_,rfl,jb (λz=>?_) (λz1=>?_)⟩
 ·obtain⟨w,rfl⟩:=sI hok z;have hw:w < p.boxes:=hok;have l1:(st.drop n).length=1:=htk.len;obtain⟨y,hy,hyk⟩:=kD.item (i:=0) (by omega);refine⟨_,rfl,_,rfl,rt,_,_,_,rfl,rfl,S5.tup hR,aN (j:=1) rfl,_,rfl,ca,_,_,_,rfl,rfl,c5,aN (j:=0) hy,tb,bs,w,y,rfl,S5.tup hb,by omega,by omega,λrr H6 s6 h6=>?_⟩;obtain⟨yt,rfl,hyt⟩:=hyk;exact fin rr _ H6 s6 h6 (fc.set ((hBK.same (S5.trans s6))) (s6.tup hyt))
 ·dsimp only[kr];refine fin tb bs H5 (aK.refl _) (S5.tup hb) ?_;rw[yA z1];exact hBK.same S5
theorem mF:aH ["book","part","at","stand","row","sign","told","behind","caught"] ["book","part","at","stand"] (dS zY):=by walk_at "sc"
theorem K5{f:Addr}{fd:FuncData}(F:fe K "outs" "outs" zY f fd){fL:Addr}(lP:mg "ENDING"=some (.ref fL))(G8:∀H:Hp,aO K H (.ref fL) vd)(Uj:∃o,K.lookup fL=some o/\o.cls=.type "tuple"/\o.dict=none){dI:Addr}(ib:mg "FAULTING"=some (.ref dI))(Am:∀H:Hp,aO K H (.ref dI) qk)(Qf:∃o,K.lookup dI=some o/\o.cls=.type "tuple"/\o.dict=none){iM:Addr}(oS:mg "GOING"=some (.ref iM))(K6:∀H:Hp,aO K H (.ref iM) yu)(Vj:∃o,K.lookup iM=some o/\o.cls=.type "tuple"/\o.dict=none)(Dz:dw P w K mg base bP "catcher" 1 ["stretches","at"] (nz K))(tG:dw P w K mg base bP "stand_behind" 6 ["book","part","row","stand"] (fY K)):bK P w K mg base bP 7 f fd ["book","part","at","stand"] (wV K):=by
 refine F.ok mF (λvs H Q E h=>?_) (λcdv A outer s H vs Q E hr h=>?_)
 ·obtain⟨b,ms,zs,ps,j,i,p,r,v,bx,st,n,rfl,hB,hg,hp,hri,hok,hv,lb,h8,Qd,hn,htk,hgo,hsp,q⟩:=h;rfl
 obtain⟨b,ms,zs,ps,j,i,p,r,v,bx,st,n,rfl,hB,hg,hp,hri,hok,hv,lb,h8,Qd,hn,htk,hgo,hsp,q⟩:=h;refine⟨_,(qK (bf (i:=4) mF.nd rfl (aad rfl) (aG cc (aG aE (aG cc (aG aE (pv 0) pI (λ_ _=>rfl)) (pv 1) (λ_ _=>rfl)) pI (λ_ _=>rfl)) (pv 2) (λ_ _=>rfl)))
   (qK (bf (i:=5) mF.nd rfl (aad rfl) (aG aE (pv 4) pI (λ_ _=>rfl)))
   (qK (bf (i:=6) mF.nd rfl (aad rfl) (fg pN))
   (qK (bf (i:=7) mF.nd rfl (aad rfl) (bY tG (hr.mono (by decide)) rfl (pK (pv 0) (pK (pv 1) (pK (pv 4) (pK (pv 3) pN))))))
   (qK (bS (tR nU (pv 5) (ik (v:=.ref fL) rfl lP rfl) rfl) (qO (vD (Bo abJ abF abG ml (pv 6) (pK (bh (pK ba (pK (df vI (pv 2) pI) (pK (pv 7) pN)))) pN)))) aT)
   (qK (bS (tR dh (pv 5) ba (aZ _)) (qO fG) (qO (bS (tR gB (pv 5) (ik (v:=.ref iM) rfl oS rfl) rfl) (qO fG) aT)))
   (qK (bf (i:=8) mF.nd rfl (aad rfl) (bY Dz (hr.mono (by decide)) rfl (pK (aG aE (aG cc (aG aE (pv 0) pI (λ_ _=>rfl)) (pv 1) (λ_ _=>rfl)) pI (λ_ _=>rfl)) (pK (pv 2) pN))))
   (qK (bS (PW.pt (pw_and (tR gB (pv 5) (ik (v:=.ref dI) rfl ib rfl) rfl) (pw_and1 (tR mi (pv 8) kq (aZ _))))) (qO fG) aT)
   (qO (aQ (pv 6))))))))))),?_⟩
 obtain⟨b',mk,pl,xs,e,hBT,hM,hL,hP⟩:=sG hB;cases e;obtain⟨w0,vz,hwr⟩:=mw hP hp;obtain⟨t,l0,l4,l5,ks,IK,Gr,f1,rfl,hTt,IL,hk,rg,KJ,KL,Nb,IF⟩:=pS hwr;obtain⟨rv,hrv,hrr⟩:=aP.at KL (i:=i) (d:=ki r) (by rw[List.getElem?_map,hri];rfl);obtain⟨rt,rfl,hR⟩:=rw_inv hrr;refine⟨_,rfl,b,_,_,_,rfl,rfl,hBT,aN (j:=1) rfl,_,rfl,pl,_,_,_,rfl,rfl,hL,aN vz,t,_,_,_,rfl,rfl,hTt,aN (j:=4) rfl,_,rfl,l4,_,_,_,rfl,rfl,KJ,aN hrv,?_⟩;refine⟨_,rfl,rt,_,_,_,rfl,rfl,hR,aN (j:=0) rfl,?_⟩;refine⟨Mt,λL nL=>?_⟩;have u1:=sN nL (.lst []);have g1:=uS (H:=H) (a:=L) (o:=.lst []);generalize upd H L (.lst [])=H1 at u1 g1 ⊢;dsimp only[gH];refine aS (λR kk=>?_);refine⟨_,rfl,_,rfl,_,rfl,_,rfl,b,ms,zs,ps,j,p,rt,r,v,bx,st,n,rfl,hB.same u1,hg,hp,u1.tup hR,hok,hv.same u1,lb,h8,Qd,hn,htk,λbt H2 s2 rb=>kk _ _ ?_⟩;clear kk R;have O2:Di K H L [] H2:=⟨u1.trans s2,[],s2 _ _ g1,GI.nil K _⟩;generalize hbb:oz bx (st.drop n) r=bb at rb;generalize hss:st.take n++putK ms ps bx (st.drop n) r=ss at rb;clear s2 g1 u1;refine aS (λR kk=>?_)
 have fin:∀H3,aO K H3 (.ref bt) (jt bb ss)->Di K H L (nextK r i bb ss) H3->R [some (.ref b),some (.int (j:Int)),some (.int (i:Int)),some v,some (.ref rt),some (.str (cj r)),some (.ref L),some (.ref bt),none] H3:=λH3 r3 o3=>kk _ _ (by
  clear O2 rb kk;refine aS (λR kk=>?_);have S3:=o3.1;refine⟨_,rfl,rfl,_,rfl,jb (λz=>absurd (by rw[z];decide +kernel) hgo) (λ_=>⟨_,rfl,iM,km.map V.str,rfl,.inr (mx K6 H3),rfl,jj _,_,rfl,GA (λz=>absurd z hgo) (λ_=>?_)⟩)⟩;dsimp only[kr];refine kk _ _ ?_;clear kk R;refine aS (λR kk=>?_);have e5:Gr=[]:=List.length_eq_zero_iff.mp (by rw[IF.1,hsp];rfl);subst e5;refine⟨_,rfl,b,_,_,_,rfl,rfl,S3.tup hBT,aN (j:=1) rfl,_,rfl,pl,_,_,_,rfl,rfl,S3.seq hL,aN vz,t,_,_,_,rfl,rfl,S3.tup hTt,aN (j:=5) rfl,_,rfl,l5,(i:Int),rfl,S3.seq Nb,kk _ _ ?_⟩;clear kk R;refine aS (λR kk=>?_);refine⟨_,rfl,dI,GJ.map V.str,rfl,.inr (mx Am H3),rfl,jj _,_,rfl,GA (λz=>⟨_,rfl,rfl,_,rfl,?_⟩) (λz=>?_)⟩
  ·show if (!decide (V.non=V.non))=true then _ else _
   rw[if_neg (by simp)];dsimp only[kr];exact kk _ _ ⟨_,rfl,q L H3 nL (by rw[hbb,hss];exact o3)⟩
  ·dsimp only[kr];exact kk _ _ ⟨_,rfl,q L H3 nL (by rw[hbb,hss];exact o3)⟩)
 clear kk;refine⟨_,rfl,fL,nv.map V.str,rfl,.inr (mx G8 H2),rfl,jj _,_,rfl,?_⟩;show if (!Bm (.str (cj r)) (nv.map V.str))=true then _ else _
 by_cases hz:cj r∈nv
 ·rw[k9,decide_eq_true hz];refine eQ ?_;dsimp only[kr];refine fin H2 rb ?_;unfold nextK;rw[if_pos hz];exact O2
 ·rw[k9,aaw hz];obtain⟨S2,ys,gL,hI⟩:=O2;refine fh ⟨_,rfl,.inl ⟨rfl,_,cG.of gL⟩,_,rfl,_,_,rfl,rfl,_,rfl,Rj,λu hu=>?_⟩;have x1:=sN hu (.tup [.str "next",.int ((i:Int) + 1),.ref bt]);refine⟨L,ys,_,rfl,rfl,x1 _ _ gL,sK ?_,fin _ ?_ ?_⟩
  ·have e:ys.length=0:=hI.1;omega
  ·exact B8 (rb.same x1) (x1 _ _ gL)
  ·unfold nextK;rw[if_neg hz];have z:=Di.add nL (S2.trans x1) (x1 _ _ gL) (hI.same x1) (bz.of uS) (rb.same x1);exact z
theorem dJ:aH ["book","part","at","stand","kept","word","behind","lead"] ["book","part","at","stand","kept"] (dS iW):=by walk_at "sc"
theorem tH{f:Addr}{fd:FuncData}(F:fe K "stand_after" "stand_after" iW f fd){ar:Addr}(fu:mg "NoPaper"=some (.ref ar))(fv:PySem.W.ktsIn K ar "BaseException"=true)(DA:OJ P w K mg base ar ["part","at","word"])(G9:dw P w K mg base bP "breaks" 6 ["book","part","at","stand"] (pX K))(Qg:dw P w K mg base bP "outs" 7 ["book","part","at","stand"] (wV K)):bK P w K mg base (zq P w) 8 f fd ["book","part","at","stand","kept"] (hZ K ar):=by
 refine F.Ye dJ (λvs H Q E h=>?_) (λcdv A outer s H vs Q E hr h=>?_)
 ·obtain⟨v0,vc,d,j,i,ms,zs,ps,p,r,s',rfl,hB,hv,g,hp,hr',hok,hgo,hsp,b8,h8,hs,qe,q⟩:=h;rfl
 obtain⟨v0,vc,d,j,i,ms,zs,ps,p,r,s',rfl,hB,hv,g,hp,hr',hok,hgo,hsp,b8,h8,hs,qe,q⟩:=h;refine⟨_,(qK (bf (i:=5) dJ.nd rfl (aad rfl) (bY G9 (hr.mono (by decide)) rfl (pK (pv 0) (pK (pv 1) (pK (pv 2) (pK (pv 3) pN))))))
   (qK (bS (tR mi (pv 5) kq (aZ _)) (qO (CV OK DA (hr.mono (by decide)) rfl fu rfl (pK (pv 1) (pK (pv 2) (pK (pv 5) pN))))) aT)
   (qK (bf (i:=6) dJ.nd rfl (aad rfl) kq)
   (qK (rH PassesOwn.leaving rfl (vH (bY Qg (hr.mono (by decide)) rfl (pK (pv 0) (pK (pv 1) (pK (pv 2) (pK (pv 3) pN)))))) (cL (i:=7) dJ.nd rfl (aad rfl)) (qO (bS (tR dh (aG aE (pv 7) pI (λ_ _=>rfl)) ba (aZ _)) (qO (bf (i:=6) dJ.nd rfl (aad rfl) (aG aE (pv 7) pI (λ_ _=>rfl)))) (qO fG))))
   (qO (aQ (pv 6))))))),?_⟩
 obtain⟨b,xs0,rfl,Vb,_⟩:=aO.bq hB;have st8:=hs.st;refine⟨_,rfl,_,rfl,_,rfl,_,rfl,b,ms,zs,ps,j,i,p,r,vc,s'.1,s'.2,rfl,hB,g,hp,hr',hok,hv,by omega,λk hk=>cV.Va g (hs.k2 k hk),λH1 s1=>?_⟩
 cases hbr:bW ms ps p r s'.2 with
 | some w =>
  refine⟨_,rfl,rfl,_,rfl,fh ?_⟩;exact⟨_,rfl,_,rfl,_,rfl,rfl,λdx H2 hdx s2 gx=>qe w hbr dx H2 (s1.trans s2) (s1.free hdx) gx⟩
 | none =>
  refine⟨_,rfl,rfl,_,rfl,eQ ?_⟩;dsimp only[kr];obtain⟨e1,tk⟩:=sJ hbr;refine⟨_,rfl,_,rfl,_,rfl,_,rfl,b,ms,zs,ps,j,i,p,r,vc,s'.1,s'.2,_,rfl,hB.same s1,g,hp,hr',hok,hv.same s1,hs.bx,b8,by omega,e1,tk,hgo,hsp,λL H2 nL hO=>?_⟩;obtain⟨s2,ys,gL,hI⟩:=hO;unfold nextK at hI;refine⟨L,rfl,⟨_,cG.of gL⟩,?_⟩;have q2:=q hbr;rw[done_none hbr]at q2;refine rJ (xs:=ys) (λk σ H3=>H3=H2/\∃(o6:V) (o7:Option V),σ=[some (.ref b),some (.int (j:Int)),some (.int (i:Int)),some vc,some d,some .non,some o6,o7]/\(k=0->o6=.non)/\(0 < k->aO K H2 o6 (jt (oz s'.1 (s'.2.drop (kj ms ps p r s'.2)) r) (s'.2.take (kj ms ps p r s'.2)++putK ms ps s'.1 (s'.2.drop (kj ms ps p r s'.2)) r)))) ⟨rfl,_,_,rfl,λ_=>rfl,λz=>absurd z (Nat.lt_irrefl _)⟩ ?_ ?_ ?_
  ·rintro k σ H3 _ ⟨rfl,_⟩;exact cG.of gL
  ·rintro k y σ H3 hy ⟨rfl,o6,o7,rfl,_⟩;have hk:=(bX hy).1;rw[hI.1]at hk;by_cases he:cj r∈nv
   ·rw[aan he]at hk;exact absurd hk (Nat.not_lt_zero _)
   ·rw[aak he]at hk hI;have k0:k=0:=Nat.lt_one_iff.mp hk;subst k0;obtain⟨t,v,rfl,hT,hv2⟩:=hI.2 0 y _ hy rfl;refine⟨_,rfl,t,_,_,_,rfl,rfl,hT,aN (j:=0) rfl,rfl,_,rfl,Ju rfl ?_⟩;exact⟨_,rfl,t,_,_,_,rfl,rfl,hT,aN (j:=2) rfl,rfl,_,_,rfl,λz=>absurd z (aa3 _),λ_=>hv2⟩
  ·rintro σ H3 ⟨rfl,o6,o7,rfl,h0,h1⟩;refine⟨_,rfl,q2 o6 _ (s1.trans s2) ?_⟩;by_cases he:cj r∈nv
   ·rw[aan he]at hI ⊢;rw[h0 hI.1];exact .non
   ·rw[aak he]at hI ⊢;exact h1 (by rw[hI.1];exact acY _)
theorem yX:aH ["book","part","at","came","kept"] ["book","part","at","came","kept"] (dS nq):=by walk_at "sc"
theorem yY{f:Addr}{fd:FuncData}(F:fe K "stand_at" "stand_at" nq f fd):bK P w K mg base bP 1 f fd ["book","part","at","came","kept"] (lK K):=by
 refine F.ok yX (λvs H Q E h=>?_) (λcdv A outer s H vs Q E hr h=>?_)
 ·obtain⟨v0,v1,vc,i,d,rfl,hd,q⟩:=h;rfl
 obtain⟨v0,v1,vc,i,d,rfl,hd,q⟩:=h;refine⟨_,(qK (bS (NY (CY (R8 hr) (pv 2) (pv 4))) (qO (aQ (pv 3))) aT)
   (qK fG
   (qO fG))),?_⟩
 refine⟨_,rfl,_,rfl,d,_,rfl,Fp.k (k:=Sum.inl i) hd,_,rfl,?_⟩;exact fh ⟨_,rfl,q⟩
theorem jq:aH ["book","part","papers","kept","stand","at"] ["book","part","papers"] (dS wx):=by walk_at "sc"
theorem Ha{f:Addr}{fd:FuncData}(F:fe K "check" "check" wx f fd)(z_dict:mg "dict"=none)(z_len:mg "len"=none)(z_range:mg "range"=none)(xt:dw P w K mg base bP "check_form" 1 ["book","part","papers"] (i3 K))(K7:dw P w K mg base bP "entry" 1 ["book","part"] (sU K))(uv:dw P w K mg base (zq P w) "stand_after" 8 ["book","part","at","stand","kept"] (hZ K ar))(An:dw P w K mg base bP "stand_at" 1 ["book","part","at","came","kept"] (lK K)):bK P w K mg base (zq P w) 9 f fd ["book","part","papers"] (sV K ar):=by
 refine F.Ye jq (λvs H Q E h=>?_) (λcdv A outer s H vs Q E hr h=>?_)
 ·obtain⟨PP,ds,hP,hv,ms,zs,ps,j,p,rfl,g,hp,hall,hsp,hgo,q,x⟩:=h;exact hv.1
 obtain⟨PP,ds,hP,hv,ms,zs,ps,j,p,rfl,g,hp,hall,hsp,hgo,q,x⟩:=h;refine C8 (Ex:=λC fs=>∀dd H',aK H H'->M5 K PP H' dd fs->E (.ref C) dd H') hP hv (λ_ _ z=>z) ?_;show kN _ _ _ _ [some _,some _,some _,none,none,none] [];clear hP hv;have hPt:=hall p (aaf hp);refine aj (oi (aD xt ua t9 (hr.mono (by decide)) rfl (aa (ae 0) (aa (ae 1) (aa (ae 2) ah))))) (λR kk=>?_);walk_at "vc";refine⟨_,_,rfl,kk _ _ ?_⟩;clear kk R;refine BY (qK (bf (i:=3) jq.nd rfl (aad rfl) (Gk rfl z_dict rfl (pK (pv 2) pN)))
   (qK (bf (i:=4) jq.nd rfl (aad rfl) (bY K7 (hr.mono (by decide)) rfl (pK (pv 0) (pK (pv 1) pN))))
   (qO (rH PassesOwn.leaving rfl (uC rfl z_range (pK (cn bM rfl z_len gK (pK (aG aE (aG cc (aG aE (pv 0) pI (λ_ _=>rfl)) (pv 1) (λ_ _=>rfl)) pI (λ_ _=>rfl)) pN)) pN)) (cL (i:=5) jq.nd rfl (aad rfl)) (qK (bf (i:=4) jq.nd rfl (aad rfl) (bY An (hr.mono (by decide)) rfl (pK (pv 0) (pK (pv 1) (pK (pv 5) (pK (pv 4) (pK (pv 3) pN)))))))
   (qO (bS (tR mi (pv 4) kq (aZ _)) (qO (bf (i:=4) jq.nd rfl (aad rfl) (OL uv JM (hr.mono (by decide)) rfl (pK (pv 0) (pK (pv 1) (pK (pv 5) (pK (pv 4) (pK (pv 3) pN)))))))) aT))))))) ?_
 intro H0 A0 G al H1 σ D I En k;obtain⟨a0,a1,a2,a3,a4,a5,rfl⟩:=Ti En.1;obtain⟨v0,e0,r0⟩:=En.2 0 _ rfl;obtain⟨v1,e1,r1⟩:=En.2 1 _ rfl;obtain⟨v2,e2,r2⟩:=En.2 2 _ rfl;cases e0;cases e1;cases e2;have r0:aO K H1 v0 (oy ms ps):=aJ.now r0;have r1:aO K H1 v1 (.int (j:Int)):=aJ.now r1;cases r1;have r2:aO K H1 v2 (.list []):=aJ.now r2;obtain⟨pl,ys,rfl,hS,hY⟩:=aO.dn r2;have ey:ys=[]:=List.length_eq_zero_iff.mp hY.1;subst ey;refine⟨_,rfl,pl,rfl,hS,λd hd=>?_⟩;have sd:=sN hd (.dK []);have gd:upd H1 d (.dK []) d=some (.dK []):=uS;generalize upd H1 d (.dK [])=H2 at sd gd ⊢;dsimp only[gH];obtain⟨b,bs,rfl,hT,hBs⟩:=aO.bq r0;refine⟨_,rfl,_,rfl,b,ms,ps,j,p,rfl,(aO.iQ hT hBs).same sd,hp,hPt.bx,hPt.tb,λv3 H3 s3 r3=>?_⟩;dsimp only[gH];have S3:=sd.trans s3;obtain⟨mk,pa,rfl⟩:=Py hBs.1;obtain⟨pr,us,rfl,hPS,hUs⟩:=aO.dn (hBs.2 1 pa _ rfl rfl);obtain⟨u,hu,hur⟩:=aP.at hUs (i:=j) (d:=eF p) (by rw[List.getElem?_map,hp];rfl);obtain⟨t,ts,rfl,hTT,hTs⟩:=aO.bq hur;obtain⟨t0,t1,t2,t3,t4,t5,rfl⟩:=Ti hTs.1;obtain⟨ra,rs,rfl,hRS,hRs⟩:=aO.dn (hTs.2 4 t4 _ rfl rfl);have lrs:rs.length=p.rows.length:=by rw[hRs.1,List.length_map]
 refine⟨_,rfl,b,_,_,_,rfl,rfl,S3.tup hT,aN (j:=1) rfl,_,rfl,pr,_,_,_,rfl,rfl,S3.seq hPS,aN hu,t,_,_,_,rfl,rfl,S3.tup hTT,aN (j:=4) rfl,ra,rs,rfl,.inl (S3.seq hRS),?_⟩;have lr:=hPt.r2;refine⟨_,rfl,by omega,by omega,?_⟩;refine Cy (lo:=0) (n:=((rs.length:Nat):Int).toNat) (λi σ H4=>∃(vs:V) (o5:Option V) (o:Option Sd),σ=[some (.ref b),some (.int (j:Int)),some (.ref pl),some (.ref d),some vs,o5]/\aK H3 H4/\aO K H4 vs (Yw o)/\(∀s,o=some s->qL zs p s)/\cR ms ps p 0 p.rows (cf p,[])=(match o with | some s=>cR ms ps p i (p.rows.drop i) s | none=>none)) ?_ ?_ ?_
 ·exact⟨_,_,some (cf p,[]),rfl,aK.refl _,r3,(λs hs=>by cases hs;exact sM hPt),rfl⟩
 ·rintro i σ H4 hi ⟨vs,o5,o,rfl,s4,hvs,hso,hf⟩;rw[aaP]at hi;have S4:=S3.trans s4;obtain⟨r,vy⟩:∃r,p.rows[i]?=some r:=⟨_,cW (by omega)⟩;have hrm:=aaf vy;have e0:(0:Int) + (i:Int)=(i:Int):=by omega
  rw[e0];dsimp only[gH];refine⟨_,rfl,_,rfl,_,rfl,_,rfl,_,rfl,_,_,_,i,d,rfl,s4 _ _ (s3 _ _ gd),?_⟩;dsimp only[gH]
  cases o with
  | none =>
   have hvs:aO K H4 vs .none:=hvs;cases hvs;refine⟨_,rfl,rfl,_,rfl,eQ ?_⟩;dsimp only[kr];exact⟨_,_,none,rfl,s4,.non,(λs hs=>by cases hs),hf⟩
  | some s1 =>
   have hvs:aO K H4 vs (jt s1.1 s1.2):=hvs;obtain⟨a,ws,rfl,_⟩:=aO.bq hvs;refine⟨_,rfl,rfl,_,rfl,fh ?_⟩;have hf:cR ms ps p 0 p.rows (cf p,[])=cR ms ps p i (p.rows.drop i) s1:=hf;rw[Ca vy]at hf;have hok:=hPt.ro r hrm;have P4:=hso s1 rfl;refine⟨_,rfl,_,rfl,_,rfl,_,rfl,_,rfl,.ref b,_,_,j,i,ms,zs,ps,p,r,s1,rfl,(aO.iQ hT hBs).same S4,hvs,g,hp,vy,hok,hgo r hrm,hsp,hPt.bx,hPt.h8,P4,λw hw dx H5 s5 ndx gx=>?_,λhw v H5 s5 r5=>?_⟩
   ·have ef:cR ms ps p 0 p.rows (cf p,[])=some (i,w):=by
     rw[hf];show(match doneK ms ps p r s1 with | (some w,_)=>some (i,w) | (none,s')=>if cj r∈nv then none else cR ms ps p (i + 1) (p.rows.drop (i + 1)) s')=_;rw[gF hw]
    have lk:=I.lk;refine lk.2 ar _ (some dx) H5 (x (i,w) ef) (I.fr.trans (ke.of (S4.trans s5))) (.inr ⟨dx,_,rfl,gx,λz=>?_,rfl,.cons (.int _) (.cons (.int _) (.cons (.str _) .nil))⟩);obtain⟨o,e,_⟩:=I.gs dx (lk.1 dx z);rw[S4 dx o e]at ndx;cases ndx
   ·rw[done_none hw]at r5;have hdn:=rB g (λp' hp'=>hall p' hp') hok P4;rw[done_none hw]at hdn;dsimp only[gH];refine⟨v,_,_,rfl,s4.trans s5,r5,λs2 zp=>?_,?_⟩
    ·split at zp
     ·cases zp
     ·cases zp;exact hdn
    ·rw[hf];show(match doneK ms ps p r s1 with | (some w,_)=>some (i,w) | (none,s')=>if cj r∈nv then none else cR ms ps p (i + 1) (p.rows.drop (i + 1)) s')=_;rw[done_none hw];dsimp only;split
     ·rfl
     ·rfl
 ·rintro σ H4 ⟨vs,o5,o,rfl,s4,hvs,hso,hf⟩;have S4:=S3.trans s4;refine k.nx (List.replicate 6 none) _ al _ H4 (.same S4) (I.same S4) ⟨rfl,λi dv h=>?_⟩ (q ?_)
  ·rw[List.getElem?_replicate]at h;split at h<;>cases h
  ·rw[hf]
   cases o with
   | none=>rfl
   | some s1 =>
    rw[aaP,lrs,List.drop_length];rfl
theorem eZ:aH ["_law_book","_law_part_here","_law_papers","_law_told_here","_law_found","e"] ["_law_book","_law_part_here","_law_papers"] (dS nu):=by walk_at "sc"
theorem xu{f:Addr}{fd:FuncData}(F:fe K "_law_told" "_law_told" nu f fd)(e7:mg "ValueError"=none)(z_isinstance:mg "isinstance"=none){ar:Addr}(fu:mg "NoPaper"=some (.ref ar))(fv:PySem.W.ktsIn K ar "BaseException"=true){ic:Addr}(lQ:mg "NoPass"=some (.ref ic))(oU:PySem.W.ktsIn K ic "BaseException"=true){bU:Addr}(dY:mg "WardenError"=some (.ref bU))(fD:PySem.W.excIn K bU (EW true) (OE true)=true)(fE:PySem.W.ktsIn K bU "BaseException"=true)(oV:dw P w K mg base bP "_law_whole" 1 ["_law_found"] (jY K))(K8:dw P w K mg base (zq P w) "check" 9 ["book","part","papers"] (sV K ar))(Hb:PySem.W.mroIn K ar (.ref ar)=some true)(fM:PySem.W.findIn K (.ref ar) "__getattribute__"=some (some (.builtin "BaseException.__getattribute__")))(fN:PySem.W.findIn K (.ref ar) "__getattr__"=some none)(fO:PySem.W.findIn K (.ref ar) "__class__"=some (some (.builtin "object.__class__")))(fP:PySem.W.mroIn K ar (.type "BaseException")=some true)(fQ:PySem.W.mroIn K ar (.type "object")=some true)(fR:PySem.W.hasDictIn K ar=true)(Hc:PySem.W.kitOne K (.ref ar) (.ref bU)=some true)(Hd:PySem.W.kitOne K (.ref ar) (.type "ValueError")=some true)(Uk:fT K ar "part")(n_b:fT K ar "at")(Ul:fT K ar "word")(He:PySem.W.kitOne K (.ref ar) (.ref ic)=some false):bK P w K mg base bP 10 f fd ["_law_book","_law_part_here","_law_papers"] (lL K):=by
 refine F.ok eZ (λvs H Q E h=>?_) (λcdv A outer s H vs Q E hr h=>?_)
 ·obtain⟨PP,ds,hP,hv,ms,zs,ps,j,p,rfl,g,hp,hall,hsp,hgo,q⟩:=h;exact hv.1
 obtain⟨PP,ds,hP,hv,ms,zs,ps,j,p,rfl,g,hp,hall,hsp,hgo,q⟩:=h;refine bc hP hv ?_;show kN _ _ _ _ [some _,some _,some _,none,none,none] [];clear hP hv;refine aj (aL (i:=3) eZ.nd rfl (aad rfl) c9) (λR kk=>?_);walk_at "vc";refine kk _ _ ?_;clear kk R;refine aj (aL (i:=4) eZ.nd rfl (aad rfl) c9) (λR kk=>?_);walk_at "vc";refine kk _ _ ?_;clear kk R;refine aj (Km (i:=5) (j:=4) K8 G3 G2 (hr.mono (by decide)) rfl (Td λ_=>(aa (ae 0) (aa (ae 1) (aa (ae 2) ah)))) rfl fu fv eZ.nd rfl rfl rfl (aad rfl) (Te λ_ _=>(ax (aL (i:=3) eZ.nd rfl (aad rfl) (au (aa (zV (ae 5)) (aa (zV (ae 5)) (aa (zV (ae 5)) (aa (yo rfl z_isinstance rfl dY (ae 5)) (aa (Gh rfl z_isinstance rfl e7 tT (ae 5)) (aa (yo rfl z_isinstance rfl lQ (ae 5)) ah))))))))))) (λR kk=>?_);walk_at "vc";refine⟨ms,zs,ps,j,p,rfl,g,hp,hall,hsp,hgo,λhb=>kk _ _ ?_,λa hb=>⟨Hb,?_⟩⟩
 ·clear kk R;rw[hb]at q;refine aj (aV (mn (ae 4) c9) (ax (az (au (aa aw ah)))) aB) (λR kk=>?_);walk_at "vc";refine eQ (kk _ _ ?_);clear kk R;refine aj (aV (FF (ae 3) c9) (ax (az c9)) aB) (λR kk=>?_);walk_at "vc";exact fh q
 ·rw[hb]at q;walk_at "vc";have kx:KX K ar/\PySem.W.hasDictIn K ar=true:=⟨⟨fM,fN,fO,fP,fQ⟩,fR⟩;refine⟨ar,_,_,rfl,⟨kx.1,kx.2,Uk⟩,rfl,ar,_,_,rfl,⟨kx.1,kx.2,n_b⟩,rfl,ar,_,_,rfl,⟨kx.1,kx.2,Ul⟩,rfl,ar,_,true,rfl,kx,Hc,ar,_,true,rfl,kx,Hd,ar,_,false,rfl,kx,He,kk _ _ ?_⟩;clear kk R;refine aj (aV (mn (ae 4) c9) (ax (az (au (aa aw ah)))) aB) (λR kk=>?_);walk_at "vc";refine eQ (kk _ _ ?_);clear kk R;refine aj (aV (FF (ae 3) c9) (ax (az c9)) aB) (λR kk=>?_);walk_at "vc";refine eQ (kk _ _ ?_);clear kk R;refine aj (aV (tW.dt (uW (og (hr.units) (jg (ae 3) (cM aq) fw) (au (aa nY (aa nY (aa nY ah))))) (uW (mZ (pC (aD oV oJ oH (hr.mono (by decide)) rfl (aa (av (n:=0) (ae 3)) ah)))) (rY (mZ (pC (aD oV oJ oH (hr.mono (by decide)) rfl (aa (av (n:=1) (ae 3)) ah)))))))) (ax (az (au (aa aw ah)))) aB) (λR kk=>?_);walk_at "vc";rw[TC];refine⟨⟨rfl,rfl⟩,oA rfl ⟨_,rfl,?_⟩⟩;walk_at "vc";refine oA rfl ⟨_,rfl,?_⟩;walk_at "vc";refine oA rfl (kk _ _ ?_);clear kk R;refine bF (az (jg (ae 3) fw (cM aq))) ?_;walk_at "vc";rw[TH];exact q
theorem tI:aH ["_law_script","_law_book","_law_number","_law_due","_law_kept"] ["_law_script"] (dS oq):=by walk_at "sc"
theorem Qh{f:Addr}{fd:FuncData}(F:fe K "law" "law" oq f fd)(yZ:dw P w K mg base bP "_law_copy" 1 ["_law_book"] (ll K))(xv:dw P w K mg base bP "_law_first" 4 ["_law_book","_law_part_here"] (jQ K))(qW:dw P w K mg base bP "_law_straight" 6 ["_law_script"] (fX K))(qx:dw P w K mg base bP "_law_told" 10 ["_law_book","_law_part_here","_law_papers"] (lL K)):bK P w K mg base bP 11 f fd ["_law_script"] (sW K):=by
 refine F.ok tI (λvs H Q E h=>?_) (λcdv A outer s H vs Q E hr h=>?_)
 ·obtain⟨a,ns,rfl,hS,IM,q⟩:=h;rfl
 obtain⟨a,ns,rfl,hS,IM,q0⟩:=h;have hv:cu (aJ K (λ_=>False) H) [.ref a] [.list (ns.map PyData.int)]:=.cons (FR (.lst hS (by simp) λi x d hx hd=>(Gb (K:=K) (P:=λ_=>False) (H:=H) (ns:=ns)).2 i x d hx hd |>.now)) .nil;have q:∀v H',aK H H'->aJ K (λ_=>False) H' v (.bool true)->Q v H':=λv H' _ r=>by rw[aJ.jf r];exact q0 H'
 refine bc (P:=λ_=>False) (λ_ h=>h.elim) hv ?_;show kN _ _ _ _ [some _,none,none,none,none] [];clear hv q0 hS;refine aj (pJ (aD qW qQ qP (hr.mono (by decide)) rfl (aa (ae 0) ah)) (kM (m:=2) rfl (bZ (bN (i:=1) tI.nd rfl (aad rfl)) (bZ (bN (i:=2) tI.nd rfl (aad rfl)) iw)))) (λR kk=>?_);walk_at "vc";refine⟨ns,rfl,IM,λms zs ps j p g h8 hp hall hsp hf=>⟨rfl,kk _ _ ?_⟩⟩;clear kk R;have shb:=TU g hall;have hgo:∀r∈p.rows,cj r∉km:=λr hr=>(hf r hr).2
 have g8:=g.wf.few;refine aj (aL (i:=3) tI.nd rfl (aad rfl) (aD xv wK wJ (hr.mono (by decide)) rfl (aa (ae 1) (aa (ae 2) ah)))) (λR kk=>?_);walk_at "vc";refine⟨ms,zs,ps,j,p,rfl,g,hp,hall,hf,kk _ _ ?_⟩;clear kk R;refine aj (aL (i:=4) tI.nd rfl (aad rfl) (aD yZ yM yL (hr.mono (by decide)) rfl (aa (ae 1) ah))) (λR kk=>?_);walk_at "vc";refine⟨ms,ps,rfl,by omega,h8,kk _ _ ?_⟩;clear kk R;refine aj (aV (tW.dt (uW (og (hr.units) (aD qx qv qu (hr.mono (by decide)) rfl (aa (ae 1) (aa (ae 2) (aa (eU ah) ah)))) (ae 3)) (rY (og (hr.units) (ae 1) (ae 4))))) (ax (az nY)) aB) (λR kk=>?_);walk_at "vc";refine⟨ms,zs,ps,j,p,rfl,g,hp,hall,hsp,hgo,?_⟩;have shd:=PU (j:=j) (sS (ms:=ms) (ps:=ps) (p:=p) p.rows 0 (cf p,[]));generalize hfo:cR ms ps p 0 p.rows (cf p,[])=o at shd ⊢;have ebk:=lh ms ps
 have nxt:R [some (.dat (.list (ns.map PyData.int))),some (.dat (oy ms ps)),some (.dat (.int (j:Int))),some (.dat (yC j o)),some (.dat (oy ms ps))] []:=by
  refine kk _ _ ?_;clear kk R;refine bF (az (BE (hr.units) (aD qx qv qu (hr.mono (by decide)) rfl (aa (ae 4) (aa (ae 2) (aa (eU ah) ah)))) (ae 3))) ?_;walk_at "vc";refine⟨ms,zs,ps,j,p,rfl,g,hp,hall,hsp,hgo,?_⟩;rw[hfo]
  cases o with
  | none =>
   rw[show yC j none=.none from rfl];walk_at "vc";exact⟨⟨rfl,rfl⟩,q⟩
  | some a =>
   rw[show yC j (some a)=.tuple [.int (j:Int),.int (a.1:Int),.str a.2]from rfl]at shd ⊢;walk_at "vc";refine⟨⟨shd.ok,shd.ok⟩,?_⟩;rw[shd.self];exact q
 clear kk
 cases o with
 | none =>
  rw[show yC j none=.none from rfl]at nxt ⊢;walk_at "vc";refine⟨⟨rfl,rfl⟩,oA rfl ?_⟩;rw[ebk]at shb nxt ⊢;walk_at "vc";exact⟨⟨shb.ok,shb.ok⟩,oA shb.self nxt⟩
 | some a =>
  rw[show yC j (some a)=.tuple [.int (j:Int),.int (a.1:Int),.str a.2]from rfl]at shd nxt ⊢;walk_at "vc";refine⟨⟨shd.ok,shd.ok⟩,oA shd.self ?_⟩;rw[ebk]at shb nxt ⊢;walk_at "vc";exact⟨⟨shb.ok,shb.ok⟩,oA shb.self nxt⟩
end
theorem all_mk{l:PySem.W.OpenLaw}{w:World}{K:aC}{h:Heap}{mg:Str->Option Value}{fa WK:Addr}(X:K.In h)(G:h.Ns mainGlobals mg)(hfa:mg "law"=some (.ref fa))
  {WL Um:Option Addr} {WM:Array (Option Value)} {WN Uo Up Uq Qi Ur:Value}
  {ar ic bU:Addr}
  {b9 fL dI iM ia cD:Addr}
  (d0:cv K "_law_copy" m5)
  (d1:cv K "_law_under" kO)
  (d2:cv K "_law_beneath" iU)
  (d3:cv K "_law_fields" jG)
  (d4:cv K "_law_does" m6)
  (d5:cv K "_law_done" m7)
  (d6:cv K "_law_entry" kP)
  (d7:cv K "_law_first" kQ)
  (d8:cv K "_law_wanted" jH)
  (d9:cv K "_law_eager" kR)
  (WO:cv K "_law_word" m9)
  (WQ:cv K "_law_candidate" fW)
  (WR:cv K "_law_mixed" kU)
  (WS:cv K "_law_stand_beneath" dP)
  (WT:cv K "_law_block" kW)
  (WU:cv K "_law_cell" nc)
  (WV:cv K "_law_free_row" gU)
  (WW:cv K "_law_kind" ng)
  (WX:cv K "_law_makes" kX)
  (WY:cv K "_law_sizes" kY)
  (WZ:cv K "_law_part" nh)
  (W0:cv K "_law_straight" gW)
  (W2:cv K "_law_whole" kZ)
  (W3:cv K "check_form" jI)
  (W4:cv K "entry" wq)
  (W5:cv K "elders_of" k4)
  (W6:cv K "is_under" nj)
  (W7:cv K "beneath" pP)
  (W8:cv K "all_beneath" iV)
  (W9:cv K "fields_of" k6)
  (Xa:cv K "full_mask" k7)
  (Xb:cv K "asked_of_records" eD)
  (Xc:cv K "asked" wu)
  (Xd:cv K "leaves" sC)
  (Xe:cv K "breaks" sD)
  (Xf:cv K "catcher" pQ)
  (Xg:cv K "kinds_put_of_records" da)
  (Xh:cv K "kinds_put" k8)
  (Xi:cv K "replaced" nk)
  (Xj:cv K "stand_behind" gX)
  (Xk:cv K "outs" zY)
  (Xl:cv K "stand_after" iW)
  (Xm:cv K "stand_at" nq)
  (Xn:cv K "check" wx)
  (Xo:cv K "_law_told" nu)
  (Xp:PySem.W.nsIn K mainGlobals "law"=some (some (.ref WK))) (Rx:K.lookup WK=some ⟨WN,WL,.func (PySem.W.fnOf "law" "law" (dA oq) (dB oq) (dS oq) .none Uo Up Uq Um Qi Ur),WM⟩) (Xq:PySem.W.codeIn K Qi "law"=true) (Xr:PySem.W.keepIn K (.ref WK)=true)
  (fu:PySem.W.nsIn K mainGlobals "NoPaper"=some (some (.ref ar)))
  (fv:PySem.W.ktsIn K ar "BaseException"=true)
  (lQ:PySem.W.nsIn K mainGlobals "NoPass"=some (some (.ref ic)))
  (oU:PySem.W.ktsIn K ic "BaseException"=true)
  (dY:PySem.W.nsIn K mainGlobals "WardenError"=some (some (.ref bU)))
  (fD:PySem.W.excIn K bU (EW true) (OE true)=true)
  (fE:PySem.W.ktsIn K bU "BaseException"=true)
  {j6:Addr} {y3 y4:Option Addr} {y6:Array (Option Value)} {y8 y9 za zc qy zd:Value}
  (lR:PySem.W.findIn K (.ref ar) "__init__"=some (some (.ref j6)))
  (lS:K.lookup j6=some ⟨y8,y3,.func (PySem.W.fnOf "__init__" "NoPaper.__init__" (dA gE) (dB gE) (dS gE) .none y9 za zc y4 qy zd),y6⟩)
  (lT:PySem.W.codeIn K qy "NoPaper.__init__"=true)
  (lU:PySem.W.keepIn K (.ref j6)=true)
  (lV:PySem.W.isFn K (.ref j6)=true)
  (lW:PySem.W.keepIn K (.ref ar)=true)
  (lX:PySem.W.findIn K (.ref ar) "__setattr__"=some (some (.builtin "object.__setattr__")))
  (lZ:PySem.W.mroIn K ar (.type "object")=some true)
  (j7:rR K ar (EW true) (OE true)=true)
  (ma:PySem.W.findIn K (.ref ar) "part"=some none)
  (md:PySem.W.findIn K (.ref ar) "at"=some none)
  (me:PySem.W.findIn K (.ref ar) "word"=some none)
  (oQ:IsT K "bool" (BU "bool"))
  (sZ:IsT K "int" Kh)
  (Hb:PySem.W.mroIn K ar (.ref ar)=some true)
  (fM:PySem.W.findIn K (.ref ar) "__getattribute__"=some (some (.builtin "BaseException.__getattribute__")))
  (fN:PySem.W.findIn K (.ref ar) "__getattr__"=some none)
  (fO:PySem.W.findIn K (.ref ar) "__class__"=some (some (.builtin "object.__class__")))
  (fP:PySem.W.mroIn K ar (.type "BaseException")=some true)
  (fQ:PySem.W.mroIn K ar (.type "object")=some true)
  (fR:PySem.W.hasDictIn K ar=true)
  (Hc:PySem.W.kitOne K (.ref ar) (.ref bU)=some true)
  (Hd:PySem.W.kitOne K (.ref ar) (.type "ValueError")=some true)
  (Uk:fT K ar "part")
  (n_b:fT K ar "at")
  (Ul:fT K ar "word")
  (He:PySem.W.kitOne K (.ref ar) (.ref ic)=some false)
  (jn:PySem.W.nsIn K mainGlobals "ALWAYS"=some (some (.ref b9)))
  (tJ:(b9 == sysModules)=false)
  (nC:K.lookup b9=some {cls:=.type "dict",data:=.dict ((vb (K.lookup b9)).map (EN w)).toArray (Wl (K.lookup b9))})
  (nE:B1 K (vb (K.lookup b9)) bp=true)
  (lP:PySem.W.nsIn K mainGlobals "ENDING"=some (some (.ref fL)))
  (mG:II K 9 (.ref fL) vd=true)
  (ib:PySem.W.nsIn K mainGlobals "FAULTING"=some (some (.ref dI)))
  (iN:II K 9 (.ref dI) qk=true)
  (oS:PySem.W.nsIn K mainGlobals "GOING"=some (some (.ref iM)))
  (oW:II K 9 (.ref iM) yu=true)
  (tD:PySem.W.nsIn K mainGlobals "LEFT"=some (some (.ref ia)))
  (Ao:(ia == sysModules)=false)
  (tK:K.lookup ia=some {cls:=.type "dict",data:=.dict ((vb (K.lookup ia)).map (EN w)).toArray (Wl (K.lookup ia))})
  (tL:B1 K (vb (K.lookup ia)) mr=true)
  (eY:PySem.W.nsIn K mainGlobals "OF_RECORDS"=some (some (.ref cD)))
  (fF:II K 9 (.ref cD) mS=true)
  (e7:PySem.W.nsIn K mainGlobals "ValueError"=some none)
  (z_all:PySem.W.nsIn K mainGlobals "all"=some none)
  (z_bool:PySem.W.nsIn K mainGlobals "bool"=some none)
  (z_dict:PySem.W.nsIn K mainGlobals "dict"=some none)
  (z_enumerate:PySem.W.nsIn K mainGlobals "enumerate"=some none)
  (z_int:PySem.W.nsIn K mainGlobals "int"=some none)
  (z_isinstance:PySem.W.nsIn K mainGlobals "isinstance"=some none)
  (z_len:PySem.W.nsIn K mainGlobals "len"=some none)
  (z_list:PySem.W.nsIn K mainGlobals "list"=some none)
  (z_max:PySem.W.nsIn K mainGlobals "max"=some none)
  (z_min:PySem.W.nsIn K mainGlobals "min"=some none)
  (z_range:PySem.W.nsIn K mainGlobals "range"=some none)
  (z_sum:PySem.W.nsIn K mainGlobals "sum"=some none)
  (z_tuple:PySem.W.nsIn K mainGlobals "tuple"=some none)
  (oO:PySem.W.nsIn K mainGlobals "zip"=some none)
  : ∃fd:FuncData,(∀(s:Shared) (v:Value),BindsTo s fd ⟨[v],[]⟩ [("_law_script",v)])/\∀base:Heap,K.In base->base.Ns mainGlobals mg->bK l.prog w K mg base bP 11 fa fd ["_law_script"] (sW K):=by
 have e:=hfa.symm.trans (aaY X G Xp);cases e;have F45:=vQ (st:=oq) Rx Xq Xr;have xw:=aav X G e7;have Us:=aav X G z_all;have y_bool:=aav X G z_bool;have Qj:=aav X G z_dict;have ze:=aav X G z_enumerate;have Cm:=aav X G z_int;have oX:=aav X G z_isinstance;have eK:=aav X G z_len;have Ap:=aav X G z_list;have Ut:=aav X G z_max;have Uu:=aav X G z_min;have j8:=aav X G z_range;have Uv:=aav X G z_sum;have xx:=aav X G z_tuple;have Hf:=aav X G oO;have Hg:=aaY X G jn;have Hh:=aaY X G lP;have Aq:=aaY X G ib;have K9:=aaY X G oS;have Qk:=aaY X G tD;have xy:=aaY X G eY;have vA:=aaY X G fu;have Hi:=aaY X G lQ;have uw:=aaY X G dY;have Hj:=yr tJ nC nE (by decide +kernel);have Hk:=rj (sv _ _ _ mG);have Ar:=rj (sv _ _ _ iN);have La:=rj (sv _ _ _ oW);have Ql:=yr Ao tK tL (by decide +kernel);have xA:=rj (sv _ _ _ fF);refine⟨PySem.W.fnOf "law" "law" (dA oq) (dB oq) (dS oq) .none Uo Up Uq Um Qi Ur,λs v=>.of_eq rfl,λbase _ _=>?_⟩;have z:Zk l.prog w K h mg base:=⟨X,G⟩;have tM:=vQ (st:=gE) lS lT lU;have As:=tM.binds (ps:=["self","part","at","word"]) λ_ _ _ _ _ _=>KC (λ_ _ _ _=>by rfl)
 have DB:OJ l.prog w K mg base ar ["part","at","word"]:=⟨⟨lX,⟨_,j7⟩,lZ⟩,ab0.mpr ⟨ma,ab0.mpr ⟨md,ab0.mpr ⟨me,List.forall_mem_nil _⟩⟩⟩,by decide,⟨_,_,⟨⟨_,j7⟩,lR,lV,lW⟩,wY tM,As⟩⟩;have zf:=aR z d0 (λF=>wZ F Ap) λ_ _ _ _ _ _=>IJ λ_=>by rfl
 have xB:=aR z d1 (λF=>ub F ) λ_ _ _ _ _ _=>zX λ_ _ _=>by rfl
 have ie:=aR z d2 (λF=>qS F xB) λ_ _ _ _ _ _=>zX λ_ _ _=>by rfl
 have dZ:=aR z d3 (λF=>sX F ) λ_ _ _ _ _ _=>ln2 λ_ _=>by rfl
 have zg:=aR z d4 (λF=>w6 F Cm eK xx dZ) λ_ _ _ _ _ _=>KC λ_ _ _ _=>by rfl
 have qz:=aR z d5 (λF=>w8 F eK Hf ie zg) λ_ _ _ _ _ _=>KC λ_ _ _ _=>by rfl
 have oY:=aR z d6 (λF=>ud F eK xx) λ_ _ _ _ _ _=>IJ λ_=>by rfl
 have xC:=aR z d7 (λF=>ue F ze qz oY) λ_ _ _ _ _ _=>ln2 λ_ _=>by rfl
 have ux:=aR z d8 (λF=>sY F eK j8 dZ) λ_ _ _ _ _ _=>ln2 λ_ _=>by rfl
 have xD:=aR z d9 (λF=>uf F eK j8 ie dZ ux) λ_ _ _ _ _ _=>zX λ_ _ _=>by rfl
 have iO:=aR z WO (λF=>xa F Cm) λ_ _ _ _ _ _=>IJ λ_=>by rfl
 have p6:=aR z WQ (λF=>oP F eK xD iO) λ_ _ _ _ _ _=>KC λ_ _ _ _=>by rfl
 have e8:=aR z WR (λF=>uh F ) λ_ _ _ _ _ _=>ln2 λ_ _=>by rfl
 have mf:=aR z WS (λF=>ko F eK Hf ie) λ_ _ _ _ _ _=>zX λ_ _ _=>by rfl
 have xE:=aR z WT (λF=>ui F eK p6 qz e8 mf iO) λ_ _ _ _ _ _=>Th λ_ _ _ _ _=>by rfl
 have zh:=aR z WU (λF=>xf F eK Uv e8) λ_ _ _ _ _ _=>ln2 λ_ _=>by rfl
 have qX:=aR z WV (λF=>pZ F Cm eK dZ iO) λ_ _ _ _ _ _=>Th λ_ _ _ _ _=>by rfl
 have qA:=aR z WW (λF=>xg F eK) λ_ _ _ _ _ _=>ln2 λ_ _=>by rfl
 have xF:=aR z WX (λF=>uj F Uu j8 qA e8) λ_ _ _ _ _ _=>IJ λ_=>by rfl
 have xG:=aR z WY (λF=>um F eK j8 dZ) λ_ _ _ _ _ _=>IJ λ_=>by rfl
 have zi:=aR z WZ (λF=>xh F eK j8 qA e8 xG) λ_ _ _ _ _ _=>ln2 λ_ _=>by rfl
 have qY:=aR z W0 (λF=>p5 F eK Ut j8 xE zh oY qX xF e8 zi iO) λ_ _ _ _ _ _=>IJ λ_=>by rfl
 have xH:=aR z W2 (λF=>uq F y_bool Cm oX oQ sZ) λ_ _ _ _ _ _=>IJ λ_=>by rfl
 have xI:=aR z W3 (λF=>ur F ) λ_ _ _ _ _ _=>zX λ_ _ _=>by rfl
 have Lb:=aR z W4 (λF=>G6 F eK xx) λ_ _ _ _ _ _=>ln2 λ_ _=>by rfl
 have qB:=aR z W5 (λF=>xl F ) λ_ _ _ _ _ _=>ln2 λ_ _=>by rfl
 have Au:=aR z W6 (λF=>yS F qB) λ_ _ _ _ _ _=>zX λ_ _ _=>by rfl
 have DE:=aR z W7 (λF=>Ai F Au) λ_ _ _ _ _ _=>zX λ_ _ _=>by rfl
 have uy:=aR z W8 (λF=>tw F Us eK Hf DE) λ_ _ _ _ _ _=>zX λ_ _ _=>by rfl
 have mh:=aR z W9 (λF=>xm F Ap qB) λ_ _ _ _ _ _=>ln2 λ_ _=>by rfl
 have zj:=aR z Xa (λF=>xo F eK mh) λ_ _ _ _ _ _=>ln2 λ_ _=>by rfl
 have nF:=aR z Xb (λF=>mK F mh zj) λ_ _ _ _ _ _=>ln2 λ_ _=>by rfl
 have Co:=aR z Xc (λF=>G7 F Ap Hg Hj nF) λ_ _ _ _ _ _=>zX λ_ _ _=>by rfl
 have zk:=aR z Xd (λF=>Dx F Qk Ql) λ_ _ _ _ _ _=>IJ λ_=>by rfl
 have Hl:=aR z Xe (λF=>Dy F eK uy Co zk) λ_ _ _ _ _ _=>KC λ_ _ _ _=>by rfl
 have DF:=aR z Xf (λF=>Ak F ) λ_ _ _ _ _ _=>ln2 λ_ _=>by rfl
 have j9:=aR z Xg (λF=>jo F mh) λ_ _ _ _ _ _=>zX λ_ _ _=>by rfl
 have zl:=aR z Xh (λF=>xq F xy xA (rA fF) j9 zk) λ_ _ _ _ _ _=>KC λ_ _ _ _=>by rfl
 have Av:=aR z Xi (λF=>yV F ) λ_ _ _ _ _ _=>zX λ_ _ _=>by rfl
 have tN:=aR z Xj (λF=>qV F eK Co zl Av) λ_ _ _ _ _ _=>KC λ_ _ _ _=>by rfl
 have Qm:=aR z Xk (λF=>K5 F Hh Hk (rA mG) Aq Ar (rA iN) K9 La (rA oW) DF tN) λ_ _ _ _ _ _=>KC λ_ _ _ _=>by rfl
 have uz:=aR z Xl (λF=>tH F vA fv DB Hl Qm) λ_ _ _ _ _ _=>Th λ_ _ _ _ _=>by rfl
 have Aw:=aR z Xm (λF=>yY F ) λ_ _ _ _ _ _=>Th λ_ _ _ _ _=>by rfl
 have Lc:=aR z Xn (λF=>Ha F Qj eK j8 xI Lb uz Aw) λ_ _ _ _ _ _=>zX λ_ _ _=>by rfl
 have zm:=aR z Xo (λF=>xu F xw oX vA fv Hi oU uw fD fE xH Lc Hb fM fN fO fP fQ fR Hc Hd Uk n_b Ul He) λ_ _ _ _ _ _=>zX λ_ _ _=>by rfl
 exact Qh (P:=l.prog) (w:=w) (base:=base) F45 zf xC qY zm
theorem walk{l:PySem.W.OpenLaw}{q:Program}{loose:List Str}{XP:(Str->Option Value)->Heap->Prop}{YP:World->Heap->Prop}{d:DefRec}{K:Params->aC}(hn:l.most=some 63)(hdf:d.params.defaults=[])
  (hY:∀(w:World) (h:Heap),YP w h->(K w.params).In h)
  (F:∀(w:World) (mg:Str->Option Value) (fa:Addr) (h:Heap),(K w.params).In h->h.Ns mainGlobals mg->mg d.name=some (.ref fa) ->
   ∃fd:FuncData,(∀(s:Shared) (u:Value),BindsTo s fd ⟨[u],[]⟩ [("_law_script",u)])/\∀base:Heap,(K w.params).In base->base.Ns mainGlobals mg->bK l.prog w (K w.params) mg base bP 11 fa fd ["_law_script"] (sW (K w.params))) :
  PySem.W.WalkO q loose XP YP l.row.toRowW d [] (λf vs=>PySem.call f vs) :=
 L2.Jr (n:=63) (k:=11) (x:="_law_script") (CX:=λ_=>bP) (sp:=λw=>sW (K w.params)) hn (by decide) hdf ⟨λ_=>rfl,by decide,by decide,rfl⟩ hY F (λ_ _ a ns hl _ hS=>⟨a,ns,rfl,hS,hl,λ_=>rfl⟩) λ_ _ _ _ _ z=>z
end Mine
noncomputable section
namespace MH
open PySem PySem.W L2 Mine
abbrev OF:=Program->Params->Obj
abbrev TF:=Program->Params->BT
abbrev r(a:Nat):Value:=.ref a
abbrev s(x:Str)(t:Tok):Value:=.str x t
abbrev i(n:Int):Value:=.int n 0
abbrev cF:Str:="/claim/cut.py"
def de(P:Params)(x:Str)(t:Tok)(v:Value):DictEntry:=⟨PyData.keyHash P x,.str x t,v⟩
abbrev fn(a b:Str)(e:Stmt)(dV kV doc pm:Value)(an:Option Addr)(cd ct:Value):FuncData:=PySem.W.fnOf a b (dA e) (dB e) (dS e) dV kV doc pm an cd ct
abbrev fx(g u:Nat)(a b:Str)(e:Stmt)(dV kV doc pm:Value)(an:Option Addr)(cd ct:Value):FuncData:=⟨a,b,dA e,.stmts (dB e),dS e,g,[],dV,kV,doc,pm,an,cd,ct,u⟩
abbrev tu(l:List Value):Obj:=⟨.type "tuple",none,.seq l.toArray 0,#[]⟩
abbrev nf(l:List Value):Obj:=⟨.none,none,.fields l.toArray,#[]⟩
abbrev co(l:List Value):Obj:=⟨.type "code",none,.fields l.toArray,#[]⟩
abbrev fm(l:List (Option Value)):Obj:=⟨.type "frame",none,.plain,l.toArray⟩
abbrev di(l:List DictEntry)(n:Nat):Obj:=⟨.type "dict",none,.dict l.toArray n,#[]⟩
abbrev fo(f:FuncData):Obj:=⟨.type "function",none,.func f,#[]⟩
abbrev no(f:FuncData):Obj:=⟨.none,none,.func f,#[]⟩
abbrev bn(o:Obj)(l r:BT):BT:=.node o l r
abbrev bl(o:Obj):BT:=.node o .nil .nil
abbrev af(o:OF)(l r:TF):TF:=λp P=>.node (o p P) (l p P) (r p P)
abbrev ai(o:OF):TF:=λp P=>.node (o p P) .nil .nil
abbrev ay:TF:=λ_ _=>.nil
abbrev f0_(a b:Str)(e:Stmt):FuncData:=fn a b e .none .none .none .none none .none .none
abbrev fS(g u:Nat)(a b:Str)(e:Stmt):FuncData:=fx g u a b e .none .none .none .none none .none .none
abbrev Hm:OF:=λ_ P=>boot_o_0 P
abbrev Hn:OF:=λ_ P=>boot_o_1 P
abbrev tO:OF:=λ_ P=>boot_o_10 P
abbrev Ho:OF:=λ_ P=>boot_o_2 P
abbrev b3_:OF:=λ_ P=>boot_o_3 P
abbrev Hq:OF:=λ_ P=>boot_o_4 P
abbrev Hr:OF:=λ_ P=>boot_o_5 P
abbrev Hs:OF:=λ_ P=>boot_o_6 P
abbrev Ht:OF:=λ_ P=>boot_o_7 P
abbrev Hu:OF:=λ_ P=>boot_o_8 P
abbrev Hv:OF:=λ_ P=>boot_o_9 P
abbrev pw:Program:=PySem.Challenge.pw_stackwarden_k51_straight_rows
def nI(p:Program):Env:={scope:=p.main.scope,locals:=mainNs,globals:=mainNs,cells:=[],code:=(.ref 13),frame:=some 14}
def cw(p:Program):Code:=.body (behindTheImports p) (nI p)
abbrev BF:List Frame:=[topFrame ⟨0,0,0,0⟩]
def eg(p:Program)(i n:Nat):List Stmt:=((behindTheImports p).drop i).take n
def cE(p:Program):Program:={p with main:={p.main with body:=[tf p 1,tf p 2,tf p 3,tf p 5,tf p 6,tf p 7,tf p 8,tf p 9,tf p 10,tf p 12,tf p 13,tf p 14,tf p 15,tf p 16,tf p 17,tf p 18,tf p 19,tf p 20,tf p 21,tf p 23,tf p 25,tf p 26,tf p 28,tf p 29,tf p 30,tf p 31,tf p 32,tf p 33,tf p 35,tf p 36,tf p 37,tf p 38,tf p 39,tf p 41,tf p 42,tf p 43,tf p 44,tf p 45,tf p 46,tf p 47,tf p 48,tf p 49,tf p 50,tf p 51,tf p 52,tf p 53,tf p 54,tf p 55,tf p 56,tf p 57,tf p 58,tf p 59,tf p 60,tf p 61,tf p 62,tf p 63,tf p 64,tf p 65,tf p 66]}}
abbrev ST(t:BT)(n k:Nat)(os:OsState):SharedT:=⟨t,n,{},Array.mk [],{},k,os⟩
abbrev SH(h:Heap)(k:Nat)(os:OsState):Shared:=⟨h,Array.mk [],{},k,os⟩
local macro_rules | `(tactic| walk_at "qk")=>`(tactic| ((try rewrite [Fast.te14364793385576792824]); (try rewrite [Fast.te10110043849684766642]); (try rewrite [Fast.te14374325043358763698]); (try rewrite [Fast.te15667345088766844465]); (try rewrite [Fast.te14082659384304107361]); (try rewrite [Fast.te11892475500146522536]); (try rewrite [Fast.te5160383126252970620]); (try rewrite [Fast.te3399658132070893891]); (try rewrite [Fast.te5991557255702980513]); (try rewrite [Fast.te10880121769531294198]); (try rewrite [Fast.te821141287760084731]); (try rewrite [Fast.te7409074990110511671]); (try rewrite [Fast.te13664370479719496447]); (try rewrite [Fast.te5923862056798008813]); (try rewrite [Fast.te14722251495701143533]); (try rewrite [Fast.te10994771534591457954]); (try rewrite [Fast.te479339242167458305]); (try rewrite [Fast.te16090120013241838585]); (try rewrite [Fast.te3247288618530077131]); (try rewrite [Fast.te2386780881361962483]); (try rewrite [Fast.te11698064438423848299]); (try rewrite [Fast.te7317090234206586261]); (try rewrite [Fast.te7369524293546568484]); (try rewrite [Fast.te8920871248978507458]); (try rewrite [PySem.W.R.mapR_eq]); kernel_rfl))
def o0:OF:=λp P=>tu []
def o1:OF:=λp P=>nf []
noncomputable def o2:OF:=λp P=>co [(s "<module>" 182),(s "<module>" 183),(s cF 184),(i 1),(i 0),(i 0),(i 0),(i 0),(r 11),(.bool false),(i 181),(r 12),.none,.none,.none,.none,(i 185),(i 1),(s cF 186)]
def o3:OF:=λp P=>fm [(some (r 13)),(some (r 3)),(some (r 3)),none,(some (s "__main__" 164)),none,(some (r 0))]
def H0(p:Program)(P:Params):Heap:=⟨Array.mk [boot_o_0 P,boot_o_1 P,boot_o_2 P,boot_o_3 P,boot_o_4 P,boot_o_5 P,boot_o_6 P,boot_o_7 P,boot_o_8 P,boot_o_9 P,boot_o_10 P,o0 p P,o1 p P,o2 p P,o3 p P],{}⟩
def dq0_(P:Params):List DictEntry:=[de P "__doc__" 166 .none,de P "__package__" 167 .none,de P "__loader__" 168 (.builtin "__main__.__loader__#opaque"),de P "__spec__" 169 .none,de P "__annotations__" 170 (r 6),de P "__builtins__" 171 (r 4),de P "__file__" 173 (s cF 172),de P "__cached__" 174 .none,de P "WardenError" 206 (r 24)]
def dq1_(P:Params):List DictEntry:=dq0_ P++[de P "NoPass" 235 (r 44)]
def dq2_(P:Params):List DictEntry:=dq1_ P++[de P "NoPaper" 264 (r 63),de P "elders_of" 275 (r 72),de P "fields_of" 285 (r 79),de P "is_under" 294 (r 86),de P "full_mask" 302 (r 93)]
def dq3_(P:Params):List DictEntry:=dq2_ P++[de P "is_kind" 310 (r 100),de P "beneath" 319 (r 107)]
def dq4_(P:Params):List DictEntry:=dq3_ P++[de P "ALWAYS" 384 (r 108)]
def dq5_(P:Params):List DictEntry:=dq4_ P++[de P "LEFT" 415 (r 152),de P "asked" 426 (r 159),de P "asked_of_records" 437 (r 166),de P "leaves" 444 (r 173),de P "catcher" 453 (r 180),de P "OF_RECORDS" 459 (r 181),de P "GOING" 463 (r 182),de P "ENDING" 467 (r 183),de P "FAULTING" 472 (r 184),de P "replaced" 483 (r 191)]
def dq6_(P:Params):List DictEntry:=dq5_ P++[de P "all_beneath" 491 (r 196),de P "stand_beneath" 500 (r 203),de P "entry" 512 (r 210),de P "breaks" 525 (r 217),de P "kinds_put" 536 (r 224),de P "kinds_put_of_records" 547 (r 231),de P "stand_behind" 561 (r 238),de P "outs" 576 (r 245),de P "is_stand" 584 (r 250),de P "check_form" 596 (r 257),de P "stand_at" 607 (r 264)]
def dq7_(P:Params):List DictEntry:=dq6_ P++[de P "stand_after" 621 (r 271),de P "check" 633 (r 278),de P "_law_mixed" 644 (r 285),de P "_law_cell" 652 (r 292),de P "_law_whole" 659 (r 299),de P "_law_fields" 668 (r 306),de P "_law_under" 677 (r 313),de P "_law_beneath" 686 (r 320),de P "_law_stand_beneath" 697 (r 327),de P "_law_does" 703 (r 332),de P "_law_done" 720 (r 339),de P "_law_entry" 727 (r 346)]
def dq8_(P:Params):List DictEntry:=dq7_ P++[de P "_law_kind" 737 (r 353),de P "_law_makes" 743 (r 358),de P "_law_sizes" 749 (r 363),de P "_law_part" 755 (r 368),de P "_law_word" 762 (r 375),de P "_law_wanted" 772 (r 382),de P "_law_eager" 784 (r 389),de P "_law_fork" 793 (r 396),de P "_law_candidate" 806 (r 403),de P "_law_block" 823 (r 410),de P "_law_free_row" 840 (r 417),de P "_law_copy" 846 (r 422)]
def dq9_(P:Params):List DictEntry:=dq8_ P++[de P "_law_told" 858 (r 429),de P "_law_straight" 864 (r 434),de P "_law_first" 876 (r 441),de P "law" 887 (r 448)]
def o4:OF:=λp P=>di (de P "__name__" 165 (s "stackwarden.errors" 187)::dq0_ P) 10
def o5:OF:=λp P=>nf [(i 2),(i 0),(r 20)]
def o6:OF:=λp P=>tu [(.type "ValueError")]
def o7:OF:=λp P=>⟨(.type "builtin_function_or_method"),none,(.fields #[(.builtin "type.__prepare__"),(.type "type")]),#[]⟩
noncomputable def o8:OF:=λp P=>di [de P "__module__" 196 (s "stackwarden.errors" 187),de P "__qualname__" 198 (s "WardenError" 197),de P "__firstlineno__" 200 (.int 2 199),de P "__static_attributes__" 201 (r 22)] 4
noncomputable def o9:OF:=λp P=>co [(s "WardenError" 191),(s "WardenError" 192),(s cF 193),(i 2),(i 0),(i 0),(i 0),(i 0),(r 18),(.bool false),(i 181),(r 19),.none,.none,.none,.none,(i 194),(i 2),(s cF 195)]
def qT:OF:=λp P=>fm [(some (r 20)),(some (r 3)),(some (r 17)),none,(some (s "stackwarden.errors" 187)),none,(some (r 0))]
noncomputable def Ec:OF:=λp P=>di [de P "__module__" 196 (s "stackwarden.errors" 187),de P "__firstlineno__" 200 (.int 2 199),de P "__static_attributes__" 201 (r 22),de P "__weakref__" 203 (r 25),de P "__doc__" 204 .none] 3
noncomputable def o12:OF:=λp P=>⟨(.type "type"),none,(.cls {name:="WardenError",bases:=[(.type "ValueError")],mro:=[(r 24),(.type "ValueError"),(.type "Exception"),(.type "BaseException"),(.type "object")],ns:=23,qualname:="WardenError"}),#[(some (r 15)),none,(some (s "WardenError" 189)),(some (s "WardenError" 197)),(some (.builtin "ValueError.__new__")),(some (.bool true))]⟩
noncomputable def Ed:OF:=λp P=>⟨(.type "getset_descriptor"),none,(.fields #[(s "__weakref__" 202),(r 24),(.builtin "ExceptionGroup.__weakref__"),.none]),#[]⟩
def Hw:OF:=λp P=>⟨(.type "super"),none,(.fields #[(r 24),(r 24),(r 24)]),#[]⟩
def Hx:OF:=λp P=>⟨(.type "builtin_function_or_method"),none,(.fields #[(.builtin "object.__init_subclass__"),(r 24)]),#[]⟩
def o16:OF:=λp P=>di (de P "__name__" 165 (s "stackwarden.errors" 187)::dq1_ P) 11
def o17:OF:=λp P=>nf [(i 2),(i 0),(r 20),(i 4),(i 0),(r 33)]
noncomputable def o18:OF:=λp P=>⟨(.type "type"),none,(.cls {name:="WardenError",bases:=[(.type "ValueError")],mro:=[(r 24),(.type "ValueError"),(.type "Exception"),(.type "BaseException"),(.type "object")],ns:=23,qualname:="WardenError",subclasses:=[(r 44)]}),#[(some (r 15)),none,(some (s "WardenError" 189)),(some (s "WardenError" 197)),(some (.builtin "ValueError.__new__")),(some (.bool true))]⟩
def vB:OF:=λp P=>tu [(r 24)]
noncomputable def IP:OF:=λp P=>di [de P "__module__" 214 (s "stackwarden.errors" 187),de P "__qualname__" 216 (s "NoPass" 215),de P "__firstlineno__" 218 (.int 4 217),de P "__init__" 228 (r 41),de P "__static_attributes__" 232 (r 42)] 5
def IQ:OF:=λp P=>nf [(i 6),(i 4),(r 40)]
noncomputable def Le:OF:=λp P=>co [(s "NoPass" 209),(s "NoPass" 210),(s cF 211),(i 4),(i 0),(i 0),(i 0),(i 0),(r 31),(.bool false),(i 181),(r 32),.none,.none,.none,.none,(i 212),(i 4),(s cF 213)]
def Lf:OF:=λp P=>fm [(some (r 33)),(some (r 3)),(some (r 30)),none,(some (s "stackwarden.errors" 187)),none,(some (r 0))]
def IS:OF:=λp P=>tu [(s "self" 222),(s "part" 223),(s "at" 224),(s "word" 225)]
def IT:OF:=λp P=>no (fS 0 0 "__init__" "NoPass.__init__" (inner (tf p 2)))
noncomputable def Hy:OF:=λp P=>co [(s "__init__" 219),(s "NoPass.__init__" 220),(s cF 221),(i 6),(i 4),(i 0),(i 0),(i 3),(r 35),(.bool true),(i 181),(r 36),.none,(r 37),(r 38),(r 39),(i 226),(i 6),(s cF 227)]
def Hz:OF:=λp P=>fo (fn "__init__" "NoPass.__init__" (inner (tf p 2)) .none .none .none (s "stackwarden.errors" 187) none (r 40) .none)
def HA:OF:=λp P=>tu [(s "at" 229),(s "part" 230),(s "word" 231)]
noncomputable def HB:OF:=λp P=>di [de P "__module__" 214 (s "stackwarden.errors" 187),de P "__firstlineno__" 218 (.int 4 217),de P "__init__" 228 (r 41),de P "__static_attributes__" 232 (r 42),de P "__doc__" 233 .none] 2
noncomputable def IU:OF:=λp P=>⟨(.type "type"),none,(.cls {name:="NoPass",bases:=[(r 24)],mro:=[(r 44),(r 24),(.type "ValueError"),(.type "Exception"),(.type "BaseException"),(.type "object")],ns:=43,qualname:="NoPass"}),#[(some (r 28)),none,(some (s "NoPass" 207)),(some (s "NoPass" 215)),(some (.builtin "ValueError.__new__")),(some (.bool true))]⟩
def Lg:OF:=λp P=>⟨(.type "super"),none,(.fields #[(r 44),(r 44),(r 44)]),#[]⟩
def IV:OF:=λp P=>⟨(.type "builtin_function_or_method"),none,(.fields #[(.builtin "object.__init_subclass__"),(r 44)]),#[]⟩
def o33:OF:=λp P=>di (de P "__name__" 165 (s "stackwarden.kinds" 265)::dq2_ P) 16
noncomputable def o34:OF:=λp P=>nf [(i 2),(i 0),(r 20),(i 4),(i 0),(r 33),(i 10),(i 0),(r 52),(i 17),(i 0),(r 71),(i 23),(i 0),(r 78),(i 28),(i 0),(r 85),(i 30),(i 0),(r 92)]
noncomputable def IW:OF:=λp P=>⟨(.type "type"),none,(.cls {name:="WardenError",bases:=[(.type "ValueError")],mro:=[(r 24),(.type "ValueError"),(.type "Exception"),(.type "BaseException"),(.type "object")],ns:=23,qualname:="WardenError",subclasses:=[(r 44),(r 63)]}),#[(some (r 15)),none,(some (s "WardenError" 189)),(some (s "WardenError" 197)),(some (.builtin "ValueError.__new__")),(some (.bool true))]⟩
noncomputable def Lh:OF:=λp P=>di [de P "__module__" 243 (s "stackwarden.errors" 187),de P "__qualname__" 245 (s "NoPaper" 244),de P "__firstlineno__" 247 (.int 10 246),de P "__init__" 257 (r 60),de P "__static_attributes__" 261 (r 61)] 5
def Li:OF:=λp P=>nf [(i 12),(i 4),(r 59)]
noncomputable def Lj:OF:=λp P=>co [(s "NoPaper" 238),(s "NoPaper" 239),(s cF 240),(i 10),(i 0),(i 0),(i 0),(i 0),(r 50),(.bool false),(i 181),(r 51),.none,.none,.none,.none,(i 241),(i 10),(s cF 242)]
def Lk:OF:=λp P=>fm [(some (r 52)),(some (r 3)),(some (r 49)),none,(some (s "stackwarden.errors" 187)),none,(some (r 0))]
def IX:OF:=λp P=>tu [(s "self" 251),(s "part" 252),(s "at" 253),(s "word" 254)]
def Ll:OF:=λp P=>no (fS 0 0 "__init__" "NoPaper.__init__" (inner (tf p 3)))
noncomputable def IY:OF:=λp P=>co [(s "__init__" 248),(s "NoPaper.__init__" 249),(s cF 250),(i 12),(i 4),(i 0),(i 0),(i 3),(r 54),(.bool true),(i 181),(r 55),.none,(r 56),(r 57),(r 58),(i 255),(i 12),(s cF 256)]
def Lm:OF:=λp P=>fo (fn "__init__" "NoPaper.__init__" (inner (tf p 3)) .none .none .none (s "stackwarden.errors" 187) none (r 59) .none)
def Ln:OF:=λp P=>tu [(s "at" 258),(s "part" 259),(s "word" 260)]
noncomputable def IZ:OF:=λp P=>di [de P "__module__" 243 (s "stackwarden.errors" 187),de P "__firstlineno__" 247 (.int 10 246),de P "__init__" 257 (r 60),de P "__static_attributes__" 261 (r 61),de P "__doc__" 262 .none] 2
noncomputable def I0:OF:=λp P=>⟨(.type "type"),none,(.cls {name:="NoPaper",bases:=[(r 24)],mro:=[(r 63),(r 24),(.type "ValueError"),(.type "Exception"),(.type "BaseException"),(.type "object")],ns:=62,qualname:="NoPaper"}),#[(some (r 47)),none,(some (s "NoPaper" 236)),(some (s "NoPaper" 244)),(some (.builtin "ValueError.__new__")),(some (.bool true))]⟩
def Lo:OF:=λp P=>⟨(.type "super"),none,(.fields #[(r 63),(r 63),(r 63)]),#[]⟩
def Nl:OF:=λp P=>⟨(.type "builtin_function_or_method"),none,(.fields #[(.builtin "object.__init_subclass__"),(r 63)]),#[]⟩
def Lp:OF:=λp P=>tu [(s "makes" 270),(s "c" 271),(s "elders" 272)]
def Nm:OF:=λp P=>no (fS 0 0 "elders_of" "elders_of" (tf p 5))
noncomputable def Lq:OF:=λp P=>co [(s "elders_of" 267),(s "elders_of" 268),(s cF 269),(i 17),(i 2),(i 0),(i 0),(i 3),(r 66),(.bool true),(i 181),(r 67),.none,(r 68),(r 69),(r 70),(i 273),(i 17),(s cF 274)]
def Lr:OF:=λp P=>fo (fn "elders_of" "elders_of" (tf p 5) .none .none .none (s "stackwarden.kinds" 265) none (r 71) .none)
def Ls:OF:=λp P=>tu [(s "makes" 279),(s "c" 280),(s "fields" 281),(s "elder" 282)]
def Qn:OF:=λp P=>no (fS 0 0 "fields_of" "fields_of" (tf p 6))
noncomputable def Lu:OF:=λp P=>co [(s "fields_of" 276),(s "fields_of" 277),(s cF 278),(i 23),(i 2),(i 0),(i 0),(i 3),(r 73),(.bool true),(i 181),(r 74),.none,(r 75),(r 76),(r 77),(i 283),(i 23),(s cF 284)]
def Lw:OF:=λp P=>fo (fn "fields_of" "fields_of" (tf p 6) .none .none .none (s "stackwarden.kinds" 265) none (r 78) .none)
def Lx:OF:=λp P=>tu [(s "makes" 289),(s "c" 290),(s "other" 291)]
def Nn:OF:=λp P=>no (fS 0 0 "is_under" "is_under" (tf p 7))
noncomputable def Ly:OF:=λp P=>co [(s "is_under" 286),(s "is_under" 287),(s cF 288),(i 28),(i 3),(i 0),(i 0),(i 3),(r 80),(.bool true),(i 181),(r 81),.none,(r 82),(r 83),(r 84),(i 292),(i 28),(s cF 293)]
def Lz:OF:=λp P=>fo (fn "is_under" "is_under" (tf p 7) .none .none .none (s "stackwarden.kinds" 265) none (r 85) .none)
def LA:OF:=λp P=>tu [(s "makes" 298),(s "c" 299)]
def Np:OF:=λp P=>no (fS 0 0 "full_mask" "full_mask" (tf p 8))
noncomputable def Nq:OF:=λp P=>co [(s "full_mask" 295),(s "full_mask" 296),(s cF 297),(i 30),(i 2),(i 0),(i 0),(i 3),(r 87),(.bool true),(i 181),(r 88),.none,(r 89),(r 90),(r 91),(i 300),(i 30),(s cF 301)]
def Nr:OF:=λp P=>fo (fn "full_mask" "full_mask" (tf p 8) .none .none .none (s "stackwarden.kinds" 265) none (r 92) .none)
def o65:OF:=λp P=>di (de P "__name__" 165 (s "stackwarden.asks" 320)::dq3_ P) 18
noncomputable def YX:OF:=λp P=>nf [(i 2),(i 0),(r 20),(i 4),(i 0),(r 33),(i 10),(i 0),(r 52),(i 17),(i 0),(r 71),(i 23),(i 0),(r 78),(i 28),(i 0),(r 85),(i 30),(i 0),(r 92),(i 32),(i 0),(r 99),(i 38),(i 0),(r 106)]
def Nt:OF:=λp P=>tu [(s "makes" 306),(s "kind" 307)]
def Qo:OF:=λp P=>no (fS 0 0 "is_kind" "is_kind" (tf p 9))
noncomputable def Nu:OF:=λp P=>co [(s "is_kind" 303),(s "is_kind" 304),(s cF 305),(i 32),(i 2),(i 0),(i 0),(i 3),(r 94),(.bool true),(i 181),(r 95),.none,(r 96),(r 97),(r 98),(i 308),(i 32),(s cF 309)]
def Nv:OF:=λp P=>fo (fn "is_kind" "is_kind" (tf p 9) .none .none .none (s "stackwarden.kinds" 265) none (r 99) .none)
def LB:OF:=λp P=>tu [(s "makes" 314),(s "kind" 315),(s "other" 316)]
def Nw:OF:=λp P=>no (fS 0 0 "beneath" "beneath" (tf p 10))
noncomputable def LC:OF:=λp P=>co [(s "beneath" 311),(s "beneath" 312),(s cF 313),(i 38),(i 3),(i 0),(i 0),(i 3),(r 101),(.bool true),(i 181),(r 102),.none,(r 103),(r 104),(r 105),(i 317),(i 38),(s cF 318)]
def LD:OF:=λp P=>fo (fn "beneath" "beneath" (tf p 10) .none .none .none (s "stackwarden.kinds" 265) none (r 106) .none)
def o75:OF:=λp P=>di (de P "__name__" 165 (s "stackwarden.asks" 320)::dq4_ P) 19
noncomputable def Ny:OF:=λp P=>di [de P "push" 322 (r 109),de P "load" 324 (r 110),de P "store" 326 (r 112),de P "dup" 329 (r 114),de P "swap" 332 (r 117),de P "drop" 336 (r 119),de P "add" 339 (r 122),de P "sub" 343 (r 125),de P "mul" 347 (r 128),de P "div" 351 (r 131),de P "rem" 355 (r 134),de P "less" 359 (r 137),de P "same" 363 (r 140),de P "jump" 367 (r 141),de P "zero" 369 (r 143),de P "kin" 372 (r 145),de P "make" 376 (r 146),de P "toss" 378 (r 149),de P "say" 380 (r 151)] 19
def Nz:OF:=λp P=>tu [(s "any" 327)]
def NA:OF:=λp P=>tu [(r 111)]
def NB:OF:=λp P=>tu [(s "any" 330)]
def NC:OF:=λp P=>tu [(r 113)]
def ND:OF:=λp P=>tu [(s "any" 333)]
def NF:OF:=λp P=>tu [(s "any" 334)]
def NG:OF:=λp P=>tu [(r 115),(r 116)]
def NH:OF:=λp P=>tu [(s "any" 337)]
def NI:OF:=λp P=>tu [(r 118)]
def NJ:OF:=λp P=>tu [(s "number" 340)]
def NK:OF:=λp P=>tu [(s "number" 341)]
def NL:OF:=λp P=>tu [(r 120),(r 121)]
def NM:OF:=λp P=>tu [(s "number" 344)]
def NN:OF:=λp P=>tu [(s "number" 345)]
def NO:OF:=λp P=>tu [(r 123),(r 124)]
def NP:OF:=λp P=>tu [(s "number" 348)]
def NQ:OF:=λp P=>tu [(s "number" 349)]
def NR:OF:=λp P=>tu [(r 126),(r 127)]
def Qp:OF:=λp P=>tu [(s "number" 352)]
def Qq:OF:=λp P=>tu [(s "number" 353)]
def Qr:OF:=λp P=>tu [(r 129),(r 130)]
def Qs:OF:=λp P=>tu [(s "number" 356)]
def Qt:OF:=λp P=>tu [(s "number" 357)]
def Ax:OF:=λp P=>tu [(r 132),(r 133)]
def Ay:OF:=λp P=>tu [(s "number" 360)]
def Az:OF:=λp P=>tu [(s "number" 361)]
def AD:OF:=λp P=>tu [(r 135),(r 136)]
def AF:OF:=λp P=>tu [(s "number" 364)]
def AH:OF:=λp P=>tu [(s "number" 365)]
def AJ:OF:=λp P=>tu [(r 138),(r 139)]
def AK:OF:=λp P=>tu [(s "number" 370)]
def AL:OF:=λp P=>tu [(r 142)]
def AM:OF:=λp P=>tu [(s "whole" 373),(.int 0 374)]
def AN:OF:=λp P=>tu [(r 144)]
def DG:OF:=λp P=>di [de P "toss" 378 (r 149),de P "say" 380 (r 151)] 2
def AQ:OF:=λp P=>tu [(s "number" 379)]
def AR:OF:=λp P=>tu [(r 148)]
def AU:OF:=λp P=>tu [(s "number" 381)]
def AV:OF:=λp P=>tu [(r 150)]
def Xs:OF:=λp P=>di (de P "__name__" 165 (s "stackwarden.stands" 484)::dq5_ P) 29
noncomputable def Xu:OF:=λp P=>nf [(i 2),(i 0),(r 20),(i 4),(i 0),(r 33),(i 10),(i 0),(r 52),(i 17),(i 0),(r 71),(i 23),(i 0),(r 78),(i 28),(i 0),(r 85),(i 30),(i 0),(r 92),(i 32),(i 0),(r 99),(i 38),(i 0),(r 106),(i 51),(i 0),(r 158),(i 61),(i 0),(r 165),(i 72),(i 0),(r 172),(i 74),(i 0),(r 179),(i 84),(i 0),(r 190)]
noncomputable def DH:OF:=λp P=>di [de P "store" 385 (.int 0 386),de P "dup" 387 (.int 2 388),de P "swap" 389 (.int 2 390),de P "drop" 391 (.int 0 392),de P "jump" 393 (.int 0 394),de P "zero" 395 (.int 0 396),de P "put" 397 (.int 0 398),de P "toss" 399 (.int 0 400),de P "say" 401 (.int 0 402),de P "give" 403 (.int 0 404)] 10
def DJ:OF:=λp P=>tu [(s "book" 419),(s "part" 420),(s "row" 421),(s "sign" 422),(s "parts" 423)]
def HC:OF:=λp P=>no (fS 0 0 "asked" "asked" (tf p 14))
noncomputable def DK:OF:=λp P=>co [(s "asked" 416),(s "asked" 417),(s cF 418),(i 51),(i 3),(i 0),(i 0),(i 3),(r 153),(.bool true),(i 181),(r 154),.none,(r 155),(r 156),(r 157),(i 424),(i 51),(s cF 425)]
def DL:OF:=λp P=>fo (fn "asked" "asked" (tf p 14) .none .none .none (s "stackwarden.asks" 320) none (r 158) .none)
def DM:OF:=λp P=>tu [(s "makes" 430),(s "row" 431),(s "sign" 432),(s "c" 433),(s "field" 434)]
def HD:OF:=λp P=>no (fS 0 0 "asked_of_records" "asked_of_records" (tf p 15))
noncomputable def DN:OF:=λp P=>co [(s "asked_of_records" 427),(s "asked_of_records" 428),(s cF 429),(i 61),(i 2),(i 0),(i 0),(i 3),(r 160),(.bool true),(i 181),(r 161),.none,(r 162),(r 163),(r 164),(i 435),(i 61),(s cF 436)]
def DP:OF:=λp P=>fo (fn "asked_of_records" "asked_of_records" (tf p 15) .none .none .none (s "stackwarden.asks" 320) none (r 165) .none)
def AW:OF:=λp P=>tu [(s "row" 441)]
def DQ:OF:=λp P=>no (fS 0 0 "leaves" "leaves" (tf p 16))
noncomputable def AX:OF:=λp P=>co [(s "leaves" 438),(s "leaves" 439),(s cF 440),(i 72),(i 1),(i 0),(i 0),(i 3),(r 167),(.bool true),(i 181),(r 168),.none,(r 169),(r 170),(r 171),(i 442),(i 72),(s cF 443)]
def AY:OF:=λp P=>fo (fn "leaves" "leaves" (tf p 16) .none .none .none (s "stackwarden.asks" 320) none (r 172) .none)
def AZ:OF:=λp P=>tu [(s "stretches" 448),(s "at" 449),(s "stretch" 450)]
def DR:OF:=λp P=>no (fS 0 0 "catcher" "catcher" (tf p 17))
noncomputable def A1:OF:=λp P=>co [(s "catcher" 445),(s "catcher" 446),(s cF 447),(i 74),(i 2),(i 0),(i 0),(i 3),(r 174),(.bool true),(i 181),(r 175),.none,(r 176),(r 177),(r 178),(i 451),(i 74),(s cF 452)]
def A2:OF:=λp P=>fo (fn "catcher" "catcher" (tf p 17) .none .none .none (s "stackwarden.asks" 320) none (r 179) .none)
def A4:OF:=λp P=>tu [(s "make" 454),(s "fill" 455),(s "begin" 456),(s "get" 457),(s "put" 458)]
def A5:OF:=λp P=>tu [(s "jump" 460),(s "zero" 461),(s "kin" 462)]
def A6:OF:=λp P=>tu [(s "jump" 464),(s "toss" 465),(s "give" 466)]
def A7:OF:=λp P=>tu [(s "div" 468),(s "rem" 469),(s "toss" 470),(s "call" 471)]
def A8:OF:=λp P=>tu [(s "some" 478),(s "spot" 479),(s "thing" 480)]
def DU:OF:=λp P=>no (fS 0 0 "replaced" "replaced" (tf p 23))
noncomputable def A9:OF:=λp P=>co [(s "replaced" 475),(s "replaced" 476),(s cF 477),(i 84),(i 3),(i 0),(i 0),(i 3),(r 185),(.bool true),(i 181),(r 186),.none,(r 187),(r 188),(r 189),(i 481),(i 84),(s cF 482)]
def Ba:OF:=λp P=>fo (fn "replaced" "replaced" (tf p 23) .none .none .none (s "stackwarden.spots" 473) none (r 190) .none)
def Xv:OF:=λp P=>di (de P "__name__" 165 (s "stackwarden.papers" 577)::dq6_ P) 40
noncomputable def Xw:OF:=λp P=>nf [(i 2),(i 0),(r 20),(i 4),(i 0),(r 33),(i 10),(i 0),(r 52),(i 17),(i 0),(r 71),(i 23),(i 0),(r 78),(i 28),(i 0),(r 85),(i 30),(i 0),(r 92),(i 32),(i 0),(r 99),(i 38),(i 0),(r 106),(i 51),(i 0),(r 158),(i 61),(i 0),(r 165),(i 72),(i 0),(r 172),(i 74),(i 0),(r 179),(i 84),(i 0),(r 190),(i 87),(i 0),(r 195),(i 91),(i 0),(r 202),(i 94),(i 0),(r 209),(i 98),(i 0),(r 216),(i 109),(i 0),(r 223),(i 124),(i 0),(r 230),(i 136),(i 0),(r 237),(i 144),(i 0),(r 244),(i 160),(i 0),(r 249),(i 164),(i 0),(r 256),(i 171),(i 0),(r 263)]
def LF:OF:=λp P=>no (fS 0 0 "all_beneath" "all_beneath" (tf p 25))
noncomputable def HE:OF:=λp P=>co [(s "all_beneath" 486),(s "all_beneath" 487),(s cF 488),(i 87),(i 3),(i 0),(i 0),(i 3),(r 192),(.bool true),(i 181),(r 193),.none,.none,.none,(r 194),(i 489),(i 87),(s cF 490)]
def HG:OF:=λp P=>fo (fn "all_beneath" "all_beneath" (tf p 25) .none .none .none (s "stackwarden.stands" 484) none (r 195) .none)
def HI:OF:=λp P=>tu [(s "makes" 495),(s "one" 496),(s "other" 497)]
def LG:OF:=λp P=>no (fS 0 0 "stand_beneath" "stand_beneath" (tf p 26))
noncomputable def HJ:OF:=λp P=>co [(s "stand_beneath" 492),(s "stand_beneath" 493),(s cF 494),(i 91),(i 3),(i 0),(i 0),(i 3),(r 197),(.bool true),(i 181),(r 198),.none,(r 199),(r 200),(r 201),(i 498),(i 91),(s cF 499)]
def HK:OF:=λp P=>fo (fn "stand_beneath" "stand_beneath" (tf p 26) .none .none .none (s "stackwarden.stands" 484) none (r 202) .none)
def HL:OF:=λp P=>tu [(s "book" 506),(s "part" 507),(s "takes" 508),(s "others" 509)]
def LH:OF:=λp P=>no (fS 0 0 "entry" "entry" (tf p 28))
noncomputable def HM:OF:=λp P=>co [(s "entry" 503),(s "entry" 504),(s cF 505),(i 94),(i 2),(i 0),(i 0),(i 3),(r 204),(.bool true),(i 181),(r 205),.none,(r 206),(r 207),(r 208),(i 510),(i 94),(s cF 511)]
def HN:OF:=λp P=>fo (fn "entry" "entry" (tf p 28) .none .none .none (s "stackwarden.flow" 501) none (r 209) .none)
def HP:OF:=λp P=>tu [(s "book" 516),(s "part" 517),(s "at" 518),(s "stand" 519),(s "row" 520),(s "wanted" 521),(s "under" 522)]
def LI:OF:=λp P=>no (fS 0 0 "breaks" "breaks" (tf p 29))
noncomputable def HQ:OF:=λp P=>co [(s "breaks" 513),(s "breaks" 514),(s cF 515),(i 98),(i 4),(i 0),(i 0),(i 3),(r 211),(.bool true),(i 181),(r 212),.none,(r 213),(r 214),(r 215),(i 523),(i 98),(s cF 524)]
def HR:OF:=λp P=>fo (fn "breaks" "breaks" (tf p 29) .none .none .none (s "stackwarden.flow" 501) none (r 216) .none)
def HS:OF:=λp P=>tu [(s "book" 529),(s "row" 530),(s "boxes" 531),(s "took" 532),(s "sign" 533)]
def LJ:OF:=λp P=>no (fS 0 0 "kinds_put" "kinds_put" (tf p 30))
noncomputable def HU:OF:=λp P=>co [(s "kinds_put" 526),(s "kinds_put" 527),(s cF 528),(i 109),(i 4),(i 0),(i 0),(i 3),(r 218),(.bool true),(i 181),(r 219),.none,(r 220),(r 221),(r 222),(i 534),(i 109),(s cF 535)]
def HV:OF:=λp P=>fo (fn "kinds_put" "kinds_put" (tf p 30) .none .none .none (s "stackwarden.flow" 501) none (r 223) .none)
def HW:OF:=λp P=>tu [(s "makes" 540),(s "row" 541),(s "took" 542),(s "sign" 543),(s "c" 544)]
def LK:OF:=λp P=>no (fS 0 0 "kinds_put_of_records" "kinds_put_of_records" (tf p 31))
noncomputable def HY:OF:=λp P=>co [(s "kinds_put_of_records" 537),(s "kinds_put_of_records" 538),(s cF 539),(i 124),(i 3),(i 0),(i 0),(i 3),(r 225),(.bool true),(i 181),(r 226),.none,(r 227),(r 228),(r 229),(i 545),(i 124),(s cF 546)]
noncomputable def DW:OF:=λp P=>fo (fn "kinds_put_of_records" "kinds_put_of_records" (tf p 31) .none .none .none (s "stackwarden.flow" 501) none (r 230) .none)
noncomputable def DY:OF:=λp P=>tu [(s "book" 551),(s "part" 552),(s "row" 553),(s "stand" 554),(s "boxes" 555),(s "under" 556),(s "took" 557),(s "stack" 558)]
def HZ:OF:=λp P=>no (fS 0 0 "stand_behind" "stand_behind" (tf p 32))
noncomputable def DZ:OF:=λp P=>co [(s "stand_behind" 548),(s "stand_behind" 549),(s cF 550),(i 136),(i 4),(i 0),(i 0),(i 3),(r 232),(.bool true),(i 181),(r 233),.none,(r 234),(r 235),(r 236),(i 559),(i 136),(s cF 560)]
def D1:OF:=λp P=>fo (fn "stand_behind" "stand_behind" (tf p 32) .none .none .none (s "stackwarden.flow" 501) none (r 237) .none)
noncomputable def D2:OF:=λp P=>tu [(s "book" 565),(s "part" 566),(s "at" 567),(s "stand" 568),(s "row" 569),(s "sign" 570),(s "told" 571),(s "behind" 572),(s "caught" 573)]
def Ia:OF:=λp P=>no (fS 0 0 "outs" "outs" (tf p 33))
noncomputable def D3:OF:=λp P=>co [(s "outs" 562),(s "outs" 563),(s cF 564),(i 144),(i 4),(i 0),(i 0),(i 3),(r 239),(.bool true),(i 181),(r 240),.none,(r 241),(r 242),(r 243),(i 574),(i 144),(s cF 575)]
def D4:OF:=λp P=>fo (fn "outs" "outs" (tf p 33) .none .none .none (s "stackwarden.flow" 501) none (r 244) .none)
def Ib:OF:=λp P=>no (fS 0 0 "is_stand" "is_stand" (tf p 35))
noncomputable def D5:OF:=λp P=>co [(s "is_stand" 579),(s "is_stand" 580),(s cF 581),(i 160),(i 3),(i 0),(i 0),(i 3),(r 246),(.bool true),(i 181),(r 247),.none,.none,.none,(r 248),(i 582),(i 160),(s cF 583)]
def D6:OF:=λp P=>fo (fn "is_stand" "is_stand" (tf p 35) .none .none .none (s "stackwarden.papers" 577) none (r 249) .none)
def D7:OF:=λp P=>tu [(s "book" 588),(s "part" 589),(s "papers" 590),(s "least" 591),(s "paper" 592),(s "at" 593)]
def Ic:OF:=λp P=>no (fS 0 0 "check_form" "check_form" (tf p 36))
noncomputable def D8:OF:=λp P=>co [(s "check_form" 585),(s "check_form" 586),(s cF 587),(i 164),(i 3),(i 0),(i 0),(i 3),(r 251),(.bool true),(i 181),(r 252),.none,(r 253),(r 254),(r 255),(i 594),(i 164),(s cF 595)]
def Ie:OF:=λp P=>fo (fn "check_form" "check_form" (tf p 36) .none .none .none (s "stackwarden.papers" 577) none (r 256) .none)
def Ig:OF:=λp P=>tu [(s "book" 600),(s "part" 601),(s "at" 602),(s "came" 603),(s "kept" 604)]
def LL:OF:=λp P=>no (fS 0 0 "stand_at" "stand_at" (tf p 37))
noncomputable def Ih:OF:=λp P=>co [(s "stand_at" 597),(s "stand_at" 598),(s cF 599),(i 171),(i 5),(i 0),(i 0),(i 3),(r 258),(.bool true),(i 181),(r 259),.none,(r 260),(r 261),(r 262),(i 605),(i 171),(s cF 606)]
def Ii:OF:=λp P=>fo (fn "stand_at" "stand_at" (tf p 37) .none .none .none (s "stackwarden.papers" 577) none (r 263) .none)
def Xx:OF:=λp P=>di (de P "__name__" 165 (s "law_stackwarden_k51_straight_rows" 634)::dq7_ P) 52
noncomputable def Xy:OF:=λp P=>nf [(i 2),(i 0),(r 20),(i 4),(i 0),(r 33),(i 10),(i 0),(r 52),(i 17),(i 0),(r 71),(i 23),(i 0),(r 78),(i 28),(i 0),(r 85),(i 30),(i 0),(r 92),(i 32),(i 0),(r 99),(i 38),(i 0),(r 106),(i 51),(i 0),(r 158),(i 61),(i 0),(r 165),(i 72),(i 0),(r 172),(i 74),(i 0),(r 179),(i 84),(i 0),(r 190),(i 87),(i 0),(r 195),(i 91),(i 0),(r 202),(i 94),(i 0),(r 209),(i 98),(i 0),(r 216),(i 109),(i 0),(r 223),(i 124),(i 0),(r 230),(i 136),(i 0),(r 237),(i 144),(i 0),(r 244),(i 160),(i 0),(r 249),(i 164),(i 0),(r 256),(i 171),(i 0),(r 263),(i 177),(i 0),(r 270),(i 190),(i 0),(r 277),(i 199),(i 0),(r 284),(i 203),(i 0),(r 291),(i 207),(i 0),(r 298),(i 209),(i 0),(r 305),(i 215),(i 0),(r 312),(i 219),(i 0),(r 319),(i 227),(i 0),(r 326),(i 234),(i 0),(r 331),(i 269),(i 0),(r 338),(i 283),(i 0),(r 345)]
noncomputable def LM:OF:=λp P=>tu [(s "book" 611),(s "part" 612),(s "at" 613),(s "stand" 614),(s "kept" 615),(s "word" 616),(s "behind" 617),(s "lead" 618)]
def Qu:OF:=λp P=>no (fS 0 0 "stand_after" "stand_after" (tf p 38))
noncomputable def LN:OF:=λp P=>co [(s "stand_after" 608),(s "stand_after" 609),(s cF 610),(i 177),(i 5),(i 0),(i 0),(i 3),(r 265),(.bool true),(i 181),(r 266),.none,(r 267),(r 268),(r 269),(i 619),(i 177),(s cF 620)]
def LO:OF:=λp P=>fo (fn "stand_after" "stand_after" (tf p 38) .none .none .none (s "stackwarden.papers" 577) none (r 270) .none)
def LQ:OF:=λp P=>tu [(s "book" 625),(s "part" 626),(s "papers" 627),(s "kept" 628),(s "stand" 629),(s "at" 630)]
def Qv:OF:=λp P=>no (fS 0 0 "check" "check" (tf p 39))
noncomputable def LR:OF:=λp P=>co [(s "check" 622),(s "check" 623),(s cF 624),(i 190),(i 3),(i 0),(i 0),(i 3),(r 272),(.bool true),(i 181),(r 273),.none,(r 274),(r 275),(r 276),(i 631),(i 190),(s cF 632)]
def LS:OF:=λp P=>fo (fn "check" "check" (tf p 39) .none .none .none (s "stackwarden.papers" 577) none (r 277) .none)
def LU:OF:=λp P=>tu [(s "_law_cell_here" 639),(s "_law_k" 640),(s "_law_number" 641)]
def Qw:OF:=λp P=>no (fS 0 0 "_law_mixed" "_law_mixed" (tf p 41))
noncomputable def LV:OF:=λp P=>co [(s "_law_mixed" 636),(s "_law_mixed" 637),(s cF 638),(i 199),(i 2),(i 0),(i 0),(i 3),(r 279),(.bool true),(i 181),(r 280),.none,(r 281),(r 282),(r 283),(i 642),(i 199),(s cF 643)]
noncomputable def LW:OF:=λp P=>fo (fn "_law_mixed" "_law_mixed" (tf p 41) .none .none .none (s "law_stackwarden_k51_straight_rows" 634) none (r 284) .none)
def LX:OF:=λp P=>tu [(s "_law_script" 648),(s "_law_k" 649)]
def Qx:OF:=λp P=>no (fS 0 0 "_law_cell" "_law_cell" (tf p 42))
noncomputable def LY:OF:=λp P=>co [(s "_law_cell" 645),(s "_law_cell" 646),(s cF 647),(i 203),(i 2),(i 0),(i 0),(i 3),(r 286),(.bool true),(i 181),(r 287),.none,(r 288),(r 289),(r 290),(i 650),(i 203),(s cF 651)]
def LZ:OF:=λp P=>fo (fn "_law_cell" "_law_cell" (tf p 42) .none .none .none (s "law_stackwarden_k51_straight_rows" 634) none (r 291) .none)
def Ij:OF:=λp P=>tu [(s "_law_found" 656)]
def L3:OF:=λp P=>no (fS 0 0 "_law_whole" "_law_whole" (tf p 43))
noncomputable def Ik:OF:=λp P=>co [(s "_law_whole" 653),(s "_law_whole" 654),(s cF 655),(i 207),(i 1),(i 0),(i 0),(i 3),(r 293),(.bool true),(i 181),(r 294),.none,(r 295),(r 296),(r 297),(i 657),(i 207),(s cF 658)]
noncomputable def Il:OF:=λp P=>fo (fn "_law_whole" "_law_whole" (tf p 43) .none .none .none (s "law_stackwarden_k51_straight_rows" 634) none (r 298) .none)
def Im:OF:=λp P=>tu [(s "_law_makes_here" 663),(s "_law_c" 664),(s "_law_found" 665)]
def L4:OF:=λp P=>no (fS 0 0 "_law_fields" "_law_fields" (tf p 44))
noncomputable def Io:OF:=λp P=>co [(s "_law_fields" 660),(s "_law_fields" 661),(s cF 662),(i 209),(i 2),(i 0),(i 0),(i 3),(r 300),(.bool true),(i 181),(r 301),.none,(r 302),(r 303),(r 304),(i 666),(i 209),(s cF 667)]
noncomputable def Ip:OF:=λp P=>fo (fn "_law_fields" "_law_fields" (tf p 44) .none .none .none (s "law_stackwarden_k51_straight_rows" 634) none (r 305) .none)
def Iq:OF:=λp P=>tu [(s "_law_makes_here" 672),(s "_law_c" 673),(s "_law_other" 674)]
def L5:OF:=λp P=>no (fS 0 0 "_law_under" "_law_under" (tf p 45))
noncomputable def Ir:OF:=λp P=>co [(s "_law_under" 669),(s "_law_under" 670),(s cF 671),(i 215),(i 3),(i 0),(i 0),(i 3),(r 307),(.bool true),(i 181),(r 308),.none,(r 309),(r 310),(r 311),(i 675),(i 215),(s cF 676)]
noncomputable def Iu:OF:=λp P=>fo (fn "_law_under" "_law_under" (tf p 45) .none .none .none (s "law_stackwarden_k51_straight_rows" 634) none (r 312) .none)
def Iw:OF:=λp P=>tu [(s "_law_makes_here" 681),(s "_law_kind_here" 682),(s "_law_other" 683)]
def L6:OF:=λp P=>no (fS 0 0 "_law_beneath" "_law_beneath" (tf p 46))
noncomputable def Iy:OF:=λp P=>co [(s "_law_beneath" 678),(s "_law_beneath" 679),(s cF 680),(i 219),(i 3),(i 0),(i 0),(i 3),(r 314),(.bool true),(i 181),(r 315),.none,(r 316),(r 317),(r 318),(i 684),(i 219),(s cF 685)]
noncomputable def Iz:OF:=λp P=>fo (fn "_law_beneath" "_law_beneath" (tf p 46) .none .none .none (s "law_stackwarden_k51_straight_rows" 634) none (r 319) .none)
def L7:OF:=λp P=>tu [(s "_law_makes_here" 690),(s "_law_one" 691),(s "_law_other" 692),(s "_law_kind_here" 693),(s "_law_higher" 694)]
def Qy:OF:=λp P=>no (fS 0 0 "_law_stand_beneath" "_law_stand_beneath" (tf p 47))
noncomputable def L8:OF:=λp P=>co [(s "_law_stand_beneath" 687),(s "_law_stand_beneath" 688),(s cF 689),(i 227),(i 3),(i 0),(i 0),(i 3),(r 321),(.bool true),(i 181),(r 322),.none,(r 323),(r 324),(r 325),(i 695),(i 227),(s cF 696)]
noncomputable def L9:OF:=λp P=>fo (fn "_law_stand_beneath" "_law_stand_beneath" (tf p 47) .none .none .none (s "law_stackwarden_k51_straight_rows" 634) none (r 326) .none)
def Qz:OF:=λp P=>no (fS 0 0 "_law_does" "_law_does" (tf p 48))
noncomputable def Ma:OF:=λp P=>co [(s "_law_does" 698),(s "_law_does" 699),(s cF 700),(i 234),(i 4),(i 0),(i 0),(i 3),(r 328),(.bool true),(i 181),(r 329),.none,.none,.none,(r 330),(i 701),(i 234),(s cF 702)]
def Mb:OF:=λp P=>fo (fn "_law_does" "_law_does" (tf p 48) .none .none .none (s "law_stackwarden_k51_straight_rows" 634) none (r 331) .none)
noncomputable def Mc:OF:=λp P=>tu [(s "_law_book" 707),(s "_law_part_here" 708),(s "_law_row" 709),(s "_law_stand" 710),(s "_law_boxes" 711),(s "_law_stack" 712),(s "_law_asks" 713),(s "_law_puts" 714),(s "_law_deep" 715),(s "_law_kind_here" 716),(s "_law_higher" 717)]
def QA:OF:=λp P=>no (fS 0 0 "_law_done" "_law_done" (tf p 49))
noncomputable def Md:OF:=λp P=>co [(s "_law_done" 704),(s "_law_done" 705),(s cF 706),(i 269),(i 4),(i 0),(i 0),(i 3),(r 333),(.bool true),(i 181),(r 334),.none,(r 335),(r 336),(r 337),(i 718),(i 269),(s cF 719)]
def Me:OF:=λp P=>fo (fn "_law_done" "_law_done" (tf p 49) .none .none .none (s "law_stackwarden_k51_straight_rows" 634) none (r 338) .none)
def Mf:OF:=λp P=>tu [(s "_law_part_here" 724)]
def QB:OF:=λp P=>no (fS 0 0 "_law_entry" "_law_entry" (tf p 50))
noncomputable def Mg:OF:=λp P=>co [(s "_law_entry" 721),(s "_law_entry" 722),(s cF 723),(i 283),(i 1),(i 0),(i 0),(i 3),(r 340),(.bool true),(i 181),(r 341),.none,(r 342),(r 343),(r 344),(i 725),(i 283),(s cF 726)]
noncomputable def Mh:OF:=λp P=>fo (fn "_law_entry" "_law_entry" (tf p 50) .none .none .none (s "law_stackwarden_k51_straight_rows" 634) none (r 345) .none)
def Xz:OF:=λp P=>di (de P "__name__" 165 (s "law_stackwarden_k51_straight_rows" 634)::dq8_ P) 64
noncomputable def XA:OF:=λp P=>nf [(i 2),(i 0),(r 20),(i 4),(i 0),(r 33),(i 10),(i 0),(r 52),(i 17),(i 0),(r 71),(i 23),(i 0),(r 78),(i 28),(i 0),(r 85),(i 30),(i 0),(r 92),(i 32),(i 0),(r 99),(i 38),(i 0),(r 106),(i 51),(i 0),(r 158),(i 61),(i 0),(r 165),(i 72),(i 0),(r 172),(i 74),(i 0),(r 179),(i 84),(i 0),(r 190),(i 87),(i 0),(r 195),(i 91),(i 0),(r 202),(i 94),(i 0),(r 209),(i 98),(i 0),(r 216),(i 109),(i 0),(r 223),(i 124),(i 0),(r 230),(i 136),(i 0),(r 237),(i 144),(i 0),(r 244),(i 160),(i 0),(r 249),(i 164),(i 0),(r 256),(i 171),(i 0),(r 263),(i 177),(i 0),(r 270),(i 190),(i 0),(r 277),(i 199),(i 0),(r 284),(i 203),(i 0),(r 291),(i 207),(i 0),(r 298),(i 209),(i 0),(r 305),(i 215),(i 0),(r 312),(i 219),(i 0),(r 319),(i 227),(i 0),(r 326),(i 234),(i 0),(r 331),(i 269),(i 0),(r 338),(i 283),(i 0),(r 345),(i 285),(i 0),(r 352),(i 295),(i 0),(r 357),(i 307),(i 0),(r 362),(i 309),(i 0),(r 367),(i 317),(i 0),(r 374),(i 319),(i 0),(r 381),(i 327),(i 0),(r 388),(i 342),(i 0),(r 395),(i 349),(i 0),(r 402),(i 364),(i 0),(r 409),(i 377),(i 0),(r 416),(i 402),(i 0),(r 421)]
def QC:OF:=λp P=>tu [(s "_law_number" 731),(s "_law_sizes_here" 732),(s "_law_c" 733),(s "_law_way" 734)]
def Uw:OF:=λp P=>no (fS 0 0 "_law_kind" "_law_kind" (tf p 51))
noncomputable def QD:OF:=λp P=>co [(s "_law_kind" 728),(s "_law_kind" 729),(s cF 730),(i 285),(i 2),(i 0),(i 0),(i 3),(r 347),(.bool true),(i 181),(r 348),.none,(r 349),(r 350),(r 351),(i 735),(i 285),(s cF 736)]
def QE:OF:=λp P=>fo (fn "_law_kind" "_law_kind" (tf p 51) .none .none .none (s "law_stackwarden_k51_straight_rows" 634) none (r 352) .none)
def Ux:OF:=λp P=>no (fS 0 0 "_law_makes" "_law_makes" (tf p 52))
noncomputable def QF:OF:=λp P=>co [(s "_law_makes" 738),(s "_law_makes" 739),(s cF 740),(i 295),(i 1),(i 0),(i 0),(i 3),(r 354),(.bool true),(i 181),(r 355),.none,.none,.none,(r 356),(i 741),(i 295),(s cF 742)]
noncomputable def QG:OF:=λp P=>fo (fn "_law_makes" "_law_makes" (tf p 52) .none .none .none (s "law_stackwarden_k51_straight_rows" 634) none (r 357) .none)
def QH:OF:=λp P=>no (fS 0 0 "_law_sizes" "_law_sizes" (tf p 53))
noncomputable def Mi:OF:=λp P=>co [(s "_law_sizes" 744),(s "_law_sizes" 745),(s cF 746),(i 307),(i 1),(i 0),(i 0),(i 3),(r 359),(.bool true),(i 181),(r 360),.none,.none,.none,(r 361),(i 747),(i 307),(s cF 748)]
def Mj:OF:=λp P=>fo (fn "_law_sizes" "_law_sizes" (tf p 53) .none .none .none (s "law_stackwarden_k51_straight_rows" 634) none (r 362) .none)
def QI:OF:=λp P=>no (fS 0 0 "_law_part" "_law_part" (tf p 54))
noncomputable def Ml:OF:=λp P=>co [(s "_law_part" 750),(s "_law_part" 751),(s cF 752),(i 309),(i 2),(i 0),(i 0),(i 3),(r 364),(.bool true),(i 181),(r 365),.none,.none,.none,(r 366),(i 753),(i 309),(s cF 754)]
def Mm:OF:=λp P=>fo (fn "_law_part" "_law_part" (tf p 54) .none .none .none (s "law_stackwarden_k51_straight_rows" 634) none (r 367) .none)
def Mn:OF:=λp P=>tu [(s "_law_number" 759)]
def QJ:OF:=λp P=>no (fS 0 0 "_law_word" "_law_word" (tf p 55))
noncomputable def Mo:OF:=λp P=>co [(s "_law_word" 756),(s "_law_word" 757),(s cF 758),(i 317),(i 1),(i 0),(i 0),(i 3),(r 369),(.bool true),(i 181),(r 370),.none,(r 371),(r 372),(r 373),(i 760),(i 317),(s cF 761)]
def Mp:OF:=λp P=>fo (fn "_law_word" "_law_word" (tf p 55) .none .none .none (s "law_stackwarden_k51_straight_rows" 634) none (r 374) .none)
def Mq:OF:=λp P=>tu [(s "_law_makes_here" 766),(s "_law_kind_here" 767),(s "_law_kinds" 768),(s "_law_f" 769)]
def QK:OF:=λp P=>no (fS 0 0 "_law_wanted" "_law_wanted" (tf p 56))
noncomputable def Mr:OF:=λp P=>co [(s "_law_wanted" 763),(s "_law_wanted" 764),(s cF 765),(i 319),(i 2),(i 0),(i 0),(i 3),(r 376),(.bool true),(i 181),(r 377),.none,(r 378),(r 379),(r 380),(i 770),(i 319),(s cF 771)]
noncomputable def Ms:OF:=λp P=>fo (fn "_law_wanted" "_law_wanted" (tf p 56) .none .none .none (s "law_stackwarden_k51_straight_rows" 634) none (r 381) .none)
noncomputable def QL:OF:=λp P=>tu [(s "_law_makes_here" 776),(s "_law_stack" 777),(s "_law_rest" 778),(s "_law_kinds" 779),(s "_law_k" 780),(s "_law_f" 781)]
def Uy:OF:=λp P=>no (fS 0 0 "_law_eager" "_law_eager" (tf p 57))
noncomputable def QM:OF:=λp P=>co [(s "_law_eager" 773),(s "_law_eager" 774),(s cF 775),(i 327),(i 3),(i 0),(i 0),(i 3),(r 383),(.bool true),(i 181),(r 384),.none,(r 385),(r 386),(r 387),(i 782),(i 327),(s cF 783)]
def QN:OF:=λp P=>fo (fn "_law_eager" "_law_eager" (tf p 57) .none .none .none (s "law_stackwarden_k51_straight_rows" 634) none (r 388) .none)
def QO:OF:=λp P=>tu [(s "_law_rest" 788),(s "_law_entries" 789),(s "_law_goal" 790)]
def Uz:OF:=λp P=>no (fS 0 0 "_law_fork" "_law_fork" (tf p 58))
noncomputable def QP:OF:=λp P=>co [(s "_law_fork" 785),(s "_law_fork" 786),(s cF 787),(i 342),(i 2),(i 0),(i 0),(i 3),(r 390),(.bool true),(i 181),(r 391),.none,(r 392),(r 393),(r 394),(i 791),(i 342),(s cF 792)]
def QQ:OF:=λp P=>fo (fn "_law_fork" "_law_fork" (tf p 58) .none .none .none (s "law_stackwarden_k51_straight_rows" 634) none (r 395) .none)
noncomputable def QR:OF:=λp P=>tu [(s "_law_book" 797),(s "_law_stand" 798),(s "_law_number" 799),(s "_law_entries" 800),(s "_law_rest" 801),(s "_law_way" 802),(s "_law_plain" 803)]
def UA:OF:=λp P=>no (fS 0 0 "_law_candidate" "_law_candidate" (tf p 59))
noncomputable def QS:OF:=λp P=>co [(s "_law_candidate" 794),(s "_law_candidate" 795),(s cF 796),(i 349),(i 4),(i 0),(i 0),(i 3),(r 397),(.bool true),(i 181),(r 398),.none,(r 399),(r 400),(r 401),(i 804),(i 349),(s cF 805)]
noncomputable def QT:OF:=λp P=>fo (fn "_law_candidate" "_law_candidate" (tf p 59) .none .none .none (s "law_stackwarden_k51_straight_rows" 634) none (r 402) .none)
noncomputable def QU:OF:=λp P=>tu [(s "_law_book" 810),(s "_law_part_here" 811),(s "_law_start" 812),(s "_law_cells" 813),(s "_law_entries" 814),(s "_law_rows" 815),(s "_law_stand" 816),(s "_law_cell_here" 817),(s "_law_row" 818),(s "_law_word_here" 819),(s "_law_behind" 820)]
def UB:OF:=λp P=>no (fS 0 0 "_law_block" "_law_block" (tf p 60))
noncomputable def QV:OF:=λp P=>co [(s "_law_block" 807),(s "_law_block" 808),(s cF 809),(i 364),(i 5),(i 0),(i 0),(i 3),(r 404),(.bool true),(i 181),(r 405),.none,(r 406),(r 407),(r 408),(i 821),(i 364),(s cF 822)]
def QW:OF:=λp P=>fo (fn "_law_block" "_law_block" (tf p 60) .none .none .none (s "law_stackwarden_k51_straight_rows" 634) none (r 409) .none)
noncomputable def QX:OF:=λp P=>tu [(s "_law_book" 827),(s "_law_part_here" 828),(s "_law_number" 829),(s "_law_many" 830),(s "_law_stack" 831),(s "_law_rest" 832),(s "_law_c" 833),(s "_law_kind_here" 834),(s "_law_fields_here" 835),(s "_law_some" 836),(s "_law_sign" 837)]
def UC:OF:=λp P=>no (fS 0 0 "_law_free_row" "_law_free_row" (tf p 61))
noncomputable def QY:OF:=λp P=>co [(s "_law_free_row" 824),(s "_law_free_row" 825),(s cF 826),(i 377),(i 5),(i 0),(i 0),(i 3),(r 411),(.bool true),(i 181),(r 412),.none,(r 413),(r 414),(r 415),(i 838),(i 377),(s cF 839)]
noncomputable def QZ:OF:=λp P=>fo (fn "_law_free_row" "_law_free_row" (tf p 61) .none .none .none (s "law_stackwarden_k51_straight_rows" 634) none (r 416) .none)
def UD:OF:=λp P=>no (fS 0 0 "_law_copy" "_law_copy" (tf p 62))
noncomputable def Q0:OF:=λp P=>co [(s "_law_copy" 841),(s "_law_copy" 842),(s cF 843),(i 402),(i 1),(i 0),(i 0),(i 3),(r 418),(.bool true),(i 181),(r 419),.none,.none,.none,(r 420),(i 844),(i 402),(s cF 845)]
def Q3:OF:=λp P=>fo (fn "_law_copy" "_law_copy" (tf p 62) .none .none .none (s "law_stackwarden_k51_straight_rows" 634) none (r 421) .none)
def Q4:OF:=λp P=>di (de P "__name__" 165 (s "law_stackwarden_k51_straight_rows" 634)::dq9_ P) 68
noncomputable def UE:OF:=λp P=>nf [(i 2),(i 0),(r 20),(i 4),(i 0),(r 33),(i 10),(i 0),(r 52),(i 17),(i 0),(r 71),(i 23),(i 0),(r 78),(i 28),(i 0),(r 85),(i 30),(i 0),(r 92),(i 32),(i 0),(r 99),(i 38),(i 0),(r 106),(i 51),(i 0),(r 158),(i 61),(i 0),(r 165),(i 72),(i 0),(r 172),(i 74),(i 0),(r 179),(i 84),(i 0),(r 190),(i 87),(i 0),(r 195),(i 91),(i 0),(r 202),(i 94),(i 0),(r 209),(i 98),(i 0),(r 216),(i 109),(i 0),(r 223),(i 124),(i 0),(r 230),(i 136),(i 0),(r 237),(i 144),(i 0),(r 244),(i 160),(i 0),(r 249),(i 164),(i 0),(r 256),(i 171),(i 0),(r 263),(i 177),(i 0),(r 270),(i 190),(i 0),(r 277),(i 199),(i 0),(r 284),(i 203),(i 0),(r 291),(i 207),(i 0),(r 298),(i 209),(i 0),(r 305),(i 215),(i 0),(r 312),(i 219),(i 0),(r 319),(i 227),(i 0),(r 326),(i 234),(i 0),(r 331),(i 269),(i 0),(r 338),(i 283),(i 0),(r 345),(i 285),(i 0),(r 352),(i 295),(i 0),(r 357),(i 307),(i 0),(r 362),(i 309),(i 0),(r 367),(i 317),(i 0),(r 374),(i 319),(i 0),(r 381),(i 327),(i 0),(r 388),(i 342),(i 0),(r 395),(i 349),(i 0),(r 402),(i 364),(i 0),(r 409),(i 377),(i 0),(r 416),(i 402),(i 0),(r 421),(i 405),(i 0),(r 428),(i 419),(i 0),(r 433),(i 438),(i 0),(r 440),(i 447),(i 0),(r 447)]
noncomputable def Q5:OF:=λp P=>tu [(s "_law_book" 850),(s "_law_part_here" 851),(s "_law_papers" 852),(s "_law_told_here" 853),(s "_law_found" 854),(s "e" 855)]
def UG:OF:=λp P=>no (fS 0 0 "_law_told" "_law_told" (tf p 63))
noncomputable def Q6:OF:=λp P=>co [(s "_law_told" 847),(s "_law_told" 848),(s cF 849),(i 405),(i 3),(i 0),(i 0),(i 3),(r 423),(.bool true),(i 181),(r 424),.none,(r 425),(r 426),(r 427),(i 856),(i 405),(s cF 857)]
def Q7:OF:=λp P=>fo (fn "_law_told" "_law_told" (tf p 63) .none .none .none (s "law_stackwarden_k51_straight_rows" 634) none (r 428) .none)
def UH:OF:=λp P=>no (fS 0 0 "_law_straight" "_law_straight" (tf p 64))
noncomputable def Q8:OF:=λp P=>co [(s "_law_straight" 859),(s "_law_straight" 860),(s cF 861),(i 419),(i 1),(i 0),(i 0),(i 3),(r 430),(.bool true),(i 181),(r 431),.none,.none,.none,(r 432),(i 862),(i 419),(s cF 863)]
noncomputable def Q9:OF:=λp P=>fo (fn "_law_straight" "_law_straight" (tf p 64) .none .none .none (s "law_stackwarden_k51_straight_rows" 634) none (r 433) .none)
noncomputable def Ra:OF:=λp P=>tu [(s "_law_book" 868),(s "_law_part_here" 869),(s "_law_stand" 870),(s "_law_at" 871),(s "_law_row" 872),(s "_law_word_here" 873)]
def UI:OF:=λp P=>no (fS 0 0 "_law_first" "_law_first" (tf p 65))
noncomputable def Rb:OF:=λp P=>co [(s "_law_first" 865),(s "_law_first" 866),(s cF 867),(i 438),(i 2),(i 0),(i 0),(i 3),(r 435),(.bool true),(i 181),(r 436),.none,(r 437),(r 438),(r 439),(i 874),(i 438),(s cF 875)]
def Rc:OF:=λp P=>fo (fn "_law_first" "_law_first" (tf p 65) .none .none .none (s "law_stackwarden_k51_straight_rows" 634) none (r 440) .none)
def Rf:OF:=λp P=>tu [(s "_law_script" 880),(s "_law_book" 881),(s "_law_number" 882),(s "_law_due" 883),(s "_law_kept" 884)]
def UJ:OF:=λp P=>no (fS 0 0 "law" "law" (tf p 66))
noncomputable def Rg:OF:=λp P=>co [(s "law" 877),(s "law" 878),(s cF 879),(i 447),(i 1),(i 0),(i 0),(i 3),(r 442),(.bool true),(i 181),(r 443),.none,(r 444),(r 445),(r 446),(i 885),(i 447),(s cF 886)]
def Rh:OF:=λp P=>fo (fn "law" "law" (tf p 66) .none .none .none (s "law_stackwarden_k51_straight_rows" 634) none (r 447) .none)
noncomputable def T0:TF:=(af Hm (af Hn (af b3_ (ai Ht) (ai o0)) (af Hr (ai Hv) (ai o2))) (af Ho (af Hq (ai Hu) (ai o1)) (af Hs (ai tO) (ai o3))))
noncomputable def T1:TF:=(af Hm (af Hn (af o4 (af Ht (ai o6) (ai Ec)) (af o0 (ai o1) (ai Hx))) (af Hr (af Hv (ai o8) (ai Ed)) (af o2 (ai qT) ay))) (af Ho (af Hq (af Hu (ai o7) (ai o12)) (af o5 (ai o9) ay)) (af Hs (af tO (ai o0) (ai Hw)) (af o3 (ai o0) ay))))
noncomputable def T2:TF:=(af Hm (af Hn (af o16 (af Ht (af o6 (ai o0) ay) (af Ec (ai IT) ay)) (af o0 (af o1 (ai o0) ay) (af Hx (ai HB) ay))) (af Hr (af Hv (af o8 (ai Le) ay) (af Ed (ai Hz) ay)) (af o2 (af qT (ai IS) ay) (af o7 (ai Lg) ay)))) (af Ho (af Hq (af Hu (af o7 (ai IQ) ay) (af o18 (ai Hy) ay)) (af o17 (af o9 (ai o1) ay) (af vB (ai IU) ay))) (af Hs (af tO (af o0 (ai Lf) ay) (af Hw (ai HA) ay)) (af o3 (af o0 (ai o0) ay) (af IP (ai IV) ay)))))
noncomputable def u0:TF:=(af o7 (af Lg (ai Qn) ay) (af Ln (ai Nr) ay))
noncomputable def u1:TF:=(af vB (af IU (ai o0) ay) (af Lm (ai Nq) ay))
noncomputable def T3:TF:=(af Hm (af Hn (af o33 (af Ht (af o6 (af o0 (ai I0) ay) (af vB (ai Lw) ay)) (af Ec (af IT (ai Lq) ay) (af o1 (ai o0) ay))) (af o0 (af o1 (af o0 (ai o1) ay) (af Li (ai o0) ay)) (af Hx (af HB (ai Ls) ay) (af IY (ai Np) ay)))) (af Hr (af Hv (af o8 (af Le (ai Nl) ay) (af Lh (ai o1) ay)) (af Ed (af Hz (ai o0) ay) (af o0 (ai LA) ay))) (af o2 (af qT (af IS (ai o0) ay) (af Lk (ai Ly) ay)) u0))) (af Ho (af Hq (af Hu (af o7 (af IQ (ai Lo) ay) (af o7 (ai o0) ay)) (af IW (af Hy (ai Lr) ay) (af IX (ai o1) ay))) (af o34 (af o9 (af o1 (ai Lp) ay) (af Lj (ai Nn) ay)) u1)) (af Hs (af tO (af o0 (af Lf (ai o0) ay) (af o0 (ai Lx) ay)) (af Hw (af HA (ai o1) ay) (af Ll (ai o0) ay))) (af o3 (af o0 (af o0 (ai Nm) ay) (af o0 (ai Lz) ay)) (af IP (af IV (ai Lu) ay) (ai IZ))))))
noncomputable def T4:TF:=(af Hm (af Hn (af o65 (af Ht (af o6 (af o0 (ai I0) (ai o1)) (af vB (ai Lw) ay)) (af Ec (af IT (ai Lq) (ai LB)) (af o1 (ai o0) ay))) (af o0 (af o1 (af o0 (ai o1) (ai Nu)) (af Li (ai o0) ay)) (af Hx (af HB (ai Ls) (ai LD)) (af IY (ai Np) ay)))) (af Hr (af Hv (af o8 (af Le (ai Nl) (ai o0)) (af Lh (ai o1) ay)) (af Ed (af Hz (ai o0) (ai Nw)) (af o0 (ai LA) ay))) (af o2 (af qT (af IS (ai o0) (ai o0)) (af Lk (ai Ly) ay)) u0))) (af Ho (af Hq (af Hu (af o7 (af IQ (ai Lo) (ai Nt)) (af o7 (ai o0) ay)) (af IW (af Hy (ai Lr) (ai o0)) (af IX (ai o1) ay))) (af YX (af o9 (af o1 (ai Lp) (ai Nv)) (af Lj (ai Nn) ay)) u1)) (af Hs (af tO (af o0 (af Lf (ai o0) (ai Qo)) (af o0 (ai Lx) ay)) (af Hw (af HA (ai o1) (ai LC)) (af Ll (ai o0) ay))) (af o3 (af o0 (af o0 (ai Nm) (ai o1)) (af o0 (ai Lz) ay)) (af IP (af IV (ai Lu) ay) (af IZ (ai o0) ay))))))
noncomputable def T5:TF:=(af Hm (af Hn (af o75 (af Ht (af o6 (af o0 (af I0 (ai NQ) ay) (ai o1)) (af vB (af Lw (ai AL) ay) (ai Nz))) (af Ec (af IT (af Lq (ai Ay) ay) (ai LB)) (af o1 (af o0 (ai AV) ay) (ai NI)))) (af o0 (af o1 (af o0 (af o1 (ai Qr) ay) (ai Nu)) (af Li (af o0 (ai DG) ay) (ai ND))) (af Hx (af HB (af Ls (ai AH) ay) (ai LD)) (af IY (ai Np) (ai NM))))) (af Hr (af Hv (af o8 (af Le (af Nl (ai Qp) ay) (ai o0)) (af Lh (af o1 (ai AN) ay) (ai NB))) (af Ed (af Hz (af o0 (ai AD) ay) (ai Nw)) (af o0 (ai LA) (ai NK)))) (af o2 (af qT (af IS (af o0 (ai Qt) ay) (ai o0)) (af Lk (af Ly (ai AR) ay) (ai NG))) (af o7 (af Lg (af Qn (ai o0) ay) (ai o0)) (af Ln (ai Nr) (ai NO)))))) (af Ho (af Hq (af Hu (af o7 (af IQ (af Lo (ai NR) ay) (ai Nt)) (af o7 (af o0 (ai AM) ay) (ai NA))) (af IW (af Hy (af Lr (ai Az) ay) (ai o0)) (af IX (ai o1) (ai NJ)))) (af YX (af o9 (af o1 (af Lp (ai Qs) ay) (ai Nv)) (af Lj (af Nn (ai AQ) ay) (ai NF))) (af vB (af IU (af o0 (ai AJ) ay) (ai Ny)) (af Lm (ai Nq) (ai NN))))) (af Hs (af tO (af o0 (af Lf (af o0 (ai Qq) ay) (ai Qo)) (af o0 (af Lx (ai o0) ay) (ai NC))) (af Hw (af HA (af o1 (ai AF) ay) (ai LC)) (af Ll (ai o0) (ai NL)))) (af o3 (af o0 (af o0 (af Nm (ai Ax) ay) (ai o1)) (af o0 (af Lz (ai AU) ay) (ai NH))) (af IP (af IV (af Lu (ai AK) ay) (ai o0)) (af IZ (ai o0) (ai NP)))))))
noncomputable def T6:TF:=(af Hm (af Hn (af Xs (af Ht (af o6 (af o0 (af I0 (ai NQ) (ai Ba)) (af o1 (ai DL) ay)) (af vB (af Lw (ai AL) ay) (af Nz (ai o1) ay))) (af Ec (af IT (af Lq (ai Ay) ay) (af LB (ai o0) ay)) (af o1 (af o0 (ai AV) ay) (af NI (ai A6) ay)))) (af o0 (af o1 (af o0 (af o1 (ai Qr) ay) (af Nu (ai o0) ay)) (af Li (af o0 (ai DG) ay) (af ND (ai A1) ay))) (af Hx (af HB (af Ls (ai AH) ay) (af LD (ai DQ) ay)) (af IY (af Np (ai DJ) ay) (af NM (ai A8) ay))))) (af Hr (af Hv (af o8 (af Le (af Nl (ai Qp) ay) (af o0 (ai o1) ay)) (af Lh (af o1 (ai AN) ay) (af NB (ai o0) ay))) (af Ed (af Hz (af o0 (ai AD) ay) (af Nw (ai AW) ay)) (af o0 (af LA (ai o0) ay) (af NK (ai o0) ay)))) (af o2 (af qT (af IS (af o0 (ai Qt) ay) (af o0 (ai DN) ay)) (af Lk (af Ly (ai AR) ay) (af NG (ai A4) ay))) (af o7 (af Lg (af Qn (ai o0) ay) (af o0 (ai AY) ay)) (af Ln (af Nr (ai HC) ay) (af NO (ai DU) ay)))))) (af Ho (af Hq (af Hu (af o7 (af IQ (af Lo (ai NR) ay) (af Nt (ai o0) ay)) (af o7 (af o0 (ai AM) ay) (af NA (ai AZ) ay))) (af IW (af Hy (af Lr (ai Az) ay) (af o0 (ai o1) ay)) (af IX (af o1 (ai DH) ay) (af NJ (ai A7) ay)))) (af Xu (af o9 (af o1 (af Lp (ai Qs) ay) (af Nv (ai HD) ay)) (af Lj (af Nn (ai AQ) ay) (af NF (ai A2) ay))) (af vB (af IU (af o0 (ai AJ) ay) (af Ny (ai AX) ay)) (af Lm (af Nq (ai o0) ay) (af NN (ai o0) ay))))) (af Hs (af tO (af o0 (af Lf (af o0 (ai Qq) ay) (af Qo (ai DM) ay)) (af o0 (af Lx (ai o0) ay) (af NC (ai DR) ay))) (af Hw (af HA (af o1 (ai AF) ay) (af LC (ai o0) ay)) (af Ll (af o0 (ai o1) ay) (af NL (ai o1) ay)))) (af o3 (af o0 (af o0 (af Nm (ai Ax) ay) (af o1 (ai DP) ay)) (af o0 (af Lz (ai AU) ay) (af NH (ai A5) ay))) (af IP (af IV (af Lu (ai AK) ay) (af o0 (ai o0) ay)) (af IZ (af o0 (ai DK) ay) (af NP (ai A9) ay)))))))
noncomputable def T7:TF:=(af Hm (af Hn (af Xv (af Ht (af o6 (af o0 (af I0 (af NQ (ai Ic) ay) (ai Ba)) (af o1 (ai DL) (ai HU))) (af vB (af Lw (ai AL) (ai o0)) (af Nz (ai o1) (ai o0)))) (af Ec (af IT (af Lq (af Ay (ai Ih) ay) (ai HI)) (af LB (ai o0) (ai DW))) (af o1 (af o0 (ai AV) (ai LI)) (af NI (ai A6) (ai o1))))) (af o0 (af o1 (af o0 (af o1 (af Qr (ai o1) ay) (ai HE)) (af Nu (ai o0) (ai HW))) (af Li (af o0 (ai DG) (ai o0)) (af ND (ai A1) (ai Ia)))) (af Hx (af HB (af Ls (ai AH) (ai HK)) (af LD (ai DQ) (ai o0))) (af IY (af Np (ai DJ) (ai o1)) (af NM (ai A8) (ai o0)))))) (af Hr (af Hv (af o8 (af Le (af Nl (af Qp (ai Ie) ay) (ai o1)) (af o0 (ai o1) (ai o0))) (af Lh (af o1 (ai AN) (ai HM)) (af NB (ai o0) (ai D2)))) (af Ed (af Hz (af o0 (ai AD) (ai LG)) (af Nw (ai AW) (ai o1))) (af o0 (af LA (ai o0) (ai HR)) (af NK (ai o0) (ai D5))))) (af o2 (af qT (af IS (af o0 (af Qt (ai o0) ay) (ai o0)) (af o0 (ai DN) (ai LK))) (af Lk (af Ly (ai AR) (ai HP)) (af NG (ai A4) (ai D4)))) (af o7 (af Lg (af Qn (ai o0) (ai o1)) (af o0 (ai AY) (ai DZ))) (af Ln (af Nr (ai HC) (ai o0)) (af NO (ai DU) (ai D7))))))) (af Ho (af Hq (af Hu (af o7 (af IQ (af Lo (af NR (ai D8) ay) (ai o0)) (af Nt (ai o0) (ai HV))) (af o7 (af o0 (ai AM) (ai LH)) (af NA (ai AZ) (ai o1)))) (af IW (af Hy (af Lr (af Az (ai Ii) ay) (ai o0)) (af o0 (ai o1) (ai o0))) (af IX (af o1 (ai DH) (ai HQ)) (af NJ (ai A7) (ai Ib))))) (af Xw (af o9 (af o1 (af Lp (af Qs (ai Ig) ay) (ai HG)) (af Nv (ai HD) (ai o0))) (af Lj (af Nn (ai AQ) (ai o1)) (af NF (ai A2) (ai D3)))) (af vB (af IU (af o0 (ai AJ) (ai o0)) (af Ny (ai AX) (ai HZ))) (af Lm (af Nq (ai o0) (ai HS)) (af NN (ai o0) (ai o1)))))) (af Hs (af tO (af o0 (af Lf (af o0 (af Qq (ai o0) ay) (ai LF)) (af Qo (ai DM) (ai o1))) (af o0 (af Lx (ai o0) (ai HN)) (af NC (ai DR) (ai o0)))) (af Hw (af HA (af o1 (ai AF) (ai HJ)) (af LC (ai o0) (ai DY))) (af Ll (af o0 (ai o1) (ai o0)) (af NL (ai o1) (ai D6))))) (af o3 (af o0 (af o0 (af Nm (af Ax (ai LL) ay) (ai o1)) (af o1 (ai DP) (ai HY))) (af o0 (af Lz (ai AU) (ai o0)) (af NH (ai A5) (ai o0)))) (af IP (af IV (af Lu (ai AK) (ai HL)) (af o0 (ai o0) (ai D1))) (af IZ (af o0 (ai DK) (ai LJ)) (af NP (ai A9) (ai o0))))))))
noncomputable def T8:TF:=(af Hm (af Hn (af Xx (af Ht (af o6 (af o0 (af I0 (af NQ (ai Ic) ay) (af Ba (ai Iy) ay)) (af o1 (af DL (ai o1) ay) (ai HU))) (af vB (af Lw (af AL (ai LO) ay) (af o0 (ai Mc) ay)) (af Nz (af o1 (ai o0) ay) (ai o0)))) (af Ec (af IT (af Lq (af Ay (ai Ih) ay) (af HI (ai L9) ay)) (af LB (af o0 (ai Ij) ay) (ai DW))) (af o1 (af o0 (af AV (ai o0) ay) (af LI (ai o0) ay)) (af NI (af A6 (ai L5) ay) (ai o1))))) (af o0 (af o1 (af o0 (af o1 (af Qr (ai o1) ay) (af HE (ai L7) ay)) (af Nu (af o0 (ai LY) ay) (ai HW))) (af Li (af o0 (af DG (ai o0) ay) (af o0 (ai Me) ay)) (af ND (af A1 (ai o0) ay) (ai Ia)))) (af Hx (af HB (af Ls (af AH (ai LM) ay) (af HK (ai Ma) ay)) (af LD (af DQ (ai Il) ay) (ai o0))) (af IY (af Np (af DJ (ai Qw) ay) (ai o1)) (af NM (af A8 (ai o1) ay) (ai o0)))))) (af Hr (af Hv (af o8 (af Le (af Nl (af Qp (ai Ie) ay) (af o1 (ai o0) ay)) (af o0 (af o1 (ai o0) ay) (ai o0))) (af Lh (af o1 (af AN (ai o1) ay) (af HM (ai QA) ay)) (af NB (af o0 (ai Io) ay) (ai D2)))) (af Ed (af Hz (af o0 (af AD (ai o0) ay) (af LG (ai o1) ay)) (af Nw (af AW (ai L3) ay) (ai o1))) (af o0 (af LA (af o0 (ai LU) ay) (af HR (ai Mg) ay)) (af NK (af o0 (ai Iu) ay) (ai D5))))) (af o2 (af qT (af IS (af o0 (af Qt (ai o0) ay) (af o0 (ai Qy) ay)) (af o0 (af DN (ai o0) ay) (ai LK))) (af Lk (af Ly (af AR (ai LR) ay) (af HP (ai o1) ay)) (af NG (af A4 (ai Iq) ay) (ai D4)))) (af o7 (af Lg (af Qn (af o0 (ai Qu) ay) (af o1 (ai o0) ay)) (af o0 (af AY (ai o1) ay) (ai DZ))) (af Ln (af Nr (af HC (ai LW) ay) (ai o0)) (af NO (af DU (ai o0) ay) (ai D7))))))) (af Ho (af Hq (af Hu (af o7 (af IQ (af Lo (af NR (ai D8) ay) (af o0 (ai Iz) ay)) (af Nt (af o0 (ai LX) ay) (ai HV))) (af o7 (af o0 (af AM (ai o0) ay) (af LH (ai o0) ay)) (af NA (af AZ (ai L4) ay) (ai o1)))) (af IW (af Hy (af Lr (af Az (ai Ii) ay) (af o0 (ai o0) ay)) (af o0 (af o1 (ai o0) ay) (ai o0))) (af IX (af o1 (af DH (ai o1) ay) (af HQ (ai QB) ay)) (af NJ (af A7 (ai Ir) ay) (ai Ib))))) (af Xy (af o9 (af o1 (af Lp (af Qs (ai Ig) ay) (af HG (ai o0) ay)) (af Nv (af HD (ai LZ) ay) (ai o0))) (af Lj (af Nn (af AQ (ai Qv) ay) (af o1 (ai o0) ay)) (af NF (af A2 (ai o1) ay) (ai D3)))) (af vB (af IU (af o0 (af AJ (ai o0) ay) (af o0 (ai Mb) ay)) (af Ny (af AX (ai o0) ay) (ai HZ))) (af Lm (af Nq (af o0 (ai LV) ay) (ai HS)) (af NN (af o0 (ai Iw) ay) (ai o1)))))) (af Hs (af tO (af o0 (af Lf (af o0 (af Qq (ai o0) ay) (af LF (ai o1) ay)) (af Qo (af DM (ai Qx) ay) (ai o1))) (af o0 (af Lx (af o0 (ai LQ) ay) (af HN (ai Md) ay)) (af NC (af DR (ai Ip) ay) (ai o0)))) (af Hw (af HA (af o1 (af AF (ai o1) ay) (af HJ (ai Qz) ay)) (af LC (af o0 (ai Ik) ay) (ai DY))) (af Ll (af o0 (af o1 (ai o0) ay) (af o0 (ai Mh) ay)) (af NL (af o1 (ai o0) ay) (ai D6))))) (af o3 (af o0 (af o0 (af Nm (af Ax (ai LL) ay) (af o1 (ai L8) ay)) (af o1 (af DP (ai o1) ay) (ai HY))) (af o0 (af Lz (af AU (ai LS) ay) (af o0 (ai Mf) ay)) (af NH (af A5 (ai o0) ay) (ai o0)))) (af IP (af IV (af Lu (af AK (ai LN) ay) (af HL (ai o1) ay)) (af o0 (af o0 (ai Im) ay) (ai D1))) (af IZ (af o0 (af DK (ai o0) ay) (ai LJ)) (af NP (af A9 (ai L6) ay) (ai o0))))))))
noncomputable def u2:TF:=(af o1 (af DL (ai o1) (ai UC)) (af HU (ai Uw) ay))
noncomputable def u3:TF:=(af Lw (af AL (ai LO) (ai QR)) (af o0 (ai Mc) ay))
noncomputable def u4:TF:=(af Lq (af Ay (ai Ih) (ai o1)) (af HI (ai L9) ay))
noncomputable def u5:TF:=(af o0 (af AV (ai o0) (ai o0)) (af LI (ai o0) ay))
noncomputable def u6:TF:=(af o1 (af Qr (ai o1) (ai Uy)) (af HE (ai L7) ay))
noncomputable def u7:TF:=(af Nu (af o0 (ai LY) (ai o1)) (af HW (ai o1) ay))
noncomputable def u8:TF:=(af o0 u6 u7)
noncomputable def u9:TF:=(af o0 (af DG (ai o0) (ai QT)) (af o0 (ai Me) ay))
noncomputable def YY:TF:=(af Ls (af AH (ai LM) (ai QP)) (af HK (ai Ma) ay))
noncomputable def YZ:TF:=(af Np (af DJ (ai Qw) (ai o0)) (af o1 (ai o0) ay))
noncomputable def u12:TF:=(af Nl (af Qp (ai Ie) (ai QL)) (af o1 (ai o0) ay))
noncomputable def u13:TF:=(af o0 (af o1 (ai o0) (ai QZ)) (af o0 (ai QE) ay))
noncomputable def Y0:TF:=(af Le u12 u13)
noncomputable def Y1:TF:=(af o1 (af AN (ai o1) (ai UA)) (af HM (ai QA) ay))
noncomputable def Y2:TF:=(af o0 (af AD (ai o0) (ai o0)) (af LG (ai o1) ay))
noncomputable def Y3:TF:=(af LA (af o0 (ai LU) (ai QV)) (af HR (ai Mg) ay))
noncomputable def u18:TF:=(af o0 (af Qt (ai o0) (ai QN)) (af o0 (ai Qy) ay))
noncomputable def u19:TF:=(af o0 (af DN (ai o0) (ai Q0)) (af LK (ai QF) ay))
noncomputable def Y4:TF:=(af IS u18 u19)
noncomputable def Y5:TF:=(af Ly (af AR (ai LR) (ai o1)) (af HP (ai o1) ay))
noncomputable def Y6:TF:=(af Qn (af o0 (ai Qu) (ai o0)) (af o1 (ai o0) ay))
noncomputable def Y7:TF:=(af Nr (af HC (ai LW) (ai QX)) (af o0 (ai QC) ay))
noncomputable def Y8:TF:=(af Nt (af o0 (ai LX) (ai QY)) (af HV (ai QD) ay))
noncomputable def Y9:TF:=(af o0 (af AM (ai o0) (ai o0)) (af LH (ai o0) ay))
noncomputable def Za:TF:=(af Lr (af Az (ai Ii) (ai QO)) (af o0 (ai o0) ay))
noncomputable def Zb:TF:=(af o1 (af DH (ai o1) (ai UB)) (af HQ (ai QB) ay))
noncomputable def u28:TF:=(af Lp (af Qs (ai Ig) (ai QM)) (af HG (ai o0) ay))
noncomputable def u29:TF:=(af Nv (af HD (ai LZ) (ai UD)) (af o0 (ai Ux) ay))
noncomputable def Zc:TF:=(af o1 u28 u29)
noncomputable def Zd:TF:=(af Nn (af AQ (ai Qv) (ai o0)) (af o1 (ai o0) ay))
noncomputable def Ze:TF:=(af o0 (af AJ (ai o0) (ai QQ)) (af o0 (ai Mb) ay))
noncomputable def Zf:TF:=(af Nq (af o0 (ai LV) (ai o1)) (af HS (ai o1) ay))
noncomputable def u34:TF:=(af o0 (af Qq (ai o0) (ai o0)) (af LF (ai o1) ay))
noncomputable def u35:TF:=(af Qo (af DM (ai Qx) (ai o0)) (af o1 (ai o0) ay))
noncomputable def Zg:TF:=(af Lf u34 u35)
noncomputable def Zh:TF:=(af Lx (af o0 (ai LQ) (ai QS)) (af HN (ai Md) ay))
noncomputable def Zi:TF:=(af o1 (af AF (ai o1) (ai Uz)) (af HJ (ai Qz) ay))
noncomputable def Zj:TF:=(af o0 (af o1 (ai o0) (ai QW)) (af o0 (ai Mh) ay))
noncomputable def u40:TF:=(af Nm (af Ax (ai LL) (ai o0)) (af o1 (ai L8) ay))
noncomputable def u41:TF:=(af o1 (af DP (ai o1) (ai Q3)) (af HY (ai QG) ay))
noncomputable def Zl:TF:=(af o0 u40 u41)
noncomputable def Zm:TF:=(af Lz (af AU (ai LS) (ai QU)) (af o0 (ai Mf) ay))
noncomputable def Zn:TF:=(af Lu (af AK (ai LN) (ai o1)) (af HL (ai o1) ay))
noncomputable def Zo:TF:=(af o0 (af DK (ai o0) (ai o0)) (af LJ (ai o0) ay))
noncomputable def T9:TF:=(af Hm (af Hn (af Xz (af Ht (af o6 (af o0 (af I0 (af NQ (ai Ic) (ai o0)) (af Ba (ai Iy) ay)) u2) (af vB u3 (af Nz (af o1 (ai o0) ay) (af o0 (ai Ml) ay)))) (af Ec (af IT u4 (af LB (af o0 (ai Ij) ay) (af DW (ai o0) ay))) (af o1 u5 (af NI (af A6 (ai L5) ay) (af o1 (ai Mp) ay))))) (af o0 (af o1 u8 (af Li u9 (af ND (af A1 (ai o0) ay) (af Ia (ai Mn) ay)))) (af Hx (af HB YY (af LD (af DQ (ai Il) ay) (af o0 (ai Mj) ay))) (af IY YZ (af NM (af A8 (ai o1) ay) (af o0 (ai o0) ay)))))) (af Hr (af Hv (af o8 Y0 (af Lh Y1 (af NB (af o0 (ai Io) ay) (af D2 (ai o0) ay)))) (af Ed (af Hz Y2 (af Nw (af AW (ai L3) ay) (af o1 (ai QH) ay))) (af o0 Y3 (af NK (af o0 (ai Iu) ay) (af D5 (ai o1) ay))))) (af o2 (af qT Y4 (af Lk Y5 (af NG (af A4 (ai Iq) ay) (af D4 (ai QJ) ay)))) (af o7 (af Lg Y6 (af o0 (af AY (ai o1) ay) (af DZ (ai o1) ay))) (af Ln Y7 (af NO (af DU (ai o0) ay) (af D7 (ai Mr) ay))))))) (af Ho (af Hq (af Hu (af o7 (af IQ (af Lo (af NR (ai D8) (ai o1)) (af o0 (ai Iz) ay)) Y8) (af o7 Y9 (af NA (af AZ (ai L4) ay) (af o1 (ai Mm) ay)))) (af IW (af Hy Za (af o0 (af o1 (ai o0) ay) (af o0 (ai o1) ay))) (af IX Zb (af NJ (af A7 (ai Ir) ay) (af Ib (ai o0) ay))))) (af XA (af o9 Zc (af Lj Zd (af NF (af A2 (ai o1) ay) (af D3 (ai o0) ay)))) (af vB (af IU Ze (af Ny (af AX (ai o0) ay) (af HZ (ai o0) ay))) (af Lm Zf (af NN (af o0 (ai Iw) ay) (af o1 (ai QK) ay)))))) (af Hs (af tO (af o0 Zg (af o0 Zh (af NC (af DR (ai Ip) ay) (af o0 (ai o1) ay)))) (af Hw (af HA Zi (af LC (af o0 (ai Ik) ay) (af DY (ai Mi) ay))) (af Ll Zj (af NL (af o1 (ai o0) ay) (af D6 (ai Mq) ay))))) (af o3 (af o0 Zl (af o0 Zm (af NH (af A5 (ai o0) ay) (af o0 (ai Mo) ay)))) (af IP (af IV Zn (af o0 (af o0 (ai Im) ay) (af D1 (ai QI) ay))) (af IZ Zo (af NP (af A9 (ai L6) ay) (af o0 (ai Ms) ay))))))))
noncomputable def Zp:TF:=(af Hm (af Hn (af Q4 (af Ht (af o6 (af o0 (af I0 (af NQ (ai Ic) (ai o0)) (af Ba (ai Iy) (ai Rg))) u2) (af vB u3 (af Nz (af o1 (ai o0) (ai o1)) (af o0 (ai Ml) ay)))) (af Ec (af IT u4 (af LB (af o0 (ai Ij) (ai o0)) (af DW (ai o0) ay))) (af o1 u5 (af NI (af A6 (ai L5) (ai UI)) (af o1 (ai Mp) ay))))) (af o0 (af o1 u8 (af Li u9 (af ND (af A1 (ai o0) (ai o0)) (af Ia (ai Mn) ay)))) (af Hx (af HB YY (af LD (af DQ (ai Il) (ai UG)) (af o0 (ai Mj) ay))) (af IY YZ (af NM (af A8 (ai o1) (ai o1)) (af o0 (ai o0) ay)))))) (af Hr (af Hv (af o8 Y0 (af Lh Y1 (af NB (af o0 (ai Io) (ai Q8)) (af D2 (ai o0) ay)))) (af Ed (af Hz Y2 (af Nw (af AW (ai L3) (ai Q5)) (af o1 (ai QH) ay))) (af o0 Y3 (af NK (af o0 (ai Iu) (ai Rc)) (af D5 (ai o1) ay))))) (af o2 (af qT Y4 (af Lk Y5 (af NG (af A4 (ai Iq) (ai Ra)) (af D4 (ai QJ) ay)))) (af o7 (af Lg Y6 (af o0 (af AY (ai o1) (ai Q7)) (af DZ (ai o1) ay))) (af Ln Y7 (af NO (af DU (ai o0) (ai o0)) (af D7 (ai Mr) ay))))))) (af Ho (af Hq (af Hu (af o7 (af IQ (af Lo (af NR (ai D8) (ai o1)) (af o0 (ai Iz) (ai Rh))) Y8) (af o7 Y9 (af NA (af AZ (ai L4) (ai UH)) (af o1 (ai Mm) ay)))) (af IW (af Hy Za (af o0 (af o1 (ai o0) (ai o1)) (af o0 (ai o1) ay))) (af IX Zb (af NJ (af A7 (ai Ir) (ai Rb)) (af Ib (ai o0) ay))))) (af UE (af o9 Zc (af Lj Zd (af NF (af A2 (ai o1) (ai o1)) (af D3 (ai o0) ay)))) (af vB (af IU Ze (af Ny (af AX (ai o0) (ai Q6)) (af HZ (ai o0) ay))) (af Lm Zf (af NN (af o0 (ai Iw) (ai Rf)) (af o1 (ai QK) ay)))))) (af Hs (af tO (af o0 Zg (af o0 Zh (af NC (af DR (ai Ip) (ai Q9)) (af o0 (ai o1) ay)))) (af Hw (af HA Zi (af LC (af o0 (ai Ik) (ai o0)) (af DY (ai Mi) ay))) (af Ll Zj (af NL (af o1 (ai o0) (ai o0)) (af D6 (ai Mq) ay))))) (af o3 (af o0 Zl (af o0 Zm (af NH (af A5 (ai o0) (ai o0)) (af o0 (ai Mo) ay)))) (af IP (af IV Zn (af o0 (af o0 (ai Im) (ai o0)) (af D1 (ai QI) ay))) (af IZ Zo (af NP (af A9 (ai L6) (ai UJ)) (af o0 (ai Ms) ay))))))))
noncomputable def HF(p:Program)(P:Params):Heap:=⟨Array.mk [boot_o_0 P,boot_o_1 P,boot_o_2 P,Q4 p P,boot_o_4 P,boot_o_5 P,boot_o_6 P,boot_o_7 P,boot_o_8 P,boot_o_9 P,boot_o_10 P,o0 p P,UE p P,o2 p P,o3 p P,o6 p P,o7 p P,o8 p P,o0 p P,o1 p P,o9 p P,qT p P,o0 p P,Ec p P,IW p P,Ed p P,Hw p P,Hx p P,vB p P,o7 p P,IP p P,o0 p P,IQ p P,Le p P,Lf p P,o0 p P,o1 p P,IS p P,o0 p P,IT p P,Hy p P,Hz p P,HA p P,HB p P,IU p P,Lg p P,IV p P,vB p P,o7 p P,Lh p P,o0 p P,Li p P,Lj p P,Lk p P,o0 p P,o1 p P,IX p P,o0 p P,Ll p P,IY p P,Lm p P,Ln p P,IZ p P,I0 p P,Lo p P,Nl p P,o0 p P,o1 p P,Lp p P,o0 p P,Nm p P,Lq p P,Lr p P,o0 p P,o1 p P,Ls p P,o0 p P,Qn p P,Lu p P,Lw p P,o0 p P,o1 p P,Lx p P,o0 p P,Nn p P,Ly p P,Lz p P,o0 p P,o1 p P,LA p P,o0 p P,Np p P,Nq p P,Nr p P,o0 p P,o1 p P,Nt p P,o0 p P,Qo p P,Nu p P,Nv p P,o0 p P,o1 p P,LB p P,o0 p P,Nw p P,LC p P,LD p P,Ny p P,o0 p P,o0 p P,Nz p P,NA p P,NB p P,NC p P,ND p P,NF p P,NG p P,NH p P,NI p P,NJ p P,NK p P,NL p P,NM p P,NN p P,NO p P,NP p P,NQ p P,NR p P,Qp p P,Qq p P,Qr p P,Qs p P,Qt p P,Ax p P,Ay p P,Az p P,AD p P,AF p P,AH p P,AJ p P,o0 p P,AK p P,AL p P,AM p P,AN p P,o0 p P,DG p P,AQ p P,AR p P,AU p P,AV p P,DH p P,o0 p P,o1 p P,DJ p P,o0 p P,HC p P,DK p P,DL p P,o0 p P,o1 p P,DM p P,o0 p P,HD p P,DN p P,DP p P,o0 p P,o1 p P,AW p P,o0 p P,DQ p P,AX p P,AY p P,o0 p P,o1 p P,AZ p P,o0 p P,DR p P,A1 p P,A2 p P,A4 p P,A5 p P,A6 p P,A7 p P,o0 p P,o1 p P,A8 p P,o0 p P,DU p P,A9 p P,Ba p P,o0 p P,o1 p P,LF p P,HE p P,HG p P,o0 p P,o1 p P,HI p P,o0 p P,LG p P,HJ p P,HK p P,o0 p P,o1 p P,HL p P,o0 p P,LH p P,HM p P,HN p P,o0 p P,o1 p P,HP p P,o0 p P,LI p P,HQ p P,HR p P,o0 p P,o1 p P,HS p P,o0 p P,LJ p P,HU p P,HV p P,o0 p P,o1 p P,HW p P,o0 p P,LK p P,HY p P,DW p P,o0 p P,o1 p P,DY p P,o0 p P,HZ p P,DZ p P,D1 p P,o0 p P,o1 p P,D2 p P,o0 p P,Ia p P,D3 p P,D4 p P,o0 p P,o1 p P,Ib p P,D5 p P,D6 p P,o0 p P,o1 p P,D7 p P,o0 p P,Ic p P,D8 p P,Ie p P,o0 p P,o1 p P,Ig p P,o0 p P,LL p P,Ih p P,Ii p P,o0 p P,o1 p P,LM p P,o0 p P,Qu p P,LN p P,LO p P,o0 p P,o1 p P,LQ p P,o0 p P,Qv p P,LR p P,LS p P,o0 p P,o1 p P,LU p P,o0 p P,Qw p P,LV p P,LW p P,o0 p P,o1 p P,LX p P,o0 p P,Qx p P,LY p P,LZ p P,o0 p P,o1 p P,Ij p P,o0 p P,L3 p P,Ik p P,Il p P,o0 p P,o1 p P,Im p P,o0 p P,L4 p P,Io p P,Ip p P,o0 p P,o1 p P,Iq p P,o0 p P,L5 p P,Ir p P,Iu p P,o0 p P,o1 p P,Iw p P,o0 p P,L6 p P,Iy p P,Iz p P,o0 p P,o1 p P,L7 p P,o0 p P,Qy p P,L8 p P,L9 p P,o0 p P,o1 p P,Qz p P,Ma p P,Mb p P,o0 p P,o1 p P,Mc p P,o0 p P,QA p P,Md p P,Me p P,o0 p P,o1 p P,Mf p P,o0 p P,QB p P,Mg p P,Mh p P,o0 p P,o1 p P,QC p P,o0 p P,Uw p P,QD p P,QE p P,o0 p P,o1 p P,Ux p P,QF p P,QG p P,o0 p P,o1 p P,QH p P,Mi p P,Mj p P,o0 p P,o1 p P,QI p P,Ml p P,Mm p P,o0 p P,o1 p P,Mn p P,o0 p P,QJ p P,Mo p P,Mp p P,o0 p P,o1 p P,Mq p P,o0 p P,QK p P,Mr p P,Ms p P,o0 p P,o1 p P,QL p P,o0 p P,Uy p P,QM p P,QN p P,o0 p P,o1 p P,QO p P,o0 p P,Uz p P,QP p P,QQ p P,o0 p P,o1 p P,QR p P,o0 p P,UA p P,QS p P,QT p P,o0 p P,o1 p P,QU p P,o0 p P,UB p P,QV p P,QW p P,o0 p P,o1 p P,QX p P,o0 p P,UC p P,QY p P,QZ p P,o0 p P,o1 p P,UD p P,Q0 p P,Q3 p P,o0 p P,o1 p P,Q5 p P,o0 p P,UG p P,Q6 p P,Q7 p P,o0 p P,o1 p P,UH p P,Q8 p P,Q9 p P,o0 p P,o1 p P,Ra p P,o0 p P,UI p P,Rb p P,Rc p P,o0 p P,o1 p P,Rf p P,o0 p P,UJ p P,Rg p P,Rh p P],{}⟩
noncomputable def K(P:Params):PySem.W.Frag:=(nat_lit 2,boot_o_2 P)::(nat_lit 3,Q4 pw P)::(nat_lit 15,o6 pw P)::(nat_lit 22,o0 pw P)::(nat_lit 23,Ec pw P)::(nat_lit 24,IW pw P)::(nat_lit 25,Ed pw P)::(nat_lit 28,vB pw P)::(nat_lit 35,o0 pw P)::(nat_lit 37,IS pw P)::(nat_lit 38,o0 pw P)::(nat_lit 40,Hy pw P)::(nat_lit 41,Hz pw P)::(nat_lit 42,HA pw P)::(nat_lit 43,HB pw P)::(nat_lit 44,IU pw P)::(nat_lit 47,vB pw P)::(nat_lit 54,o0 pw P)::(nat_lit 56,IX pw P)::(nat_lit 57,o0 pw P)::(nat_lit 59,IY pw P)::(nat_lit 60,Lm pw P)::(nat_lit 61,Ln pw P)::(nat_lit 62,IZ pw P)::(nat_lit 63,I0 pw P)::(nat_lit 66,o0 pw P)::(nat_lit 68,Lp pw P)::(nat_lit 69,o0 pw P)::(nat_lit 71,Lq pw P)::(nat_lit 72,Lr pw P)::(nat_lit 73,o0 pw P)::(nat_lit 75,Ls pw P)::(nat_lit 76,o0 pw P)::(nat_lit 78,Lu pw P)::(nat_lit 79,Lw pw P)::(nat_lit 80,o0 pw P)::(nat_lit 82,Lx pw P)::(nat_lit 83,o0 pw P)::(nat_lit 85,Ly pw P)::(nat_lit 86,Lz pw P)::(nat_lit 87,o0 pw P)::(nat_lit 89,LA pw P)::(nat_lit 90,o0 pw P)::(nat_lit 92,Nq pw P)::(nat_lit 93,Nr pw P)::(nat_lit 94,o0 pw P)::(nat_lit 96,Nt pw P)::(nat_lit 97,o0 pw P)::(nat_lit 99,Nu pw P)::(nat_lit 100,Nv pw P)::(nat_lit 101,o0 pw P)::(nat_lit 103,LB pw P)::(nat_lit 104,o0 pw P)::(nat_lit 106,LC pw P)::(nat_lit 107,LD pw P)::(nat_lit 108,Ny pw P)::(nat_lit 109,o0 pw P)::(nat_lit 110,o0 pw P)::(nat_lit 111,Nz pw P)::(nat_lit 112,NA pw P)::(nat_lit 113,NB pw P)::(nat_lit 114,NC pw P)::(nat_lit 115,ND pw P)::(nat_lit 116,NF pw P)::(nat_lit 117,NG pw P)::(nat_lit 118,NH pw P)::(nat_lit 119,NI pw P)::(nat_lit 120,NJ pw P)::(nat_lit 121,NK pw P)::(nat_lit 122,NL pw P)::(nat_lit 123,NM pw P)::(nat_lit 124,NN pw P)::(nat_lit 125,NO pw P)::(nat_lit 126,NP pw P)::(nat_lit 127,NQ pw P)::(nat_lit 128,NR pw P)::(nat_lit 129,Qp pw P)::(nat_lit 130,Qq pw P)::(nat_lit 131,Qr pw P)::(nat_lit 132,Qs pw P)::(nat_lit 133,Qt pw P)::(nat_lit 134,Ax pw P)::(nat_lit 135,Ay pw P)::(nat_lit 136,Az pw P)::(nat_lit 137,AD pw P)::(nat_lit 138,AF pw P)::(nat_lit 139,AH pw P)::(nat_lit 140,AJ pw P)::(nat_lit 141,o0 pw P)::(nat_lit 142,AK pw P)::(nat_lit 143,AL pw P)::(nat_lit 144,AM pw P)::(nat_lit 145,AN pw P)::(nat_lit 146,o0 pw P)::(nat_lit 148,AQ pw P)::(nat_lit 149,AR pw P)::(nat_lit 150,AU pw P)::(nat_lit 151,AV pw P)::(nat_lit 152,DH pw P)::(nat_lit 153,o0 pw P)::(nat_lit 155,DJ pw P)::(nat_lit 156,o0 pw P)::(nat_lit 158,DK pw P)::(nat_lit 159,DL pw P)::(nat_lit 160,o0 pw P)::(nat_lit 162,DM pw P)::(nat_lit 163,o0 pw P)::(nat_lit 165,DN pw P)::(nat_lit 166,DP pw P)::(nat_lit 167,o0 pw P)::(nat_lit 169,AW pw P)::(nat_lit 170,o0 pw P)::(nat_lit 172,AX pw P)::(nat_lit 173,AY pw P)::(nat_lit 174,o0 pw P)::(nat_lit 176,AZ pw P)::(nat_lit 177,o0 pw P)::(nat_lit 179,A1 pw P)::(nat_lit 180,A2 pw P)::(nat_lit 181,A4 pw P)::(nat_lit 182,A5 pw P)::(nat_lit 183,A6 pw P)::(nat_lit 184,A7 pw P)::(nat_lit 185,o0 pw P)::(nat_lit 187,A8 pw P)::(nat_lit 188,o0 pw P)::(nat_lit 190,A9 pw P)::(nat_lit 191,Ba pw P)::(nat_lit 192,o0 pw P)::(nat_lit 195,HE pw P)::(nat_lit 196,HG pw P)::(nat_lit 197,o0 pw P)::(nat_lit 199,HI pw P)::(nat_lit 200,o0 pw P)::(nat_lit 202,HJ pw P)::(nat_lit 203,HK pw P)::(nat_lit 204,o0 pw P)::(nat_lit 206,HL pw P)::(nat_lit 207,o0 pw P)::(nat_lit 209,HM pw P)::(nat_lit 210,HN pw P)::(nat_lit 211,o0 pw P)::(nat_lit 213,HP pw P)::(nat_lit 214,o0 pw P)::(nat_lit 216,HQ pw P)::(nat_lit 217,HR pw P)::(nat_lit 218,o0 pw P)::(nat_lit 220,HS pw P)::(nat_lit 221,o0 pw P)::(nat_lit 223,HU pw P)::(nat_lit 224,HV pw P)::(nat_lit 225,o0 pw P)::(nat_lit 227,HW pw P)::(nat_lit 228,o0 pw P)::(nat_lit 230,HY pw P)::(nat_lit 231,DW pw P)::(nat_lit 232,o0 pw P)::(nat_lit 234,DY pw P)::(nat_lit 235,o0 pw P)::(nat_lit 237,DZ pw P)::(nat_lit 238,D1 pw P)::(nat_lit 239,o0 pw P)::(nat_lit 241,D2 pw P)::(nat_lit 242,o0 pw P)::(nat_lit 244,D3 pw P)::(nat_lit 245,D4 pw P)::(nat_lit 246,o0 pw P)::(nat_lit 249,D5 pw P)::(nat_lit 250,D6 pw P)::(nat_lit 251,o0 pw P)::(nat_lit 253,D7 pw P)::(nat_lit 254,o0 pw P)::(nat_lit 256,D8 pw P)::(nat_lit 257,Ie pw P)::(nat_lit 258,o0 pw P)::(nat_lit 260,Ig pw P)::(nat_lit 261,o0 pw P)::(nat_lit 263,Ih pw P)::(nat_lit 264,Ii pw P)::(nat_lit 265,o0 pw P)::(nat_lit 267,LM pw P)::(nat_lit 268,o0 pw P)::(nat_lit 270,LN pw P)::(nat_lit 271,LO pw P)::(nat_lit 272,o0 pw P)::(nat_lit 274,LQ pw P)::(nat_lit 275,o0 pw P)::(nat_lit 277,LR pw P)::(nat_lit 278,LS pw P)::(nat_lit 279,o0 pw P)::(nat_lit 281,LU pw P)::(nat_lit 282,o0 pw P)::(nat_lit 284,LV pw P)::(nat_lit 285,LW pw P)::(nat_lit 286,o0 pw P)::(nat_lit 288,LX pw P)::(nat_lit 289,o0 pw P)::(nat_lit 291,LY pw P)::(nat_lit 292,LZ pw P)::(nat_lit 293,o0 pw P)::(nat_lit 295,Ij pw P)::(nat_lit 296,o0 pw P)::(nat_lit 298,Ik pw P)::(nat_lit 299,Il pw P)::(nat_lit 300,o0 pw P)::(nat_lit 302,Im pw P)::(nat_lit 303,o0 pw P)::(nat_lit 305,Io pw P)::(nat_lit 306,Ip pw P)::(nat_lit 307,o0 pw P)::(nat_lit 309,Iq pw P)::(nat_lit 310,o0 pw P)::(nat_lit 312,Ir pw P)::(nat_lit 313,Iu pw P)::(nat_lit 314,o0 pw P)::(nat_lit 316,Iw pw P)::(nat_lit 317,o0 pw P)::(nat_lit 319,Iy pw P)::(nat_lit 320,Iz pw P)::(nat_lit 321,o0 pw P)::(nat_lit 323,L7 pw P)::(nat_lit 324,o0 pw P)::(nat_lit 326,L8 pw P)::(nat_lit 327,L9 pw P)::(nat_lit 328,o0 pw P)::(nat_lit 331,Ma pw P)::(nat_lit 332,Mb pw P)::(nat_lit 333,o0 pw P)::(nat_lit 335,Mc pw P)::(nat_lit 336,o0 pw P)::(nat_lit 338,Md pw P)::(nat_lit 339,Me pw P)::(nat_lit 340,o0 pw P)::(nat_lit 342,Mf pw P)::(nat_lit 343,o0 pw P)::(nat_lit 345,Mg pw P)::(nat_lit 346,Mh pw P)::(nat_lit 347,o0 pw P)::(nat_lit 349,QC pw P)::(nat_lit 350,o0 pw P)::(nat_lit 352,QD pw P)::(nat_lit 353,QE pw P)::(nat_lit 354,o0 pw P)::(nat_lit 357,QF pw P)::(nat_lit 358,QG pw P)::(nat_lit 359,o0 pw P)::(nat_lit 362,Mi pw P)::(nat_lit 363,Mj pw P)::(nat_lit 364,o0 pw P)::(nat_lit 367,Ml pw P)::(nat_lit 368,Mm pw P)::(nat_lit 369,o0 pw P)::(nat_lit 371,Mn pw P)::(nat_lit 372,o0 pw P)::(nat_lit 374,Mo pw P)::(nat_lit 375,Mp pw P)::(nat_lit 376,o0 pw P)::(nat_lit 378,Mq pw P)::(nat_lit 379,o0 pw P)::(nat_lit 381,Mr pw P)::(nat_lit 382,Ms pw P)::(nat_lit 383,o0 pw P)::(nat_lit 385,QL pw P)::(nat_lit 386,o0 pw P)::(nat_lit 388,QM pw P)::(nat_lit 389,QN pw P)::(nat_lit 390,o0 pw P)::(nat_lit 392,QO pw P)::(nat_lit 393,o0 pw P)::(nat_lit 395,QP pw P)::(nat_lit 396,QQ pw P)::(nat_lit 397,o0 pw P)::(nat_lit 399,QR pw P)::(nat_lit 400,o0 pw P)::(nat_lit 402,QS pw P)::(nat_lit 403,QT pw P)::(nat_lit 404,o0 pw P)::(nat_lit 406,QU pw P)::(nat_lit 407,o0 pw P)::(nat_lit 409,QV pw P)::(nat_lit 410,QW pw P)::(nat_lit 411,o0 pw P)::(nat_lit 413,QX pw P)::(nat_lit 414,o0 pw P)::(nat_lit 416,QY pw P)::(nat_lit 417,QZ pw P)::(nat_lit 418,o0 pw P)::(nat_lit 421,Q0 pw P)::(nat_lit 422,Q3 pw P)::(nat_lit 423,o0 pw P)::(nat_lit 425,Q5 pw P)::(nat_lit 426,o0 pw P)::(nat_lit 428,Q6 pw P)::(nat_lit 429,Q7 pw P)::(nat_lit 430,o0 pw P)::(nat_lit 433,Q8 pw P)::(nat_lit 434,Q9 pw P)::(nat_lit 435,o0 pw P)::(nat_lit 437,Ra pw P)::(nat_lit 438,o0 pw P)::(nat_lit 440,Rb pw P)::(nat_lit 441,Rc pw P)::(nat_lit 442,o0 pw P)::(nat_lit 444,Rf pw P)::(nat_lit 445,o0 pw P)::(nat_lit 447,Rg pw P)::(nat_lit 448,Rh pw P)::[]
abbrev NS:List Addr:=[2,3,15,22,23,24,25,28,35,37,38,40,41,42,43,44,47,54,56,57,59,60,61,62,63,66,68,69,71,72,73,75,76,78,79,80,82,83,85,86,87,89,90,92,93,94,96,97,99,100,101,103,104,106,107,108,109,110,111,112,113,114,115,116,117,118,119,120,121,122,123,124,125,126,127,128,129,130,131,132,133,134,135,136,137,138,139,140,141,142,143,144,145,146,148,149,150,151,152,153,155,156,158,159,160,162,163,165,166,167,169,170,172,173,174,176,177,179,180,181,182,183,184,185,187,188,190,191,192,195,196,197,199,200,202,203,204,206,207,209,210,211,213,214,216,217,218,220,221,223,224,225,227,228,230,231,232,234,235,237,238,239,241,242,244,245,246,249,250,251,253,254,256,257,258,260,261,263,264,265,267,268,270,271,272,274,275,277,278,279,281,282,284,285,286,288,289,291,292,293,295,296,298,299,300,302,303,305,306,307,309,310,312,313,314,316,317,319,320,321,323,324,326,327,328,331,332,333,335,336,338,339,340,342,343,345,346,347,349,350,352,353,354,357,358,359,362,363,364,367,368,369,371,372,374,375,376,378,379,381,382,383,385,386,388,389,390,392,393,395,396,397,399,400,402,403,404,406,407,409,410,411,413,414,416,417,418,421,422,423,425,426,428,429,430,433,434,435,437,438,440,441,442,444,445,447,448]
theorem p7:∀P,NS=(K P).map (·.1):=λ_=>by kernel_rfl
abbrev hK:Hook:=kHook K NS p7
theorem XB(w:World):(λos=>topGo treeTable pw w 11 (some (.ref 6)) 12 ⟨boot_heap w.params,Array.mk [],boot_drawn,boot_toks,os⟩ (topStub pw))=λos=>some (SH (H0 pw w.params) 187 os,(⟨denote treeTable (cw pw),cw pw,⟨0,0,0,0⟩,BF⟩:Thread)):=by
 walk_at "qk"
theorem Ri(w:World):(λos=>segRun treeTable pw w 11 (some (.ref 6)) 1 1 (SH (H0 pw w.params) 187 os) (blockOf (behindTheImports pw) (nI pw) (cw pw) ⟨0,0,0,0⟩ BF))=λos=>some (.next,(ST (T0 pw w.params) 15 187 os).abs,cw pw,⟨0,0,0,0⟩):=by
 walk_at "qk"
theorem XC(w:World):(λos=>segRunT treeTable pw w 11 (some (.ref 6)) 1 196 (ST (T0 pw w.params) 15 187 os) (piecesOf (eg pw 0 2) (nI pw) (cw pw) ⟨0,0,0,0⟩ BF))=λos=>some (.next,ST (T1 pw w.params) 28 207 os,cw pw,⟨2,0,3,8⟩):=by
 walk_at "qk"
theorem XE(w:World):(λos=>segRunT treeTable pw w 11 (some (.ref 6)) 1 250 (ST (T1 pw w.params) 28 207 os) (piecesOf (eg pw 2 1) (nI pw) (cw pw) ⟨2,0,3,8⟩ BF))=λos=>some (.next,ST (T2 pw w.params) 47 236 os,cw pw,⟨4,0,9,24⟩):=by
 walk_at "qk"
theorem XF(w:World):(λos=>segRunT treeTable pw w 11 (some (.ref 6)) 1 383 (ST (T2 pw w.params) 47 236 os) (piecesOf (eg pw 3 6) (nI pw) (cw pw) ⟨4,0,9,24⟩ BF))=λos=>some (.next,ST (T3 pw w.params) 94 303 os,cw pw,⟨30,0,31,46⟩):=by
 walk_at "qk"
theorem XH(w:World):(λos=>segRunT treeTable pw w 11 (some (.ref 6)) 1 71 (ST (T3 pw w.params) 94 303 os) (piecesOf (eg pw 9 3) (nI pw) (cw pw) ⟨30,0,31,46⟩ BF))=λos=>some (.next,ST (T4 pw w.params) 108 322 os,cw pw,⟨48,0,48,8⟩):=by
 walk_at "qk"
theorem XI(w:World):(λos=>segRunT treeTable pw w 11 (some (.ref 6)) 1 404 (ST (T4 pw w.params) 108 322 os) (piecesOf (eg pw 12 1) (nI pw) (cw pw) ⟨48,0,48,8⟩ BF))=λos=>some (.next,ST (T5 pw w.params) 152 385 os,cw pw,⟨49,0,49,6⟩):=by
 refine byRow2 "special-get-raises" (P:=λw=>(λos=>segRunT treeTable pw w 11 (some (.ref 6)) 1 404 (ST (T4 pw w.params) 108 322 os) (piecesOf (eg pw 12 1) (nI pw) (cw pw) ⟨48,0,48,8⟩ BF))=λos=>some (.next,ST (T5 pw w.params) 152 385 os,cw pw,⟨49,0,49,6⟩)) (λw=>?_) (λw=>?_) w<;>(show _=_;walk_at "qk")
theorem XJ(w:World):(λos=>segRunT treeTable pw w 11 (some (.ref 6)) 1 391 (ST (T5 pw w.params) 152 385 os) (piecesOf (eg pw 13 12) (nI pw) (cw pw) ⟨49,0,49,6⟩ BF))=λos=>some (.next,ST (T6 pw w.params) 192 486 os,cw pw,⟨86,0,86,8⟩):=by
 refine byRow2 "special-get-raises" (P:=λw=>(λos=>segRunT treeTable pw w 11 (some (.ref 6)) 1 391 (ST (T5 pw w.params) 152 385 os) (piecesOf (eg pw 13 12) (nI pw) (cw pw) ⟨49,0,49,6⟩ BF))=λos=>some (.next,ST (T6 pw w.params) 192 486 os,cw pw,⟨86,0,86,8⟩)) (λw=>?_) (λw=>?_) w<;>(show _=_;walk_at "qk")
theorem XM(w:World):(λos=>segRunT treeTable pw w 11 (some (.ref 6)) 1 375 (ST (T6 pw w.params) 192 486 os) (piecesOf (eg pw 25 13) (nI pw) (cw pw) ⟨86,0,86,8⟩ BF))=λos=>some (.next,ST (T7 pw w.params) 265 608 os,cw pw,⟨171,0,176,19⟩):=by
 walk_at "qk"
theorem XN(w:World):(λos=>segRunT treeTable pw w 11 (some (.ref 6)) 1 390 (ST (T7 pw w.params) 265 608 os) (piecesOf (eg pw 38 13) (nI pw) (cw pw) ⟨171,0,176,19⟩ BF))=λos=>some (.next,ST (T8 pw w.params) 347 728 os,cw pw,⟨283,0,284,102⟩):=by
 walk_at "qk"
theorem XO(w:World):(λos=>segRunT treeTable pw w 11 (some (.ref 6)) 1 376 (ST (T8 pw w.params) 347 728 os) (piecesOf (eg pw 51 12) (nI pw) (cw pw) ⟨283,0,284,102⟩ BF))=λos=>some (.next,ST (T9 pw w.params) 423 847 os,cw pw,⟨402,0,404,143⟩):=by
 walk_at "qk"
theorem UK(w:World):(λos=>segRunT treeTable pw w 11 (some (.ref 6)) 1 128 (ST (T9 pw w.params) 423 847 os) (piecesOf (eg pw 63 4) (nI pw) (cw pw) ⟨402,0,404,143⟩ BF))=λos=>some (.next,ST (Zp pw w.params) 449 888 os,cw pw,⟨447,0,453,60⟩):=by
 walk_at "qk"
theorem XQ(w:World):(λos=>topRun treeTable pw w 11 (some (.ref 6)) 2 (ST (Zp pw w.params) 449 888 os).abs ⟨doneF .next,cw pw,⟨447,0,453,60⟩,BF⟩)=λos=>some (SH (HF pw w.params) 888 os):=by
 walk_at "qk"
theorem UL:behindTheImports pw=eg pw 0 2++(eg pw 2 1++(eg pw 3 6++(eg pw 9 3++(eg pw 12 1++(eg pw 13 12++(eg pw 25 13++(eg pw 38 13++(eg pw 51 12++(eg pw 63 4++([])))))))))):=by
 kernel_rfl
theorem XR(w:World)(os:OsState):topRun treeTable pw w 11 (some (.ref 6)) (12 + (1 + (196 + (250 + (383 + (71 + (404 + (391 + (375 + (390 + (376 + (128 + 2)))))))))))) ⟨boot_heap w.params,Array.mk [],boot_drawn,boot_toks,os⟩ (topStub pw)=some (SH (HF pw w.params) 888 os):=by
 have k:topRun treeTable pw w 11 (some (.ref 6)) (196 + (250 + (383 + (71 + (404 + (391 + (375 + (390 + (376 + (128 + 2)))))))))) (ST (T0 pw w.params) 15 187 os).abs (restOf (eg pw 0 2++(eg pw 2 1++(eg pw 3 6++(eg pw 9 3++(eg pw 12 1++(eg pw 13 12++(eg pw 25 13++(eg pw 38 13++(eg pw 51 12++(eg pw 63 4++([]))))))))))) (nI pw) (cw pw) ⟨0,0,0,0⟩ BF)=some (SH (HF pw w.params) 888 os):=piece_app (segRun_of (congrFun (XC w) os)) (piece_app (segRun_of (congrFun (XE w) os)) (piece_app (segRun_of (congrFun (XF w) os)) (piece_app (segRun_of (congrFun (XH w) os)) (piece_app (segRun_of (congrFun (XI w) os)) (piece_app (segRun_of (congrFun (XJ w) os)) (piece_app (segRun_of (congrFun (XM w) os)) (piece_app (segRun_of (congrFun (XN w) os)) (piece_app (segRun_of (congrFun (XO w) os)) (piece_app (segRun_of (congrFun (UK w) os)) (congrFun (XQ w) os))))))))))
 rw[← UL]at k
 exact go_top (congrFun (XB w) os) (piece_block (congrFun (Ri w) os) k)
theorem l0(w:World):(λos=>staticsOk (importedModules pw.main.body) (boot_heap w.params) (HF pw w.params)&&namesBound pw (HF pw w.params)&&gensDone (SH (HF pw w.params) 888 os)&&laidKept (boot_heap w.params) (HF pw w.params))=λ_=>true:=by
 walk_at "qk"
theorem l1(w:World):(λos=>PyProof.Rows.seen ((PyProof.Rows.recsOf (cE pw)).map (·.name)) (PyProof.Rows.ownsOf (cE pw)) [] {(SH (HF pw w.params) 888 os)with gens:=#[]})=λ_=>PyProof.Rows.expectedOf (cE pw):=by
 walk_at "qk"
theorem l2(w:World):(λos=>(SH (HF pw w.params) 888 os).heap.bltView)=λ_=>bltViewBooted:=by
 walk_at "qk"
theorem l3(w:World):(λos=>(SH (HF pw w.params) 888 os).heap.keysOk (looseW (cE pw) ["ALWAYS","LEFT"]) ((PyProof.Rows.recsOf (cE pw)).map (·.name)) ((PyProof.Rows.litsOf (cE pw)).map (·.1)) ((PyProof.Rows.clssOf (cE pw) (looseW (cE pw) ["ALWAYS","LEFT"])).map (·.name))&&(SH (HF pw w.params) 888 os).heap.accountedOkI (importedModules pw.main.body)&&(SH (HF pw w.params) 888 os).heap.isNs mainGlobals&&(SH (HF pw w.params) 888 os).heap.isNs builtinsNs&&PyProof.Rows.tablesOk (cE pw) (SH (HF pw w.params) 888 os).heap&&(λs=>xlAt (cE pw) [] s&&recOk (RowW.records (OpenRow.toRowW PySem.Challenge.rw_stackwarden_k51_straight_rows.row)) s) (SH (HF pw w.params) 888 os)&&(if true then(SH (HF pw w.params) 888 os).gens.size == 0 else !leftWithCleanup (SH (HF pw w.params) 888 os).gens))=λ_=>true:=by
 walk_at "qk"
theorem l4(w:World):(λos=>PyProof.Rows.tabsOk (cE pw) (SH (HF pw w.params) 888 os))=λ_=>true:=by
 walk_at "qk"
theorem l5(w:World):(λos=>pinSeenD (cE pw) (PyProof.Rows.drecsOf (cE pw)) (SH (HF pw w.params) 888 os))=λ_=>pinGoodD (PyProof.Rows.drecsOf (cE pw)):=by
 walk_at "qk"
theorem l6(w:World):(λos=>PyProof.Rows.plainSeenE (cE pw) (looseW (cE pw) ["ALWAYS","LEFT"]) (SH (HF pw w.params) 888 os))=λ_=>PyProof.Rows.plainGoodE (cE pw) (looseW (cE pw) ["ALWAYS","LEFT"]):=by
 walk_at "qk"
theorem l7(w:World):(λos=>PyProof.Rows.plainSeenD (cE pw) ["ALWAYS","LEFT"] (SH (HF pw w.params) 888 os))=λ_=>PyProof.Rows.plainGoodD (cE pw) ["ALWAYS","LEFT"]:=by
 walk_at "qk"
theorem l8(w:World):(λos=>wideSeen (cE pw) (SH (HF pw w.params) 888 os))=λ_=>wideGood (cE pw):=by
 walk_at "qk"
theorem l9(w:World):(λos=>clsSeenW (cE pw) ["ALWAYS","LEFT"] (SH (HF pw w.params) 888 os))=λ_=>clsGoodW (cE pw) ["ALWAYS","LEFT"]:=by
 walk_at "qk"
theorem lY(w:World):(λos=>hK.obs (SH (HF pw w.params) 888 os))=λ_=>hK.val w:=by
 show(λos=>NS.map (SH (HF pw w.params) 888 os).heap.get?)=λ_=>(K w.params).map λp=>some p.2
 unfold K
 walk_at "qk"
theorem hl:LeftO pw (cE pw) ["ALWAYS","LEFT"] (λs=>xlAt (cE pw) [] s&&recOk (RowW.records (OpenRow.toRowW PySem.Challenge.rw_stackwarden_k51_straight_rows.row)) s) hK.obs hK.val 6034:=by
 refine LeftO.of_pieces (m₀:=11) (ann:=(some (.ref 6))) (M:=(12 + (1 + (196 + (250 + (383 + (71 + (404 + (391 + (375 + (390 + (376 + (128 + 2))))))))))))) (boot_open (by kernel_rfl) (by decide) (λs=>by kernel_rfl)) (λw=>?_) XR (by decide) (λw=>?_)
 ·walk_at "qk"
 ·funext os
  exact looks_pair (congrFun (l0 w) os) (looks_pair (looks_pair (congrFun (l1 w) os) (looks_pair (congrFun (l2 w) os) (looks_pair (congrFun (l3 w) os) (looks_pair (congrFun (l4 w) os) (looks_pair (congrFun (l5 w) os) (looks_pair (congrFun (l6 w) os) (looks_pair (congrFun (l7 w) os) (looks_pair (congrFun (l8 w) os) (congrFun (l9 w) os))))))))) (congrFun (lY w) os))
end MH
end
open PySem PySem.W PyProof.Rows
local macro_rules | `(tactic| walk_at "dk") => `(tactic| (refine' ⟨_, _, ?w, L2.vQ ?x ?y ?z⟩; (case w => k_is); (case x => k_is); (case y => k_is); (case z => k_is)))
local macro_rules | `(tactic| walk_at "mk") => `(tactic| (refine' ⟨⟨_, L2.vQ ?x ?y ?z⟩, ?w⟩; (case x => k_is); (case y => k_is); (case z => k_is); (case w => k_is)))
set_option maxRecDepth 100000 in
set_option maxHeartbeats 0 in
theorem PySem.Challenge.cw_stackwarden_k51_straight_rows_holds : PySem.Challenge.rw_stackwarden_k51_straight_rows.Holds := by
  w_on; refine PySem.W.holds_law SD.RB fun RB => ?_
  refine PySem.W.holds_open (q := (MH.cE PySem.Challenge.pw_stackwarden_k51_straight_rows)) (loose := ["ALWAYS", "LEFT"]) (Xt := (fun s => xlAt (MH.cE PySem.Challenge.pw_stackwarden_k51_straight_rows) [] s && recOk (RowW.records (OpenRow.toRowW PySem.Challenge.rw_stackwarden_k51_straight_rows.row)) s)) (XP := XL (MH.cE PySem.Challenge.pw_stackwarden_k51_straight_rows) []) (Yf := Hook.obs (kHook MH.K MH.NS MH.p7)) (Ya := Hook.val (kHook MH.K MH.NS MH.p7)) (YP := Hook.says (kHook MH.K MH.NS MH.p7)) (N := 6034) MH.hl (Hook.of (kHook MH.K MH.NS MH.p7)) (Hook.keeps (kHook MH.K MH.NS MH.p7)) (fun s e => xl_of s (Bool.and_eq_true_iff.mp e).1) XL.keeps (by rfl) (by rfl) (by rfl) (fun s e => recFacts_of (Bool.and_eq_true_iff.mp e).2) (by rfl) (by first | assumption | decide +kernel) (by decide +kernel) ⟨rfl, rfl, rfl, rfl, rfl, by decide +kernel⟩ ?hw ?hc
  case hw => w_witness2
  k_fill
  refine Mine.walk (l := PySem.Challenge.rw_stackwarden_k51_straight_rows) rfl rfl (fun w h Y => PySem.W.kIn_of Y) ?F
  case F =>
    intro w mg fa h KX G hmg
    refine' Mine.all_mk KX G hmg ?d0 ?d1 ?d2 ?d3 ?d4 ?d5 ?d6 ?d7 ?d8 ?d9 ?WO ?WQ ?WR ?WS ?WT ?WU ?WV ?WW ?WX ?WY ?WZ ?W0 ?W2 ?W3 ?W4 ?W5 ?W6 ?W7 ?W8 ?W9 ?Xa ?Xb ?Xc ?Xd ?Xe ?Xf ?Xg ?Xh ?Xi ?Xj ?Xk ?Xl ?Xm ?Xn ?Xo ?Xp ?Rx ?Xq ?Xr ?fu ?fv ?lQ ?oU ?dY ?fD ?fE ?lR ?lS ?lT ?lU ?lV ?lW ?lX ?lZ ?j7 ?ma ?md ?me ?oQ ?sZ ?Hb ?fM ?fN ?fO ?fP ?fQ ?fR ?Hc ?Hd ?Uk ?n_b ?Ul ?He ?jn ?tJ ?nC ?nE ?lP ?mG ?ib ?iN ?oS ?oW ?tD ?Ao ?tK ?tL ?eY ?fF ?e7 ?z_all ?z_bool ?z_dict ?z_enumerate ?z_int ?z_isinstance ?z_len ?z_list ?z_max ?z_min ?z_range ?z_sum ?z_tuple ?oO
    (case d0 | d1 | d2 | d3 | d4 | d5 | d6 | d7 | d8 | d9 | WO | WQ | WR | WS | WT | WU | WV | WW | WX | WY | WZ | W0 | W2 | W3 | W4 | W5 | W6 | W7 | W8 | W9 | Xa | Xb | Xc | Xd | Xe | Xf | Xg | Xh | Xi | Xj | Xk | Xl | Xm | Xn | Xo => walk_at "dk")
    (case Xp | Rx | Xq | Xr | fu => k_is)
    (case fv => kts_isx)
    (case lQ => k_is)
    (case oU => kts_isx)
    (case dY => k_is)
    (case fD => k_exc)
    (case fE => kts_isx)
    (case lR | lS | lT | lU | lV | lW | lX | lZ => k_is)
    (case j7 => kernel_rfl!)
    (case ma | md | me => k_is)
    (case oQ | sZ => refine L2.Pe ?_ ?_ ?_ ?_ ?_ ?_ <;> first | (show _ = some true; kit_is) | (show _ = some false; kit_is))
    (case Hb | fM | fN | fO | fP | fQ | fR => k_is)
    (case Hc | Hd => kit_is)
    (case Uk | n_b | Ul => first | rfl | decide | k_is)
    (case He => kit_is)
    (case jn => k_is)
    (case tJ => first | rfl | decide | k_is)
    (case nC | nE => kernel_rfl!)
    (case lP => k_is)
    (case mG => kernel_rfl!)
    (case ib => k_is)
    (case iN => kernel_rfl!)
    (case oS => k_is)
    (case oW => kernel_rfl!)
    (case tD => k_is)
    (case Ao => first | rfl | decide | k_is)
    (case tK | tL => kernel_rfl!)
    (case eY => k_is)
    (case fF => kernel_rfl!)
    (case e7 | z_all | z_bool | z_dict | z_enumerate | z_int | z_isinstance | z_len | z_list | z_max | z_min | z_range | z_sum | z_tuple | oO => k_is)
#print axioms PySem.Challenge.cw_stackwarden_k51_straight_rows_holds
