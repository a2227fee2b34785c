import PyProof.Rows.All
import Wide.All
import OpenK.AllK
import Wide.FinOn
import Lean
import PyProof.EqAt
import PyProof.EqKinds
import PyProof.TupleCall
import PyProof.ZipIter
import KE.KTryDeep
import KE.KIsAll
import KE.KIntText
import PyProof.ExcArgsOwn
import PySem.Challenge.RW_stackwarden_k43_where_rows_lead
set_option Elab.async false
set_option linter.all false
set_option maxRecDepth 100000
namespace L2
open PySem PySem.Spec PyProof.Rows
abbrev Key := Sum Int Str
def keyIs : Key → Value → Bool
  | .inl k, v => Value.isInt k v
  | .inr x, v => Value.isStrOf x v
def keyH (w : World) : Key → Int
  | .inl k => hashInt k
  | .inr x => hashStr w x
theorem keyIs_shape : ∀ {k : Key} {v : Value}, keyIs k v = true → (∃ i t, k = Sum.inl i ∧ v = Value.int i t) ∨ (∃ x t, k = Sum.inr x ∧ v = Value.str x t)
  | .inl i, v, h => by
    obtain ⟨t, e⟩ := Value.isInt_shape (k := i) (v := v) h
    exact .inl ⟨i, t, rfl, e⟩
  | .inr x, v, h => by
    obtain ⟨t, e⟩ := Value.isStrOf_shape (x := x) (v := v) h
    exact .inr ⟨x, t, rfl, e⟩
theorem key_ll (a b : Int) : decide ((Sum.inl a : Key) = Sum.inl b) = (a == b) := by
  by_cases e : a = b
  · subst e; simp
  · have h : ¬ (Sum.inl a : Key) = Sum.inl b := fun q => e (Sum.inl.inj q)
    rw [decide_eq_false h]
    exact (beq_eq_false_iff_ne.mpr e).symm
theorem key_rr (a b : Str) : decide ((Sum.inr a : Key) = Sum.inr b) = decide (a = b) := by
  by_cases e : a = b
  · subst e; simp
  · have h : ¬ (Sum.inr a : Key) = Sum.inr b := fun q => e (Sum.inr.inj q)
    rw [decide_eq_false h, decide_eq_false e]
theorem key_lr (a : Int) (b : Str) : decide ((Sum.inl a : Key) = Sum.inr b) = false := decide_eq_false (fun q => nomatch q)
theorem key_rl (a : Str) (b : Int) : decide ((Sum.inr a : Key) = Sum.inl b) = false := decide_eq_false (fun q => nomatch q)
def mixKind (prog : Program) (w : World) : PySem.KeyKind prog w Key where
  is := keyIs
  hash := keyH w
  inj := fun v a b ha hb => by
    rcases keyIs_shape ha with ⟨i, t, rfl, rfl⟩ | ⟨x, t, rfl, rfl⟩
    · rcases keyIs_shape hb with ⟨j, u, rfl, e⟩ | ⟨y, u, rfl, e⟩
      · injection e with e1 _; rw [e1]
      · exact nomatch e
    · rcases keyIs_shape hb with ⟨j, u, rfl, e⟩ | ⟨y, u, rfl, e⟩
      · exact nomatch e
      · injection e with e1 _; rw [e1]
  byValue := fun k v h => by
    rcases keyIs_shape h with ⟨i, t, rfl, rfl⟩ | ⟨x, t, rfl, rfl⟩ <;> rfl
  pyHash := fun hv h => by
    rcases keyIs_shape hv with ⟨i, t, rfl, rfl⟩ | ⟨x, t, rfl, rfl⟩
    · exact wpAny_pyHash_int h
    · exact wpAny_pyHash_str h
  eqBool := fun hu hv h => by
    rcases keyIs_shape hu with ⟨i, t, rfl, rfl⟩ | ⟨x, t, rfl, rfl⟩
    · rcases keyIs_shape hv with ⟨j, u, rfl, rfl⟩ | ⟨y, u, rfl, rfl⟩
      · rw [key_ll] at h; exact wpAny_eqBool_int h
      · rw [key_lr] at h; exact SeqAt.EqAt.int_str i t y u _ _ _ _ h
    · rcases keyIs_shape hv with ⟨j, u, rfl, rfl⟩ | ⟨y, u, rfl, rfl⟩
      · rw [key_rl] at h; exact SeqAt.EqAt.str_int x t j u _ _ _ _ h
      · rw [key_rr] at h; exact wpAny_eqBool_str h
  «strs» := fun k x t v h => by
    rcases keyIs_shape h with ⟨i, u, rfl, e⟩ | ⟨y, u, rfl, e⟩
    · exact nomatch e
    · injection e with e1 _
      subst e1
      cases v <;> rfl
end L2
namespace L2
open PySem PySem.Spec PyProof.Rows
inductive V where
  | non | bl (b : Bool) | int (i : Int) | str (x : Str) | byt (b : Array UInt8) | flt (b : UInt64) | ref (a : Addr) | ty (n : String)
  deriving DecidableEq
def RelV : V → Value → Prop
  | .non, u => u = Value.none
  | .bl b, u => u = Value.bool b
  | .int i, u => ∃ t, u = Value.int i t
  | .str x, u => ∃ t, u = Value.str x t
  | .byt b, u => ∃ t, u = Value.bytes b t
  | .flt b, u => ∃ t, u = Value.float b t
  | .ref a, u => u = Value.ref a
  | .ty n, u => u = Value.type n
abbrev Vals : List V → List Value → Prop := Paired RelV
theorem Vals.length {xs : List V} {us : List Value} (r : Vals xs us) : xs.length = us.length := Paired.length r
theorem Vals.get : ∀ {xs : List V} {us : List Value} {i : Nat} {x : V}, Vals xs us → xs[i]? = some x → ∃ u, us[i]? = some u ∧ RelV x u
  | _, _, _, _, .nil, e => by simp at e
  | _, _, 0, _, .cons r _, e => by simp at e; subst e; exact ⟨_, rfl, r⟩
  | _, _, i + 1, x, .cons _ t, e => by
    obtain ⟨u, h1, h2⟩ := Vals.get (i := i) (x := x) t (by simpa using e)
    exact ⟨u, by simpa using h1, h2⟩
theorem Vals.set {x : V} {u : Value} (r : RelV x u) : ∀ {xs : List V} {us : List Value} (i : Nat), Vals xs us → Vals (xs.set i x) (us.set i u)
  | _, _, _, .nil => .nil
  | _, _, 0, .cons _ t => .cons r t
  | _, _, i + 1, .cons q t => .cons q (Vals.set r i t)
theorem Vals.append : ∀ {xs ys : List V} {us ws : List Value}, Vals xs us → Vals ys ws → Vals (xs ++ ys) (us ++ ws)
  | _, _, _, _, .nil, s => s
  | _, _, _, _, .cons r t, s => .cons r (Vals.append t s)
theorem Vals.take : ∀ {xs : List V} {us : List Value} (n : Nat), Vals xs us → Vals (xs.take n) (us.take n)
  | _, _, 0, _ => .nil
  | _, _, _ + 1, .nil => .nil
  | _, _, n + 1, .cons r t => .cons r (Vals.take n t)
theorem Vals.drop : ∀ {xs : List V} {us : List Value} (n : Nat), Vals xs us → Vals (xs.drop n) (us.drop n)
  | _, _, 0, r => r
  | _, _, _ + 1, .nil => .nil
  | _, _, n + 1, .cons _ t => Vals.drop n t
def RelO : Option V → Option Value → Prop
  | some v, some u => RelV v u
  | none, none => True
  | _, _ => False
def KV {κ : Type} : List (κ × V) → List (κ × Value) → Prop := Paired fun (p : κ × V) (q : κ × Value) => p.1 = q.1 ∧ RelV p.2 q.2
def kV : Key → V
  | .inl i => .int i
  | .inr x => .str x
inductive HO where
  /-- a list -/
  | lst (xs : List V)
  /-- a tuple (never changes) -/
  | tup (xs : List V)
  /-- a dict whose keys are ints and texts; one whose keys are tuples of ints and texts (the empty one is both) -/
  | dK (kvs : List (Key × V)) | dT (kvs : List (List Key × V))
  /-- a set of ints: its members, its size -/
  | set (S : Int → Bool) (n : Nat)
  /-- an instance of the class at C, its dict at dx, its attributes -/
  | ins (C dx : Addr) (fs : List (Str × V))
  /-- the dict of the instance at x -/
  | own (x : Addr)
  /-- the dict of an exception -/
  | xd (fs : List (Str × V))
  /-- a bound method, f of x -/
  | met (f x : Addr)
  /-- a range object lo, lo + 1, .. below hi -/
  | rng (lo hi : Int)
  /-- a thing that is known to the object (the script; a dict while a loop walks it): read, never written while it is so -/
  | frz (o : Obj) (u : HO)
  /-- a code object's table -/
  | tbl (ps : Array Value)
  /-- any other thing, by what is true of its one object (a def of one's own: SetO a S n := HO.ext fun h => ..) -/
  | ext (φ : Heap → Prop)
abbrev Hp := Addr → Option HO
def upd (H : Hp) (a : Addr) (o : HO) : Hp := fun b => if b = a then some o else H b
theorem upd_same {H : Hp} {a : Addr} {o : HO} : upd H a o a = some o := by unfold upd; rw [if_pos rfl]
theorem upd_ne {H : Hp} {a b : Addr} {o : HO} (h : b ≠ a) : upd H a o b = H b := by unfold upd; rw [if_neg h]
theorem upd_upd {H : Hp} {a : Addr} {o u : HO} : upd (upd H a o) a u = upd H a u := by
  funext b; unfold upd; split <;> rfl
theorem ne_of {H : Hp} {a b : Addr} {o u : HO} (h : H a = some o) (h' : H b = some u) (d : o ≠ u) : a ≠ b := by
  intro e; subst e; rw [h] at h'; exact d (Option.some.inj h')
theorem ne_of_none {H : Hp} {a b : Addr} {o : HO} (h : H a = some o) (h' : H b = none) : a ≠ b := by
  intro e; subst e; rw [h] at h'; cases h'
section
variable (P : Program) (w : World)
def ObjOk (H : Hp) (h : Heap) (a : Addr) : HO → Prop
  | .lst xs => xs.length ≤ sizeLine ∧ ∃ (its : List Value) (n : Nat), Vals xs its ∧ h.get? a = some { cls := .type "list", data := .seq its.toArray n }
  | .tup xs => xs.length ≤ sizeLine ∧ ∃ its : List Value, Vals xs its ∧ IsTup h a its.toArray
  | .dK kvs => kvs.length ≤ sizeLine ∧ (a == sysModules) = false ∧ ∃ vs, KV kvs vs ∧ h.DictOf (mixKind P w) a vs
  | .dT kvs => kvs.length ≤ sizeLine ∧ (a == sysModules) = false ∧ ∃ xs : List (List Key × Addr × Value),
      Paired (fun (p : List Key × V) (q : List Key × Addr × Value) => p.1 = q.1 ∧ H q.2.1 = some (.tup (p.1.map kV)) ∧ RelV p.2 q.2.2) kvs xs ∧
      ∃ o es ep, h.get? a = some o ∧ o.ExactDict ∧ o.data = .dict es ep ∧ es.toList = xs.map (entryOfKey (tupleKind (mixKind P w))) ∧ (xs.map (·.1)).Nodup
  | .set S n => h.SetOf (intKind P w) a S n
  | .ins C dx fs => H dx = some (.own a) ∧ fs.length ≤ 1000 ∧ dx ≠ a ∧ h.get? a = some (PySem.W.instObj C dx) ∧
      ∃ mA, h.Ns1 dx mA ∧ (∀ f, RelO (fs.lookup f) (mA f)) ∧ PySem.Within mA (fs.map (·.1))
  | .own _ => ∃ o, h.get? a = some o
  | .xd fs => ∃ mA, h.Ns1 a mA ∧ ∀ f, RelO (fs.lookup f) (mA f)
  | .rng lo hi => ∃ t u v, h.get? a = some { cls := .type "range", data := .fields #[.int lo t, .int hi u, .int 1 v] }
  | .frz o u => h.get? a = some o ∧ ObjOk H h a u
  | .tbl ps => h.get? a = some { cls := .none, data := .fields ps }
  | .met f x => h.get? a = some (PySem.W.methodObj (.ref f) (.ref x))
  | .ext φ => φ h ∧ (∃ o, h.get? a = some o) ∧ ∀ h1 h2 : Heap, φ h1 → (∀ o, h1.get? a = some o → h2.get? a = some o) → φ h2
def HOk (H : Hp) (h : Heap) : Prop := ∀ a o, H a = some o → ObjOk P w H h a o
end
section
variable {P : Program} {w : World} {H H' : Hp} {h h' : Heap} {a : Addr} {o : HO}
theorem ObjOk.lt (x : ObjOk P w H h a o) : a < h.objs.size := by
  cases o with
  | lst xs => obtain ⟨_, _, _, _, e⟩ := x; exact Heap.lt_size e
  | tup xs => obtain ⟨_, _, _, p⟩ := x; exact p.lt
  | dK kvs => obtain ⟨_, _, _, _, o, _, _, e, _⟩ := x; exact Heap.lt_size e
  | dT kvs => obtain ⟨_, _, _, _, o, _, _, e, _⟩ := x; exact Heap.lt_size e
  | set S n => obtain ⟨o, _, _, _, e, _⟩ := x; exact Heap.lt_size e
  | ins C dx fs => obtain ⟨_, _, _, e, _⟩ := x; exact Heap.lt_size e
  | own y => obtain ⟨_, e⟩ := x; exact Heap.lt_size e
  | xd fs => obtain ⟨_, ⟨_, _, _, e, _⟩, _⟩ := x; exact Heap.lt_size e
  | rng lo hi => obtain ⟨_, _, _, e⟩ := x; exact Heap.lt_size e
  | frz ob u => obtain ⟨e, _⟩ := x; exact Heap.lt_size e
  | tbl ps => exact Heap.lt_size (show h.get? a = some _ from x)
  | met f y => exact Heap.lt_size (show h.get? a = some _ from x)
  | ext φ => obtain ⟨_, ⟨_, e⟩, _⟩ := x; exact Heap.lt_size e
theorem Paired.mapP {α β : Type} {F G : α → β → Prop} : ∀ {l₁ : List α} {l₂ : List β}, Paired F l₁ l₂ → (∀ a b, F a b → G a b) → Paired G l₁ l₂
  | _, _, .nil, _ => .nil
  | _, _, .cons r t, f => .cons (f _ _ r) (Paired.mapP t f)
theorem ObjOk.stay (x : ObjOk P w H h a o) (k : ∀ b u, (b = a ∨ H b = some (.own a)) → h.get? b = some u → h'.get? b = some u)
    (ho : ∀ b, H b = some (.own a) → H' b = some (.own a)) (ht : ∀ b xs, H b = some (.tup xs) → H' b = some (.tup xs)) : ObjOk P w H' h' a o := by
  induction o with
  | lst xs => obtain ⟨z, its, n, r, e⟩ := x; exact ⟨z, its, n, r, k _ _ (.inl rfl) e⟩
  | tup xs => obtain ⟨z, its, r, ob, e, c⟩ := x; exact ⟨z, its, r, ob, k _ _ (.inl rfl) e, c⟩
  | dK kvs => obtain ⟨z, y, vs, r, ob, es, ep, e, c⟩ := x; exact ⟨z, y, vs, r, ob, es, ep, k _ _ (.inl rfl) e, c⟩
  | dT kvs =>
    obtain ⟨z, y, xs, r, ob, es, ep, e, c⟩ := x
    exact ⟨z, y, xs, Paired.mapP r fun p q z => ⟨z.1, ht _ _ z.2.1, z.2.2⟩, ob, es, ep, k _ _ (.inl rfl) e, c⟩
  | set S n => obtain ⟨ob, es, ep, t, e, c⟩ := x; exact ⟨ob, es, ep, t, k _ _ (.inl rfl) e, c⟩
  | ins C dx fs =>
    obtain ⟨d, z, ne, e, mA, ⟨od, es, ep, e2, c⟩, r⟩ := x
    exact ⟨ho _ d, z, ne, k _ _ (.inl rfl) e, mA, ⟨od, es, ep, k _ _ (.inr d) e2, c⟩, r⟩
  | own y => obtain ⟨ob, e⟩ := x; exact ⟨ob, k _ _ (.inl rfl) e⟩
  | xd fs => obtain ⟨mA, ⟨od, es, ep, e, c⟩, r⟩ := x; exact ⟨mA, ⟨od, es, ep, k _ _ (.inl rfl) e, c⟩, r⟩
  | rng lo hi => obtain ⟨t, u, v, e⟩ := x; exact ⟨t, u, v, k _ _ (.inl rfl) e⟩
  | frz ob u ih => obtain ⟨e, q⟩ := x; exact ⟨k _ _ (.inl rfl) e, ih q⟩
  | tbl ps =>
    have e : h.get? a = some { cls := .none, data := .fields ps } := x
    show h'.get? a = some { cls := .none, data := .fields ps }
    exact k a _ (.inl rfl) e
  | met f y =>
    have e : h.get? a = some (PySem.W.methodObj (.ref f) (.ref y)) := x
    show h'.get? a = some (PySem.W.methodObj (.ref f) (.ref y))
    exact k a _ (.inl rfl) e
  | ext φ => obtain ⟨p, ⟨o, e⟩, st⟩ := x; exact ⟨st _ _ p fun o q => k _ _ (.inl rfl) q, ⟨o, k _ _ (.inl rfl) e⟩, st⟩
theorem HOk.lt (x : HOk P w H h) (e : H a = some o) : a < h.objs.size := (x a o e).lt
theorem HOk.fresh (x : HOk P w H h) (e : h.objs.size ≤ a) : H a = none := by
  cases q : H a with
  | none => rfl
  | some u => exact absurd (Nat.lt_of_lt_of_le (x.lt q) e) (Nat.lt_irrefl _)
theorem HOk.kept (x : HOk P w H h) (k : ∀ b u, h.get? b = some u → h'.get? b = some u) : HOk P w H h' := fun a o e =>
  (x a o e).stay (fun b u _ q => k b u q) (fun _ q => q) fun _ _ q => q
theorem HOk.laid (x : HOk P w H h) (k : ∀ b u, h.get? b = some u → h'.get? b = some u) (hp : h.objs.size ≤ a) (new : ObjOk P w (upd H a o) h' a o) : HOk P w (upd H a o) h' := fun b u e => by
  have hn := x.fresh hp
  by_cases hb : b = a
  · subst hb; rw [upd_same] at e; cases e; exact new
  · rw [upd_ne hb] at e
    exact (x b u e).stay (fun c v _ q => k c v q) (fun c q => by rw [upd_ne (ne_of_none q hn)]; exact q) fun c xs q => by rw [upd_ne (ne_of_none q hn)]; exact q
end
def Rd (H : Hp) (a : Addr) (u : HO) : Prop := H a = some u ∨ ∃ o, H a = some (.frz o u)
theorem Rd.of {H : Hp} {a : Addr} {u : HO} (h : H a = some u) : Rd H a u := .inl h
theorem Rd.ok {P : Program} {w : World} {H : Hp} {h : Heap} {a : Addr} {u : HO} (r : Rd H a u) (x : HOk P w H h) : ObjOk P w H h a u := by
  rcases r with r | ⟨o, r⟩
  · exact x a u r
  · obtain ⟨_, q⟩ := x a _ r
    exact q
def Mut : Option HO → Prop
  | some (.lst _) => True
  | some (.dK _) => True
  | some (.dT _) => True
  | some (.set _ _) => True
  | some (.ins _ _ _) => True
  | some (.ext _) => True
  | _ => False
section
variable {P : Program} {w : World} {H : Hp} {h h' : Heap} {x e : Addr} {o' : HO}
theorem HOk.write (ok : HOk P w H h) (mu : Mut (H x)) (he : e = x ∨ H e = some (.own x)) (k : ∀ b u, b ≠ e → h.get? b = some u → h'.get? b = some u) (heo : ∃ u, h'.get? e = some u)
    (new : ObjOk P w (upd H x o') h' x o') : HOk P w (upd H x o') h' := fun b u q => by
  have nown : ∀ c y, H c = some (.own y) → c ≠ x := fun c y r z => by subst z; rw [r] at mu; exact mu
  have ntup : ∀ c xs, H c = some (.tup xs) → c ≠ x := fun c xs r z => by subst z; rw [r] at mu; exact mu
  by_cases hb : b = x
  · subst hb; rw [upd_same] at q; cases q; exact new
  · rw [upd_ne hb] at q
    by_cases hbe : b = e
    · have q' : H b = some (.own x) := by
        rcases he with z | z
        · exact absurd (hbe.trans z) hb
        · rw [hbe]; exact z
      rw [q] at q'; cases q'
      obtain ⟨v, hv⟩ := heo
      exact ⟨v, by rw [hbe]; exact hv⟩
    · refine (ok b u q).stay (fun c v hc r => k c v ?_ r) (fun c r => by rw [upd_ne (nown c b r)]; exact r) fun c xs r => by rw [upd_ne (ntup c xs r)]; exact r
      rcases hc with rfl | hc
      · exact hbe
      · rintro rfl
        rcases he with z | z
        · exact nown c b hc z
        · rw [hc] at z; cases z; exact hb rfl
end
structure Un (fs ex : List Addr) (H H' : Hp) (h h' : Heap) : Prop where
  keep : ∀ b o, h.get? b = some o → H b = none → b ∉ fs → b ∉ ex → h'.get? b = some o
  slot : ∀ b o, h.get? b = some o → H b = none → b ∈ fs → b ∉ ex → ∃ sl, h'.get? b = some { o with slots := sl }
  free : ∀ b o, h.get? b = some o → H b = none → b ∉ ex → H' b = none
  there : ∀ b o, h.get? b = some o → b ∉ ex → ∃ o', h'.get? b = some o'
  tups : ∀ b xs, H b = some (.tup xs) → H' b = some (.tup xs)
  frzs : ∀ b o u, H b = some (.frz o u) → H' b = some (.frz o u)
  tbls : ∀ b ps, H b = some (.tbl ps) → ∃ more, H' b = some (.tbl (ps ++ more))
section
variable {fs fs' ex ex' : List Addr} {H H1 H2 : Hp} {h h1 h2 h' : Heap} {a x e : Addr} {o : HO}
theorem Un.any (u : Un fs ex H H1 h h1) {b : Addr} {ob : Obj} (q : h.get? b = some ob) (n : H b = none) (hx : b ∉ ex) : ∃ sl, h1.get? b = some { ob with slots := sl } := by
  by_cases hb : b ∈ fs
  · exact u.slot b ob q n hb hx
  · exact ⟨ob.slots, u.keep b ob q n hb hx⟩
theorem Un.trans (a : Un fs ex H H1 h h1) (b : Un fs ex H1 H2 h1 h2) : Un fs ex H H2 h h2 where
  keep := fun c ob q n hc hx => b.keep c ob (a.keep c ob q n hc hx) (a.free c ob q n hx) hc hx
  slot := fun c ob q n hc hx => by
    obtain ⟨sl, e1⟩ := a.slot c ob q n hc hx
    obtain ⟨sl', e2⟩ := b.slot c _ e1 (a.free c ob q n hx) hc hx
    exact ⟨sl', e2⟩
  free := fun c ob q n hx => by
    obtain ⟨o', e1⟩ := a.there c ob q hx
    exact b.free c o' e1 (a.free c ob q n hx) hx
  there := fun c ob q hx => by
    obtain ⟨o', e1⟩ := a.there c ob q hx
    exact b.there c o' e1 hx
  tups := fun c xs q => b.tups c xs (a.tups c xs q)
  frzs := fun c ob xs q => b.frzs c ob xs (a.frzs c ob xs q)
  tbls := fun c ps q => by
    obtain ⟨m1, e1⟩ := a.tbls c ps q
    obtain ⟨m2, e2⟩ := b.tbls c _ e1
    exact ⟨m1 ++ m2, by rw [e2, Array.append_assoc]⟩
theorem Un.kept (k : ∀ b u, h.get? b = some u → h'.get? b = some u) : Un fs ex H H h h' :=
  ⟨fun b ob q _ _ _ => k b ob q, fun b ob q _ _ _ => ⟨ob.slots, k b ob q⟩, fun _ _ _ n _ => n, fun b ob q _ => ⟨ob, k b ob q⟩, fun _ _ q => q, fun _ _ _ q => q, fun _ ps q => ⟨#[], by rw [q]; simp⟩⟩
theorem Un.refl : Un fs ex H H h h := Un.kept fun _ _ q => q
theorem Un.laid (k : ∀ b u, h.get? b = some u → h'.get? b = some u) (hp : h.objs.size ≤ a) (hn : H a = none) : Un fs ex H (upd H a o) h h' where
  keep := fun b u q _ _ _ => k b u q
  slot := fun b u q _ _ _ => ⟨u.slots, k b u q⟩
  free := fun b u q n _ => by rw [upd_ne (Nat.ne_of_lt (Nat.lt_of_lt_of_le (Heap.lt_size q) hp))]; exact n
  there := fun b u q _ => ⟨u, k b u q⟩
  tups := fun b xs q => by rw [upd_ne (ne_of_none q hn)]; exact q
  frzs := fun b u xs q => by rw [upd_ne (ne_of_none q hn)]; exact q
  tbls := fun b ps q => ⟨#[], by rw [upd_ne (ne_of_none q hn), q]; simp⟩
theorem Un.write (mu : Mut (H x)) (he : e = x ∨ H e = some (.own x)) (k : ∀ b u, b ≠ e → h.get? b = some u → h'.get? b = some u) (heo : ∃ u, h'.get? e = some u) : Un fs ex H (upd H x o) h h' := by
  have hx : ∀ b, H b = none → b ≠ x := fun b n z => by subst z; rw [n] at mu; exact mu
  have hb : ∀ b, H b = none → b ≠ e := fun b n z => by
    subst z
    rcases he with r | r
    · exact hx b n r
    · rw [n] at r; cases r
  have hm : ∀ b u, H b = some u → ¬ Mut (some u) → b ≠ x := fun b u q nm z => by subst z; rw [q] at mu; exact nm mu
  refine ⟨fun b u q n _ _ => k b u (hb b n) q, fun b u q n _ _ => ⟨u.slots, k b u (hb b n) q⟩, fun b u q n _ => by rw [upd_ne (hx b n)]; exact n, fun b u q _ => ?_,
    fun b xs q => by rw [upd_ne (hm b _ q fun z => z)]; exact q, fun b u xs q => by rw [upd_ne (hm b _ q fun z => z)]; exact q, fun b ps q => ⟨#[], by rw [upd_ne (hm b _ q fun z => z), q]; simp⟩⟩
  by_cases hbe : b = e
  · subst hbe; exact heo
  · exact ⟨u, k b u hbe q⟩
theorem Un.mono (u : Un fs ex H H1 h h1) (hs : ∀ b ∈ fs, b ∈ fs') (hx : ∀ b ∈ ex, b ∈ ex') : Un fs' ex' H H1 h h1 :=
  ⟨fun b ob q n hb he => u.keep b ob q n (fun z => hb (hs b z)) fun z => he (hx b z), fun _ _ q n _ he => u.any q n fun z => he (hx _ z), fun b ob q n he => u.free b ob q n fun z => he (hx b z), fun b ob q he => u.there b ob q fun z => he (hx b z), u.tups, u.frzs, u.tbls⟩
end
def trk (h : Heap) (H : Hp) : List Addr := (List.range h.objs.size).filter fun a => (H a).isSome
def hidT (h : Heap) (H : Hp) : Heap := PySem.W.hideAll h (trk h H)
theorem hidT_size (h : Heap) (H : Hp) : (hidT h H).objs.size = h.objs.size := PySem.W.hideAll_size _ _
theorem hidT_get {h : Heap} {H : Hp} {b : Addr} {o : Obj} (e : h.get? b = some o) (n : H b = none) : (hidT h H).get? b = some o :=
  PySem.W.hideAll_get _ e fun hm => by
    have q : (H b).isSome = true := (List.mem_filter.mp hm).2
    rw [n] at q; simp at q
theorem of_hidT {h : Heap} {H : Hp} {b : Addr} {o : Obj} (e : (hidT h H).get? b = some o) : h.get? b = some o ∧ H b = none := by
  have e' : h.get? b = some o := PySem.W.of_hideAll (trk h H) e
  refine ⟨e', ?_⟩
  cases q : H b with
  | none => rfl
  | some x =>
    have hm : b ∈ trk h H := List.mem_filter.mpr ⟨List.mem_range.mpr (Heap.lt_size e'), by simp [q]⟩
    have z : (hidT h H).get? b = none := PySem.W.hideAll_none (trk h H) hm
    rw [z] at e; cases e
def allNews (g h : Heap) (L : Addr) : List (Addr × Obj) := (List.range h.objs.size).filterMap fun a => if a = L ∨ (g.get? a).isSome = true then none else (h.get? a).map fun o => (a, o)
def rest (g h : Heap) (L d : Addr) : List (Addr × Obj) := (allNews g h L).filter fun p => decide (p.1 ≠ d)
end L2
namespace L2
open PySem PySem.Spec PyProof.Rows
structure Mod (K : PySem.W.Frag) (mg : Str → Option Value) (base : Heap) : Prop where
  kin : K.In base
  glob : base.Ns mainGlobals mg
  blt : ∃ mb, base.Ns builtinsNs mb ∧ ∀ x : Str, x ≠ "__name__" → mb x = bootBuiltins x
  nolimit : base.NoLimit
structure Cx where
  prog : Program
  w : World
  K : PySem.W.Frag
  mg : Str → Option Value
  base : Heap
  A : Around
  N : List Str
  s₀ : Shared
  H₀ : Hp
  env : Env
  outer : List Env
  stack : List Env
  ex : List Addr
  fn : Str → Bool
  calm : Bool
  pn : List (Addr × Obj)
  xe : Value → Shared → Prop
def frs (l : List Env) : List Addr := l.filterMap (·.frame)
abbrev Cx.fs (X : Cx) : List Addr := frs X.outer
def Vis (sc : Scope) (x : Str) : Prop := sc.names.lookup x = some .local ∨ sc.names.lookup x = some .cell ∨ sc.names.lookup x = some .free
def Loc (sc : Scope) (x : Str) : Prop := sc.names.lookup x = some .local ∨ sc.names.lookup x = some .cell
def Look (env : Env) (h : Heap) (m : Str → Option Value) (x : Str) (u : Value) : Prop :=
  (env.kindOf x = some .local ∧ m x = some u) ∨ ((env.kindOf x = some .cell ∨ env.kindOf x = some .free) ∧ ∃ c, env.cells.lookup x = some c ∧ h.IsCell c (some u))
structure Cx.Ok (X : Cx) : Prop where
  mod : Mod X.K X.mg X.base
  kind : X.env.scope.kind = .function
  glob : X.env.globals = mainGlobals
  blt : X.env.builtins = builtinsNs
  above : X.s₀.heap.objs.size ≤ X.env.locals
  inj : ∀ x y c, X.env.cells.lookup x = some c → X.env.cells.lookup y = some c → x = y
  has : ∀ x, (X.env.kindOf x = some .cell ∨ X.env.kindOf x = some .free) → ∃ c, X.env.cells.lookup x = some c
  cab : ∀ x c, X.fn x = true → X.env.cells.lookup x = some c → X.s₀.heap.objs.size ≤ c
  hd : X.calm = true → X.A.handled = none
  frames : X.A.frames = some X.stack
  stk : X.stack = X.outer ∨ (X.stack = X.env :: X.outer ∧ X.env.frame = some X.env.locals)
  exf : ∀ b ∈ X.ex, b ≠ X.env.locals ∧ ∀ x c, X.env.cells.lookup x = some c → c ≠ b
  bs : ∀ b o, X.base.get? b = some o → X.s₀.heap.get? b = some o ∧ X.H₀ b = none
  bsz : X.base.objs.size ≤ X.s₀.heap.objs.size
  noex : ∀ b o, X.base.get? b = some o → b ∉ X.ex
  exfs : ∀ b ∈ X.ex, b ∉ X.fs
  funs : X.s₀.heap.FunFrames X.base X.outer
  frf : ∀ b ∈ X.fs, X.H₀ b = none
structure Inv (X : Cx) (pins : List (Addr × Obj)) (σ : List (Option V)) (H : Hp) (s : Shared) : Prop where
  ok : X.Ok
  os : s.os = X.s₀.os
  bare : AllBare s.gens
  base : Un X.fs X.ex X.H₀ H X.s₀.heap s.heap
  loc : ∃ m, s.heap.Ns X.env.locals m ∧ ∀ (i : Nat) (x : Str) (v : V), X.N[i]? = some x → σ[i]? = some (some v) → Vis X.env.scope x → ∃ u, RelV v u ∧ Look X.env s.heap m x u
  cell : ∀ x c, X.env.cells.lookup x = some c → ∃ v, s.heap.IsCell c v
  free : H X.env.locals = none
  freeC : ∀ x c, X.env.cells.lookup x = some c → H c = none
  pin : ∀ p ∈ X.pn ++ pins, s.heap.get? p.1 = some p.2 ∧ H p.1 = none ∧ p.1 ≠ X.env.locals ∧ p.1 ∉ X.fs ∧ ∀ v, p.2.data ≠ .cell v
  hok : HOk X.prog X.w H s.heap
  len : σ.length = X.N.length
section
variable {X : Cx} {pins : List (Addr × Obj)} {σ : List (Option V)} {H H' : Hp} {s : Shared} {h' : Heap}
theorem Cx.Ok.nofr (ok : X.Ok) {b : Addr} {o : Obj} (e : X.base.get? b = some o) : b ∉ X.fs := fun hb => by
  have := (ok.funs.mem hb).1
  rw [e] at this; cases this
theorem Inv.bs (I : Inv X pins σ H s) : ∀ b o, X.base.get? b = some o → s.heap.get? b = some o ∧ H b = none := fun b o e =>
  ⟨I.base.keep b o (I.ok.bs b o e).1 (I.ok.bs b o e).2 (I.ok.nofr e) (I.ok.noex b o e), I.base.free b o (I.ok.bs b o e).1 (I.ok.bs b o e).2 (I.ok.noex b o e)⟩
theorem Inv.bk (I : Inv X pins σ H s) : ∀ b o, X.base.get? b = some o → s.heap.get? b = some o := fun b o e => (I.bs b o e).1
theorem Inv.mod (I : Inv X pins σ H s) : Mod X.K X.mg X.base := I.ok.mod
theorem Inv.kIn (I : Inv X pins σ H s) : X.K.In s.heap := I.ok.mod.kin.keeps I.bk
theorem Inv.nolimit (I : Inv X pins σ H s) : s.heap.NoLimit := I.ok.mod.nolimit.keeps I.bk
theorem Inv.fr (I : Inv X pins σ H s) : ∃ m, Fr X.base X.env.locals s.heap m :=
  let ⟨m, hn, _⟩ := I.loc
  ⟨m, hn, I.bk, Nat.le_trans I.ok.bsz I.ok.above⟩
theorem Inv.lt (I : Inv X pins σ H s) : X.env.locals < s.heap.objs.size := let ⟨_, hn, _⟩ := I.loc; hn.lt
theorem Inv.sz (I : Inv X pins σ H s) : X.s₀.heap.objs.size ≤ s.heap.objs.size := Nat.le_trans I.ok.above (Nat.le_of_lt I.lt)
theorem Inv.nofs (I : Inv X pins σ H s) {a : Addr} (h : s.heap.objs.size ≤ a) : a ∉ X.fs := fun hb => by
  obtain ⟨_, o, ho, _⟩ := I.ok.funs.mem hb
  exact absurd (Nat.lt_of_lt_of_le (Heap.lt_size ho) (Nat.le_trans I.sz h)) (Nat.lt_irrefl _)
theorem Inv.cne (I : Inv X pins σ H s) : ∀ x c, X.env.cells.lookup x = some c → c ≠ X.env.locals := fun x c e z => by
  obtain ⟨v, o, ho, hd⟩ := I.cell x c e
  obtain ⟨m, ⟨o', es, ep, ho', hd', _⟩, _⟩ := I.loc
  rw [z, ho'] at ho; cases ho; rw [hd'] at hd; cases hd
theorem Inv.funs (I : Inv X pins σ H s) : s.heap.FunFrames X.base X.outer := by
  have all : ∀ (l : List Env), (∀ b ∈ frs l, b ∈ X.fs) → X.s₀.heap.FunFrames X.base l → s.heap.FunFrames X.base l := by
    intro l
    induction l with
    | nil => intro _ _; trivial
    | cons env r ih =>
      intro hs hl
      obtain ⟨hk, ⟨L, o, hf, hn, ho, hd⟩, hr⟩ := hl
      have hL : L ∈ X.fs := hs L (by unfold frs; rw [List.filterMap_cons, hf]; exact List.mem_cons_self)
      obtain ⟨sl, e⟩ := I.base.slot L o ho (I.ok.frf L hL) hL fun z => I.ok.exfs L z hL
      exact ⟨hk, ⟨L, _, hf, hn, e, hd⟩, ih (fun b hb => hs b (by unfold frs; rw [List.filterMap_cons, hf]; exact List.mem_cons_of_mem _ hb)) hr⟩
  exact all X.outer (fun _ hb => hb) I.ok.funs
theorem Inv.stack (I : Inv X pins σ H s) : s.heap.FunFrames X.base X.stack := by
  rcases I.ok.stk with e | ⟨e, hf⟩
  · rw [e]; exact I.funs
  · rw [e]
    obtain ⟨m, hn, _⟩ := I.loc
    refine .cons (by rw [I.ok.kind]; decide) hf hn ?_ I.funs
    exact Heap.get?_none_of_le (Nat.le_trans I.ok.bsz I.ok.above)
theorem Inv.stkSub (I : Inv X pins σ H s) : ∀ b ∈ frs X.stack, b ∈ X.env.locals :: X.fs := fun b hb => by
  rcases I.ok.stk with e | ⟨e, hf⟩
  · rw [e] at hb; exact List.mem_cons_of_mem _ hb
  · rw [e] at hb
    unfold frs at hb
    rw [List.filterMap_cons, hf] at hb
    exact hb
theorem Inv.stkFree (I : Inv X pins σ H s) : ∀ b ∈ frs X.stack, H b = none := fun b hb => by
  rcases List.mem_cons.mp (I.stkSub b hb) with e | hb
  · rw [e]; exact I.free
  · obtain ⟨_, o, ho, _⟩ := I.ok.funs.mem hb
    exact I.base.free b o ho (I.ok.frf b hb) fun z => I.ok.exfs b z hb
theorem Inv.step {g' : Array GenState} {t' : Nat} {d' : Drawn} {ch : List Addr} (I : Inv X pins σ H s)
    (hch : ∀ b ∈ ch, (b ∈ X.ex ∨ X.s₀.heap.objs.size ≤ b) ∧ b ≠ X.env.locals ∧ (∀ x c, X.env.cells.lookup x = some c → c ≠ b) ∧ ∀ p ∈ X.pn ++ pins, p.1 ≠ b)
    (keep : ∀ b o, b ≠ X.env.locals → b ∉ X.fs → b ∉ ch → s.heap.get? b = some o → H b = none → h'.get? b = some o)
    (slot : ∀ b o, b ≠ X.env.locals → b ∈ X.fs → b ∉ ch → s.heap.get? b = some o → H b = none → ∃ sl, h'.get? b = some { o with slots := sl }) (free : ∀ b o, b ∉ ch → s.heap.get? b = some o → H b = none → H' b = none)
    (there : ∀ b o, b ∉ ch → s.heap.get? b = some o → ∃ o', h'.get? b = some o')
    (tups : ∀ b xs, H b = some (.tup xs) → H' b = some (.tup xs)) (frzs : ∀ b o u, H b = some (.frz o u) → H' b = some (.frz o u)) (tbls : ∀ b ps, H b = some (.tbl ps) → ∃ more, H' b = some (.tbl (ps ++ more)))
    (ns : ∀ m, s.heap.Ns X.env.locals m → h'.Ns X.env.locals m) (hok : HOk X.prog X.w H' h') (hg : AllBare g') :
    Inv X pins σ H' { s with heap := h', gens := g', drawn := d', toks := t' } := by
  have neL : ∀ b o, X.s₀.heap.get? b = some o → b ≠ X.env.locals := fun b o e => Nat.ne_of_lt (Nat.lt_of_lt_of_le (Heap.lt_size e) I.ok.above)
  have neC : ∀ b o, X.s₀.heap.get? b = some o → b ∉ X.ex → b ∉ ch := fun b o e hx hb => by
    rcases (hch b hb).1 with z | z
    · exact hx z
    · exact absurd (Nat.lt_of_lt_of_le (Heap.lt_size e) z) (Nat.lt_irrefl _)
  have cellK : ∀ x c, X.env.cells.lookup x = some c → ∀ v, s.heap.IsCell c v → h'.IsCell c v := fun x c e v ⟨o, ho, hd⟩ => by
    have nch : c ∉ ch := fun z => (hch c z).2.2.1 x c e rfl
    by_cases hc : c ∈ X.fs
    · obtain ⟨sl, q⟩ := slot c o (I.cne x c e) hc nch ho (I.freeC x c e)
      exact ⟨_, q, hd⟩
    · exact ⟨o, keep c o (I.cne x c e) hc nch ho (I.freeC x c e), hd⟩
  refine ⟨I.ok, I.os, hg, ⟨fun b o e n hb hx => ?_, fun b o e n hb hx => ?_, fun b o e n hx => ?_, fun b o e hx => ?_, fun b xs e => tups b xs (I.base.tups b xs e), fun b o xs e => frzs b o xs (I.base.frzs b o xs e), fun b ps e => ?_⟩, ?_, fun x c e => ?_, ?_, fun x c e => ?_, fun p hp => ?_, hok, I.len⟩
  · exact keep b o (neL b o e) hb (neC b o e hx) (I.base.keep b o e n hb hx) (I.base.free b o e n hx)
  · obtain ⟨sl, e1⟩ := I.base.slot b o e n hb hx
    obtain ⟨sl', e2⟩ := slot b _ (neL b o e) hb (neC b o e hx) e1 (I.base.free b o e n hx)
    exact ⟨sl', e2⟩
  · obtain ⟨o', e1⟩ := I.base.there b o e hx
    exact free b o' (neC b o e hx) e1 (I.base.free b o e n hx)
  · obtain ⟨o', e1⟩ := I.base.there b o e hx
    exact there b o' (neC b o e hx) e1
  · obtain ⟨m1, e1⟩ := I.base.tbls b ps e
    obtain ⟨m2, e2⟩ := tbls b _ e1
    exact ⟨m1 ++ m2, by rw [e2, Array.append_assoc]⟩
  · obtain ⟨m, hn, hl⟩ := I.loc
    refine ⟨m, ns m hn, fun i x v e1 e2 e3 => ?_⟩
    obtain ⟨u, r, l⟩ := hl i x v e1 e2 e3
    refine ⟨u, r, ?_⟩
    rcases l with l | ⟨k, c, e, z⟩
    · exact .inl l
    · exact .inr ⟨k, c, e, cellK x c e _ z⟩
  · obtain ⟨v, z⟩ := I.cell x c e
    exact ⟨v, cellK x c e v z⟩
  · obtain ⟨m, ⟨o, _, _, ho, _⟩, _⟩ := I.loc
    exact free _ o (fun z => (hch _ z).2.1 rfl) ho I.free
  · obtain ⟨v, o, ho, hd⟩ := I.cell x c e
    exact free c o (fun z => (hch c z).2.2.1 x c e rfl) ho (I.freeC x c e)
  · obtain ⟨e, n, ne, nf, d⟩ := I.pin p hp
    have nch : p.1 ∉ ch := fun z => (hch p.1 z).2.2.2 p hp rfl
    exact ⟨keep p.1 p.2 ne nf nch e n, free p.1 p.2 nch e n, ne, nf, d⟩
theorem Inv.un {t' : Nat} (I : Inv X pins σ H s) (u : Un X.fs [] H H' s.heap h') (hok : HOk X.prog X.w H' h') : Inv X pins σ H' { s with heap := h', toks := t' } := by
  obtain ⟨m, ⟨o, es, ep, ho, r⟩, _⟩ := id I.loc
  obtain ⟨sl, hL⟩ := u.any ho I.free (by simp)
  exact I.step (g' := s.gens) (d' := s.drawn) (ch := []) (fun _ z => nomatch z) (fun b o _ hb _ e n => u.keep b o e n hb (by simp)) (fun b o _ hb _ e n => u.slot b o e n hb (by simp)) (fun b o _ e n => u.free b o e n (by simp)) (fun b o _ e => u.there b o e (by simp)) u.tups u.frzs u.tbls (fun m' hm => by
    obtain ⟨o', es', ep', ho', r'⟩ := hm
    rw [ho] at ho'; cases ho'
    exact ⟨_, es', ep', hL, r'⟩) hok I.bare
theorem Inv.call {g' : Array GenState} {t' : Nat} {d' : Drawn} {ch : List Addr} (I : Inv X pins σ H s) (u : Un (frs X.stack) ch H H' s.heap h') (hok : HOk X.prog X.w H' h') (hg : AllBare g')
    (hch : ∀ b ∈ ch, (b ∈ X.ex ∨ X.s₀.heap.objs.size ≤ b) ∧ b ≠ X.env.locals ∧ (∀ x c, X.env.cells.lookup x = some c → c ≠ b) ∧ ∀ p ∈ X.pn ++ pins, p.1 ≠ b) :
    Inv X pins σ H' { s with heap := h', gens := g', drawn := d', toks := t' } := by
  obtain ⟨m, ⟨o, es, ep, ho, r⟩, _⟩ := id I.loc
  obtain ⟨sl, hL⟩ := u.any ho I.free fun z => (hch _ z).2.1 rfl
  exact I.step (ch := ch) hch (fun b o hL hb hc e n => u.keep b o e n (fun z => (List.mem_cons.mp (I.stkSub b z)).elim hL hb) hc) (fun b o _ _ hc e n => u.any e n hc) (fun b o hc e n => u.free b o e n hc) (fun b o hc e => u.there b o e hc) u.tups u.frzs u.tbls (fun m' hm => by
    obtain ⟨o', es', ep', ho', r'⟩ := hm
    rw [ho] at ho'; cases ho'
    exact ⟨_, es', ep', hL, r'⟩) hok hg
theorem Inv.turned {t' : Nat} {it : Addr} (I : Inv X pins σ H s) (k : ∀ b o, b ≠ it → s.heap.get? b = some o → h'.get? b = some o) (hn : H it = none) (hL : it ≠ X.env.locals)
    (h1 : it ∈ X.ex ∨ X.s₀.heap.objs.size ≤ it) (h2 : ∀ x c, X.env.cells.lookup x = some c → c ≠ it) (h3 : ∀ p ∈ X.pn ++ pins, p.1 ≠ it) : Inv X pins σ H { s with heap := h', toks := t' } := by
  have nit : ∀ b u, H b = some u → b ≠ it := fun b u e z => by rw [z, hn] at e; cases e
  refine I.step (g' := s.gens) (d' := s.drawn) (ch := [it]) (fun b hb => ?_) (fun b o _ _ hc e _ => k b o (fun z => hc (by simp [z])) e) (fun b o _ _ hc e _ => ⟨o.slots, k b o (fun z => hc (by simp [z])) e⟩) (fun _ _ _ _ n => n)
    (fun b o hc e => ⟨o, k b o (fun z => hc (by simp [z])) e⟩) (fun _ _ e => e) (fun _ _ _ e => e) (fun b ps e => ⟨#[], by rw [e]; simp⟩) (fun m hm => ?_) (fun b u e => ?_) I.bare
  · have e : b = it := by simpa using hb
    subst e
    exact ⟨h1, hL, h2, h3⟩
  · obtain ⟨o, es, ep, ho, r⟩ := hm
    exact ⟨o, es, ep, k _ o (Ne.symm hL) ho, r⟩
  · refine (I.hok b u e).stay (fun c v hc q => k c v ?_ q) (fun _ q => q) fun _ _ q => q
    rcases hc with z | z
    · rw [z]; exact nit b u e
    · exact nit c _ z
theorem Inv.tok (I : Inv X pins σ H s) (t : Nat) : Inv X pins σ H { s with toks := t } := I.un (h' := s.heap) (t' := t) Un.refl I.hok
theorem Inv.kept {t' : Nat} (I : Inv X pins σ H s) (k : ∀ b u, s.heap.get? b = some u → h'.get? b = some u) : Inv X pins σ H { s with heap := h', toks := t' } := I.un (Un.kept k) (I.hok.kept k)
theorem Inv.laid {a : Addr} {o : HO} {t' : Nat} (I : Inv X pins σ H s) (k : ∀ b u, s.heap.get? b = some u → h'.get? b = some u) (hp : s.heap.objs.size ≤ a) (new : ObjOk X.prog X.w (upd H a o) h' a o) :
    Inv X pins σ (upd H a o) { s with heap := h', toks := t' } := I.un (Un.laid k hp (I.hok.fresh hp)) (I.hok.laid k hp new)
theorem Inv.write {x e : Addr} {o : HO} {t' : Nat} (I : Inv X pins σ H s) (mu : Mut (H x)) (he : e = x ∨ H e = some (.own x)) (k : ∀ b u, b ≠ e → s.heap.get? b = some u → h'.get? b = some u) (heo : ∃ u, h'.get? e = some u)
    (new : ObjOk X.prog X.w (upd H x o) h' x o) : Inv X pins σ (upd H x o) { s with heap := h', toks := t' } := I.un (Un.write mu he k heo) (I.hok.write mu he k heo new)
theorem Inv.weak {σ' : List (Option V)} (I : Inv X pins σ H s) (hl : σ'.length = σ.length) (w : ∀ (i : Nat) v, σ'[i]? = some (some v) → σ[i]? = some (some v)) : Inv X pins σ' H s :=
  ⟨I.ok, I.os, I.bare, I.base, let ⟨m, hn, hl'⟩ := I.loc; ⟨m, hn, fun i x v e1 e2 e3 => hl' i x v e1 (w i v e2) e3⟩, I.cell, I.free, I.freeC, I.pin, I.hok, hl.trans I.len⟩
theorem Inv.pins_of {pins' : List (Addr × Obj)} (I : Inv X pins σ H s) (h : ∀ p ∈ pins', s.heap.get? p.1 = some p.2 ∧ H p.1 = none ∧ p.1 ≠ X.env.locals ∧ p.1 ∉ X.fs ∧ ∀ v, p.2.data ≠ .cell v) : Inv X pins' σ H s :=
  ⟨I.ok, I.os, I.bare, I.base, I.loc, I.cell, I.free, I.freeC, fun p hp => (List.mem_append.mp hp).elim (fun z => I.pin p (List.mem_append_left _ z)) (h p), I.hok, I.len⟩
theorem nodup_ix {N : List Str} (hN : N.Nodup) {i j : Nat} {x : Str} (a : N[i]? = some x) (b : N[j]? = some x) : i = j := by
  obtain ⟨h1, e1⟩ := List.getElem?_eq_some_iff.mp a
  obtain ⟨h2, e2⟩ := List.getElem?_eq_some_iff.mp b
  exact (List.getElem_inj hN).mp (e1.trans e2.symm)
theorem store_ok2 {M : Model} {A : Around} {E : Value → Shared → Prop} {i : Nat} {x : Str} {v : V} {u : Value} {Q : Unit → Shared → Prop} (I : Inv X pins σ H s) (hN : X.N.Nodup) (hi : X.N[i]? = some x) (hx : Loc X.env.scope x) (r : RelV v u)
    (h : ∀ s', Inv X pins (σ.set i (some v)) H s' → (∃ a, Heap.SameBut a s.heap s'.heap ∧ (a = X.env.locals ∨ X.env.cells.lookup x = some a)) → Q () s') (hf : X.fn x = true ∨ X.env.scope.names.lookup x = some .local := by first | exact .inl rfl | exact .inr rfl | assumption) : wpAny M A (storeName X.env x u) Q E s := by
  obtain ⟨m, hn, hl⟩ := id I.loc
  have hcls : (X.env.scope.kind == .class || (X.env.scope.kind == .module && X.env.locals != X.env.globals)) = false := by rw [I.ok.kind]; rfl
  have hiσ : i < σ.length := by rw [I.len]; exact (List.getElem?_eq_some_iff.mp hi).1
  have cne := I.cne
  have tracked : ∀ {a : Addr} {h' : Heap}, (∃ o, s.heap.get? a = some o ∧ H a = none) → Heap.SameBut a s.heap h' → HOk X.prog X.w H h' := fun {a h'} ha hs b ob e => by
    obtain ⟨_, _, hfree⟩ := ha
    refine (I.hok b ob e).stay (fun c w' hc q => (hs.2 c ?_).trans q) (fun _ q => q) fun _ _ q => q
    rintro rfl
    rcases hc with rfl | hc
    · rw [hfree] at e; cases e
    · rw [hfree] at hc; cases hc
  rcases hx with hk | hk
  · refine wpAny_storeName_local hk hn (fun h' hn' hs => ?_) hcls
    obtain ⟨oL, _, _, hoL, _⟩ := id hn
    refine h _ ⟨I.ok, I.os, I.bare, ⟨fun b o e n hb hx => ?_, fun b o e n hb hx => ?_, I.base.free, fun b o e hx => ?_, I.base.tups, I.base.frzs, I.base.tbls⟩, ⟨_, hn', fun j y v' e1 e2 e3 => ?_⟩, fun y c e => ?_, I.free, I.freeC, fun p hp => ?_, tracked ⟨oL, hoL, I.free⟩ hs, by simpa using I.len⟩ ⟨_, hs, .inl rfl⟩
    · exact (hs.2 b (Nat.ne_of_lt (Nat.lt_of_lt_of_le (Heap.lt_size e) I.ok.above))).trans (I.base.keep b o e n hb hx)
    · obtain ⟨sl, e1⟩ := I.base.slot b o e n hb hx
      exact ⟨sl, (hs.2 b (Nat.ne_of_lt (Nat.lt_of_lt_of_le (Heap.lt_size e) I.ok.above))).trans e1⟩
    · obtain ⟨o', e1⟩ := I.base.there b o e hx
      exact ⟨o', (hs.2 b (Nat.ne_of_lt (Nat.lt_of_lt_of_le (Heap.lt_size e) I.ok.above))).trans e1⟩
    · by_cases hj : j = i
      · subst hj
        rw [hi] at e1; cases e1
        rw [List.getElem?_set_self hiσ] at e2
        cases e2
        exact ⟨u, r, .inl ⟨hk, by simp⟩⟩
      · rw [List.getElem?_set_ne (Ne.symm hj)] at e2
        obtain ⟨u', r', q⟩ := hl j y v' e1 e2 e3
        refine ⟨u', r', ?_⟩
        rcases q with ⟨k, e⟩ | ⟨k, c, e, z⟩
        · refine .inl ⟨k, ?_⟩
          have : y ≠ x := fun e => hj (nodup_ix hN e1 (e ▸ hi))
          simp [this, e]
        · exact .inr ⟨k, c, e, z.sameBut hs (cne y c e)⟩
    · obtain ⟨w', z⟩ := I.cell y c e
      exact ⟨w', z.sameBut hs (cne y c e)⟩
    · obtain ⟨e, n, ne, nf, d⟩ := I.pin p hp
      exact ⟨(hs.2 p.1 ne).trans e, n, ne, nf, d⟩
  · have hfn : X.fn x = true := by
      rcases hf with z | z
      · exact z
      · rw [z] at hk; cases hk
    obtain ⟨c, hc⟩ := I.ok.has x (.inl hk)
    obtain ⟨w', z⟩ := I.cell x c hc
    refine wpAny_storeName_cell I.ok.kind hk hc z (fun h' hc' hs => ?_)
    obtain ⟨oc, hoc, hocd⟩ := id z
    refine h { s with heap := h' } ⟨I.ok, I.os, I.bare, ⟨fun b o e n hb hx => ?_, fun b o e n hb hx => ?_, I.base.free, fun b o e hx => ?_, I.base.tups, I.base.frzs, I.base.tbls⟩, ⟨m, hn.sameBut hs (Ne.symm (cne x c hc)), fun j y v' e1 e2 e3 => ?_⟩, fun y c' e => ?_, I.free, I.freeC, fun p hp => ?_, tracked ⟨oc, hoc, I.freeC x c hc⟩ hs, by simpa using I.len⟩ ⟨c, hs, .inr hc⟩
    · exact (hs.2 b (Nat.ne_of_lt (Nat.lt_of_lt_of_le (Heap.lt_size e) (I.ok.cab x c hfn hc)))).trans (I.base.keep b o e n hb hx)
    · obtain ⟨sl, e1⟩ := I.base.slot b o e n hb hx
      exact ⟨sl, (hs.2 b (Nat.ne_of_lt (Nat.lt_of_lt_of_le (Heap.lt_size e) (I.ok.cab x c hfn hc)))).trans e1⟩
    · obtain ⟨o', e1⟩ := I.base.there b o e hx
      exact ⟨o', (hs.2 b (Nat.ne_of_lt (Nat.lt_of_lt_of_le (Heap.lt_size e) (I.ok.cab x c hfn hc)))).trans e1⟩
    · by_cases hj : j = i
      · subst hj
        rw [hi] at e1; cases e1
        rw [List.getElem?_set_self hiσ] at e2
        cases e2
        exact ⟨u, r, .inr ⟨.inl hk, c, hc, hc'⟩⟩
      · rw [List.getElem?_set_ne (Ne.symm hj)] at e2
        obtain ⟨u', r', q⟩ := hl j y v' e1 e2 e3
        refine ⟨u', r', ?_⟩
        rcases q with q | ⟨k, c', e, z'⟩
        · exact .inl q
        · refine .inr ⟨k, c', e, z'.sameBut hs ?_⟩
          rintro rfl
          exact hj (nodup_ix hN e1 (I.ok.inj _ _ _ e hc ▸ hi))
    · by_cases hcc : c' = c
      · subst hcc; exact ⟨_, hc'⟩
      · obtain ⟨w2, z2⟩ := I.cell y c' e
        exact ⟨w2, z2.sameBut hs hcc⟩
    · obtain ⟨e, n, ne, nf, d⟩ := I.pin p hp
      refine ⟨(hs.2 p.1 ?_).trans e, n, ne, nf, d⟩
      intro q
      rw [q, hoc] at e
      have q' : oc = p.2 := Option.some.inj e
      exact d w' (by rw [← q']; exact hocd)
theorem store_ok {M : Model} {A : Around} {E : Value → Shared → Prop} {i : Nat} {x : Str} {v : V} {u : Value} {Q : Unit → Shared → Prop} (I : Inv X pins σ H s) (hN : X.N.Nodup) (hi : X.N[i]? = some x) (hx : Loc X.env.scope x) (r : RelV v u)
    (h : ∀ s', Inv X pins (σ.set i (some v)) H s' → Q () s') (hf : X.fn x = true ∨ X.env.scope.names.lookup x = some .local := by first | exact .inl rfl | exact .inr rfl | assumption) : wpAny M A (storeName X.env x u) Q E s :=
  store_ok2 I hN hi hx r (fun s' I' _ => h s' I') hf
theorem Inv.call' {s' : Shared} {ch : List Addr} (I : Inv X pins σ H s) (ho : s'.os = s.os) (u : Un (frs X.stack) ch H H' s.heap s'.heap) (hok : HOk X.prog X.w H' s'.heap) (hg : AllBare s'.gens)
    (hch : ∀ b ∈ ch, (b ∈ X.ex ∨ X.s₀.heap.objs.size ≤ b) ∧ b ≠ X.env.locals ∧ (∀ x c, X.env.cells.lookup x = some c → c ≠ b) ∧ ∀ p ∈ X.pn ++ pins, p.1 ≠ b) : Inv X pins σ H' s' := by
  obtain ⟨h', g', d', t', o'⟩ := s'
  have e : o' = s.os := ho
  subst e
  exact I.call (g' := g') (t' := t') (d' := d') u hok hg hch
end
abbrev XK := Value → Option Addr → Hp → Prop
abbrev St := List (Option V)
abbrev VK := V → Hp → Prop
abbrev TE := St → Hp → VK → Prop
abbrev TT := St → Hp → (Bool → Hp → Prop) → Prop
abbrev TA := St → Hp → (List V → Hp → Prop) → Prop
structure Ends where
  nx : St → Hp → Prop
  rt : VK
  bk : St → Hp → Prop := fun _ _ => False
  ct : St → Hp → Prop := fun _ _ => False
abbrev TS := Ends → St → Hp → Prop
def EP (X : Cx) (pins : List (Addr × Obj)) (σ : St) (Q : VK) (u : Value) (s' : Shared) : Prop := ∃ v H', Inv X pins σ H' s' ∧ RelV v u ∧ Q v H'
def TP (X : Cx) (pins : List (Addr × Obj)) (σ : St) (Q : Bool → Hp → Prop) (b : Bool) (s' : Shared) : Prop := ∃ H', Inv X pins σ H' s' ∧ Q b H'
def AP (X : Cx) (pins : List (Addr × Obj)) (σ : St) (Q : List V → Hp → Prop) (us : List Value) (s' : Shared) : Prop := ∃ vs H', Inv X pins σ H' s' ∧ Vals vs us ∧ Q vs H'
def SP (X : Cx) (pins : List (Addr × Obj)) (D : Ends) (f : Flow) (s' : Shared) : Prop :=
  match f with
  | .next => ∃ σ' H', Inv X pins σ' H' s' ∧ D.nx σ' H'
  | .brk => ∃ σ' H', Inv X pins σ' H' s' ∧ D.bk σ' H'
  | .cont => ∃ σ' H', Inv X pins σ' H' s' ∧ D.ct σ' H'
  | .ret u => ∃ v σ' H', Inv X pins σ' H' s' ∧ RelV v u ∧ D.rt v H'
def PE (X : Cx) (e : Expr) (t : TE) : Prop :=
  ∀ (pins : List (Addr × Obj)) (s : Shared) (σ : St) (H : Hp) (Q : VK), Inv X pins σ H s → t σ H Q → wpAny (model X.prog X.w) X.A (eval e X.env) (EP X pins σ Q) X.xe s
def PT (X : Cx) (e : Expr) (t : TT) : Prop :=
  ∀ (pins : List (Addr × Obj)) (s : Shared) (σ : St) (H : Hp) (Q : Bool → Hp → Prop), Inv X pins σ H s → t σ H Q → wpAny (model X.prog X.w) X.A (isTrue e X.env (eval e X.env)) (TP X pins σ Q) X.xe s
def PW (X : Cx) (e : Expr) (t : TT) : Prop :=
  ∀ (whole : Sem Value) (pins : List (Addr × Obj)) (s : Shared) (σ : St) (H : Hp) (Q : Bool → Hp → Prop), Inv X pins σ H s → t σ H Q → wpAny (model X.prog X.w) X.A (isTrue e X.env whole) (TP X pins σ Q) X.xe s
theorem PW.pt {X : Cx} {e : Expr} {t : TT} (h : PW X e t) : PT X e t := h _
def PA (X : Cx) (es : List Expr) (t : TA) : Prop :=
  ∀ (pos : Pos) (pins : List (Addr × Obj)) (s : Shared) (σ : St) (H : Hp) (Q : List V → Hp → Prop), Inv X pins σ H s → t σ H Q → wpAny (model X.prog X.w) X.A (spliced (backTo pos (starEach es X.env))) (AP X pins σ Q) X.xe s
def PS (X : Cx) (st : Stmt) (t : TS) : Prop :=
  ∀ (pins : List (Addr × Obj)) (s : Shared) (σ : St) (H : Hp) (D : Ends), Inv X pins σ H s → t D σ H → wpAny (model X.prog X.w) X.A (exec st X.env) (SP X pins D) X.xe s
def PSs (X : Cx) (st : List Stmt) (t : TS) : Prop :=
  ∀ (pins : List (Addr × Obj)) (s : Shared) (σ : St) (H : Hp) (D : Ends), Inv X pins σ H s → t D σ H → wpAny (model X.prog X.w) X.A (execs st X.env) (SP X pins D) X.xe s
theorem thn {α : Type} {t : Sem α} {Q Q' : α → Shared → Prop} {M : Model} {A : Around} {E : Value → Shared → Prop} {s : Shared} (h : wpAny M A t Q E s) (hQ : ∀ a s, Q a s → Q' a s) : wpAny M A t Q' E s := wpAny_mono h hQ fun _ _ x => x
end L2
namespace L2
open PySem PySem.Spec PyProof.Rows
section
variable {X : Cx}
def tVar (i : Nat) : TE := fun σ H Q => ∃ v, σ[i]? = some (some v) ∧ Q v H
def tC (v : V) : TE := fun _ H Q => Q v H
theorem pe_var {i : Nat} {x : Str} {pos : Pos} (hN : X.N[i]? = some x) (hv : Vis X.env.scope x) (hd : (x == ("__debug__" : Str)) = false := by decide) (hcd : (x == ("__classdict__" : Str)) = false := by decide) : PE X (.Name x pos) (tVar i) := by
  intro pins s σ H Q I h
  obtain ⟨v, e, h⟩ := h
  obtain ⟨m, hn, hl⟩ := I.loc
  obtain ⟨u, r, l⟩ := hl i x v hN e hv
  have fin : EP X pins σ Q u s := ⟨v, H, I, r, h⟩
  rcases l with ⟨hk, hm⟩ | ⟨hk, c, hc, hcell⟩
  · exact wpAny_Name (wpAny_loadName_local I.ok.kind hk hn hm fin) hd
  · rcases hk with hk | hk
    · exact wpAny_Name (wpAny_loadName_cell I.ok.kind hk hc hcell fin) hd
    · exact wpAny_Name (wpAny_loadName_free I.ok.kind hk hc hcell fin hcd) hd
theorem pe_int {i j pos} : PE X (.Constant (.int i) j pos) (tC (.int i)) := fun _ _ _ H _ I h => wpAny_Constant_int ⟨.int i, H, I.tok _, ⟨_, rfl⟩, h⟩
theorem pe_bl {b j pos} : PE X (.Constant (.bool b) j pos) (tC (.bl b)) := fun _ _ _ H _ I h => Constant_bool ⟨.bl b, H, I, rfl, h⟩
theorem pe_non {j pos} : PE X (.Constant .none j pos) (tC .non) := fun _ _ _ H _ I h => Constant_none ⟨.non, H, I, rfl, h⟩
theorem pe_str {x j pos} : PE X (.Constant (.str x) j pos) (tC (.str x)) := fun _ _ _ H _ I h => Calls.Constant_str ⟨.str x, H, I.tok _, ⟨_, rfl⟩, h⟩
def Gl (X : Cx) (x : Str) : Prop := X.env.kindOf x = some .globalImplicit
theorem ld_glob {E : Value → Shared → Prop} {pins : List (Addr × Obj)} {s : Shared} {σ : St} {H : Hp} {x : Str} {u : Value} {pos : Pos} {Q : Value → Shared → Prop} (I : Inv X pins σ H s) (hg : Gl X x) (hm : X.mg x = some u) (h : Q u s)
    (hd : (x == ("__debug__" : Str)) = false := by decide) : wpAny (model X.prog X.w) X.A (eval (.Name x pos) X.env) Q E s :=
  Calls.Name_function_global I.ok.kind hg (Calls.loadGlobal_global (by rw [I.ok.glob]; exact I.mod.glob.keeps I.bk) hm h) hd
theorem ld_blt {E : Value → Shared → Prop} {pins : List (Addr × Obj)} {s : Shared} {σ : St} {H : Hp} {x : Str} {u : Value} {pos : Pos} {Q : Value → Shared → Prop} (I : Inv X pins σ H s) (hg : Gl X x) (hm : X.mg x = none) (hv : bootBuiltins x = some u) (h : Q u s)
    (hn : x ≠ "__name__" := by decide) (hd : (x == ("__debug__" : Str)) = false := by decide) : wpAny (model X.prog X.w) X.A (eval (.Name x pos) X.env) Q E s := by
  obtain ⟨mb, h1, h2⟩ := I.mod.blt
  exact Calls.Name_function_global I.ok.kind hg (Calls.loadGlobal_builtin (by rw [I.ok.glob]; exact I.mod.glob.keeps I.bk) hm (by rw [I.ok.blt]; exact h1.keeps I.bk) ((h2 x hn).trans hv) h) hd
theorem pe_glob {x : Str} {v : V} {u : Value} {pos : Pos} (hg : Gl X x) (hm : X.mg x = some u) (r : RelV v u) (hd : (x == ("__debug__" : Str)) = false := by decide) : PE X (.Name x pos) (tC v) :=
  fun _ _ _ H _ I h => ld_glob I hg hm ⟨v, H, I, r, h⟩ hd
theorem pe_bltn {x : Str} {v : V} {u : Value} {pos : Pos} (hg : Gl X x) (hm : X.mg x = none) (hv : bootBuiltins x = some u) (r : RelV v u) (hn : x ≠ "__name__" := by decide) (hd : (x == ("__debug__" : Str)) = false := by decide) : PE X (.Name x pos) (tC v) :=
  fun _ _ _ H _ I h => ld_blt I hg hm hv ⟨v, H, I, r, h⟩ hn hd
variable {a b : Expr} {ta tb : TE} {pos : Pos}
def tB (t : TE) : TT := fun σ H Q => t σ H fun x H1 => ∃ c, x = .bl c ∧ Q c H1
theorem pt_val {e : Expr} {t : TE} (h : PE X e t) (he : ∀ whole, isTrue e X.env whole = (do let v ← whole; standAt e.pos; holding [v] (truthy v)) := by intro _; rfl) : PT X e (tB t) := by
  intro pins s σ H Q I hw
  refine isTrue_plain (thn (h pins s σ H _ I hw) fun v s1 ⟨x, H1, I1, r1, q1⟩ => ?_) (he _)
  obtain ⟨d, rfl, q⟩ := q1
  cases r1
  exact wpAny_truthy_bool ⟨H1, I1, q⟩
variable {tA tB' : TT} {rest : List Expr}
def tAnd (t u : TT) : TT := fun σ H Q => t σ H fun c H1 => if c = true then u σ H1 Q else Q false H1
def tOr (t u : TT) : TT := fun σ H Q => t σ H fun c H1 => if c = true then Q true H1 else u σ H1 Q
def tNot (t : TT) : TT := fun σ H Q => t σ H fun c H1 => Q (!c) H1
theorem pw_and1 (ha : PT X a tA) : PW X (.BoolOp .And [a] pos) tA := by
  intro wh pins s σ H Q I h
  refine isTrue_and (thn (ha pins s σ H Q I h) fun c s1 e => ?_)
  cases c with
  | true => exact isTrue_and_nil e
  | false => exact e
theorem pw_or1 (ha : PT X a tA) : PW X (.BoolOp .Or [a] pos) tA := by
  intro wh pins s σ H Q I h
  refine isTrue_or (thn (ha pins s σ H Q I h) fun c s1 e => ?_)
  cases c with
  | false => exact isTrue_or_nil e
  | true => exact e
theorem pw_and (ha : PT X a tA) (hb : PW X (.BoolOp .And (b :: rest) pos) tB') : PW X (.BoolOp .And (a :: b :: rest) pos) (tAnd tA tB') := by
  intro wh pins s σ H Q I h
  refine isTrue_and (thn (ha pins s σ H _ I h) fun c s1 ⟨H1, I1, q1⟩ => ?_)
  cases c with
  | true => exact hb wh pins s1 σ H1 Q I1 q1
  | false => exact ⟨H1, I1, q1⟩
theorem pw_or (ha : PT X a tA) (hb : PW X (.BoolOp .Or (b :: rest) pos) tB') : PW X (.BoolOp .Or (a :: b :: rest) pos) (tOr tA tB') := by
  intro wh pins s σ H Q I h
  refine isTrue_or (thn (ha pins s σ H _ I h) fun c s1 ⟨H1, I1, q1⟩ => ?_)
  cases c with
  | true => exact ⟨H1, I1, q1⟩
  | false => exact hb wh pins s1 σ H1 Q I1 q1
theorem pt_not (ha : PT X a tA) : PT X (.UnaryOp .Not a pos) (tNot tA) := by
  intro pins s σ H Q I h
  exact isTrue_not (ha pins s σ H (fun c H1 => Q (!c) H1) I h)
def tAndV (ta tb : TE) : TE := fun σ H Q => ta σ H fun x H1 => ∃ c, x = .bl c ∧ if c = true then tb σ H1 Q else Q (.bl false) H1
def tNotV (ta : TE) : TE := fun σ H Q => ta σ H fun x H1 => ∃ c, x = .bl c ∧ Q (.bl (!c)) H1
theorem pe_one {op} {t : TE} (h : PE X a t) : PE X (.BoolOp op [a] pos) t := fun pins s σ H Q I hw => BoolOp_one (h pins s σ H Q I hw)
theorem pe_and (ha : PE X a ta) (hb : PE X (.BoolOp .And (b :: rest) pos) tb) : PE X (.BoolOp .And (a :: b :: rest) pos) (tAndV ta tb) := by
  intro pins s σ H Q I h
  refine BoolOp_and (thn (ha pins s σ H _ I h) fun v s1 ⟨x, H1, I1, r1, q1⟩ => ?_)
  obtain ⟨c, rfl, q1⟩ := q1
  cases r1
  refine wpAny_truthy_bool ?_
  cases c with
  | true => exact hb pins s1 σ H1 Q I1 q1
  | false => exact ⟨.bl false, H1, I1, rfl, q1⟩
theorem pe_not (ha : PE X a ta) : PE X (.UnaryOp .Not a pos) (tNotV ta) := by
  intro pins s σ H Q I h
  refine UnaryOp_ (thn (ha pins s σ H _ I h) fun v s1 ⟨x, H1, I1, r1, q1⟩ => ?_)
  obtain ⟨c, rfl, q1⟩ := q1
  cases r1
  exact not_of (wpAny_truthy_bool ⟨.bl (!c), H1, I1, rfl, q1⟩)
end
end L2
namespace L2
open PySem PySem.Spec PyProof.Rows
def SqL (K : PySem.W.Frag) (H : Hp) (a : Addr) (xs : List V) : Prop :=
  Rd H a (.lst xs) ∨
    ∃ (o : Obj) (its : Array Value) (n : Nat), K.lookup a = some o ∧ o.cls = .type "list" ∧ o.dict = none ∧ o.data = .seq its n ∧ its.size ≤ sizeLine ∧ Vals xs its.toList
def SqT (K : PySem.W.Frag) (H : Hp) (a : Addr) (xs : List V) : Prop :=
  Rd H a (.tup xs) ∨
    ∃ (o : Obj) (its : Array Value) (n : Nat), K.lookup a = some o ∧ o.cls = .type "tuple" ∧ o.data = .seq its n ∧ its.size ≤ sizeLine ∧ Vals xs its.toList
def absV : Value → Option V
  | .none => some .non
  | .bool b => some (.bl b)
  | .int i _ => some (.int i)
  | .str x _ => some (.str x)
  | .bytes b _ => some (.byt b)
  | .float b _ => some (.flt b)
  | .ref a => some (.ref a)
  | .type n => some (.ty n)
  | _ => none
theorem RelV.abs {x : V} {u : Value} (r : RelV x u) : absV u = some x := by
  cases x with
  | non => cases r; rfl
  | bl _ => cases r; rfl
  | int _ => obtain ⟨t, rfl⟩ := r; rfl
  | str _ => obtain ⟨t, rfl⟩ := r; rfl
  | byt _ => obtain ⟨t, rfl⟩ := r; rfl
  | flt _ => obtain ⟨t, rfl⟩ := r; rfl
  | ref _ => cases r; rfl
  | ty _ => cases r; rfl
theorem RelV.inj {x y : V} {u : Value} (r : RelV x u) (q : RelV y u) : x = y := Option.some.inj (r.abs.symm.trans q.abs)
theorem Vals.inj : ∀ {xs ys : List V} {us : List Value}, Vals xs us → Vals ys us → xs = ys
  | _, _, _, .nil, .nil => rfl
  | _, _, _, .cons r t, .cons r' t' => by rw [r.inj r', Vals.inj t t']
section
variable {X : Cx} {pins : List (Addr × Obj)} {σ : St} {H : Hp} {s : Shared} {a : Addr} {xs ys : List V}
theorem SqL.of {K : PySem.W.Frag} (h : H a = some (.lst xs)) : SqL K H a xs := .inl (.inl h)
theorem SqT.of {K : PySem.W.Frag} (h : H a = some (.tup xs)) : SqT K H a xs := .inl (.inl h)
theorem Inv.list (I : Inv X pins σ H s) (h : SqL X.K H a xs) : ∃ its : List Value, Vals xs its ∧ PlainL s.heap a its.toArray ∧ xs.length ≤ sizeLine := by
  rcases h with h | ⟨o, its, n, hk, hc, hd, hs, hz, r⟩
  · obtain ⟨z, its, n, r, e⟩ := h.ok I.hok
    exact ⟨its, r, ⟨_, n, e, rfl, rfl, rfl⟩, z⟩
  · refine ⟨its.toList, r, ⟨o, n, I.kIn a o hk, hc, hd, by simpa using hs⟩, ?_⟩
    have e := r.length
    simp only [Array.length_toList] at e
    omega
theorem Inv.tuple (I : Inv X pins σ H s) (h : SqT X.K H a xs) : ∃ its : List Value, Vals xs its ∧ IsTup s.heap a its.toArray ∧ xs.length ≤ sizeLine := by
  rcases h with h | ⟨o, its, n, hk, hc, hs, hz, r⟩
  · obtain ⟨z, its, r, p⟩ := h.ok I.hok
    exact ⟨its, r, p, z⟩
  · refine ⟨its.toList, r, ⟨o, I.kIn a o hk, hc, n, by simpa using hs⟩, ?_⟩
    have e := r.length
    simp only [Array.length_toList] at e
    omega
theorem Inv.list_inj (I : Inv X pins σ H s) (h : SqL X.K H a xs) (h' : SqL X.K H a ys) : xs = ys := by
  obtain ⟨its, r, ⟨o, n, e, _, _, d⟩, _⟩ := I.list h
  obtain ⟨its', r', ⟨o', n', e', _, _, d'⟩, _⟩ := I.list h'
  rw [e] at e'; cases e'
  rw [d] at d'
  injection d' with d1 _
  have : its = its' := by simpa using congrArg Array.toList d1
  subst this
  exact r.inj r'
theorem Inv.tuple_inj (I : Inv X pins σ H s) (h : SqT X.K H a xs) (h' : SqT X.K H a ys) : xs = ys := by
  obtain ⟨its, r, ⟨o, e, _, n, d⟩, _⟩ := I.tuple h
  obtain ⟨its', r', ⟨o', e', _, n', d'⟩, _⟩ := I.tuple h'
  rw [e] at e'; cases e'
  rw [d] at d'
  injection d' with d1 _
  have : its = its' := by simpa using congrArg Array.toList d1
  subst this
  exact r.inj r'
end
abbrev Cx.wish (X : Cx) (E : Value → Shared → Prop) : Cx := { X with xe := E }
abbrev Cx.nox (X : Cx) : Cx := X.wish fun _ _ => False
theorem Cx.Ok.wish {X : Cx} (ok : X.Ok) (E : Value → Shared → Prop) : (X.wish E).Ok :=
  ⟨ok.mod, ok.kind, ok.glob, ok.blt, ok.above, ok.inj, ok.has, ok.cab, ok.hd, ok.frames, ok.stk, ok.exf, ok.bs, ok.bsz, ok.noex, ok.exfs, ok.funs, ok.frf⟩
theorem Cx.Ok.unwish {X : Cx} {E : Value → Shared → Prop} (ok : (X.wish E).Ok) : X.Ok :=
  ⟨ok.mod, ok.kind, ok.glob, ok.blt, ok.above, ok.inj, ok.has, ok.cab, ok.hd, ok.frames, ok.stk, ok.exf, ok.bs, ok.bsz, ok.noex, ok.exfs, ok.funs, ok.frf⟩
section
variable {X : Cx} {pins : List (Addr × Obj)} {σ : St} {H : Hp} {s : Shared} {E : Value → Shared → Prop}
theorem Inv.wish (I : Inv X pins σ H s) (E : Value → Shared → Prop) : Inv (X.wish E) pins σ H s := ⟨I.ok.wish E, I.os, I.bare, I.base, I.loc, I.cell, I.free, I.freeC, I.pin, I.hok, I.len⟩
theorem Inv.unwish (I : Inv (X.wish E) pins σ H s) : Inv X pins σ H s := ⟨I.ok.unwish, I.os, I.bare, I.base, I.loc, I.cell, I.free, I.freeC, I.pin, I.hok, I.len⟩
theorem SP.unwish {D : Ends} {f : Flow} {s' : Shared} (h : SP (X.wish E) pins D f s') : SP X pins D f s' := by
  cases f with
  | next => obtain ⟨σ', H', I, q⟩ := h; exact ⟨σ', H', I.unwish, q⟩
  | brk => obtain ⟨σ', H', I, q⟩ := h; exact ⟨σ', H', I.unwish, q⟩
  | cont => obtain ⟨σ', H', I, q⟩ := h; exact ⟨σ', H', I.unwish, q⟩
  | ret u => obtain ⟨v, σ', H', I, r, q⟩ := h; exact ⟨v, σ', H', I.unwish, r, q⟩
theorem PE.nox {e : Expr} {t : TE} (h : PE X.nox e t) : PE X e t := fun pins s σ H Q I hw =>
  wpAny_mono (h pins s σ H Q (I.wish _) hw) (fun _ _ ⟨v, H', I', r, q⟩ => ⟨v, H', I'.unwish, r, q⟩) fun _ _ z => False.elim z
theorem PT.nox {e : Expr} {t : TT} (h : PT X.nox e t) : PT X e t := fun pins s σ H Q I hw =>
  wpAny_mono (h pins s σ H Q (I.wish _) hw) (fun _ _ ⟨H', I', q⟩ => ⟨H', I'.unwish, q⟩) fun _ _ z => False.elim z
theorem PSs.nox {st : List Stmt} {t : TS} (h : PSs X.nox st t) : PSs X st t := fun pins s σ H D I hw =>
  wpAny_mono (h pins s σ H D (I.wish _) hw) (fun _ _ q => q.unwish) fun _ _ z => False.elim z
end
section
variable {X : Cx} {st : Stmt} {rest : List Stmt} {t u : TS} {e : Expr} {te : TE} {pos : Pos}
def tNext : TS := fun D σ H => D.nx σ H
def tSeq (t u : TS) : TS := fun D σ H => t { D with nx := u D } σ H
theorem pss_nil : PSs X [] tNext := fun _ _ σ H _ I h => wpAny_execs_nil ⟨σ, H, I, h⟩
theorem pss_cons (h1 : PS X st t) (h2 : PSs X rest u) : PSs X (st :: rest) (tSeq t u) := by
  intro pins s σ H D I h
  refine wpAny_execs_cons (thn (h1 pins s σ H { D with nx := u D } I h) fun f s1 q => ?_)
  cases f with
  | next =>
    obtain ⟨σ', H', I', q⟩ := q
    exact h2 pins s1 σ' H' D I' q
  | ret v => exact q
  | brk => exact q
  | cont => exact q
theorem pss_one (h1 : PS X st t) : PSs X [st] t := by
  intro pins s σ H D I h
  refine wpAny_execs_cons (thn (h1 pins s σ H D I h) fun f s1 q => ?_)
  cases f with
  | next => exact wpAny_execs_nil q
  | ret v => exact q
  | brk => exact q
  | cont => exact q
theorem Inv.quiet {pins : List (Addr × Obj)} {σ : St} {H : Hp} {s : Shared} (I : Inv X pins σ H s) : interactive X.env = false := by simp [interactive, I.ok.kind]
def tDrop (te : TE) : TS := fun D σ H => te σ H fun _ H1 => D.nx σ H1
theorem ps_expr (he : PE X e te) (hs : swapsWith e none pos.line X.env = pure false := by rfl) : PS X (.Expr e pos) (tDrop te) := by
  intro pins s σ H D I h
  exact wpAny_Expr_any (thn (he pins s σ H _ I h) fun v s1 ⟨x, H1, I1, r1, q1⟩ => ⟨σ, H1, I1, q1⟩) I.quiet hs
def tRet (te : TE) : TS := fun D σ H => te σ H D.rt
theorem ps_ret (he : PE X e te) : PS X (.Return (some e) pos) (tRet te) := by
  intro pins s σ H D I h
  exact wpAny_Return_some (thn (he pins s σ H _ I h) fun v s1 ⟨x, H1, I1, r1, q1⟩ => ⟨x, σ, H1, I1, r1, q1⟩)
def tIfS (c : TT) (t u : TS) : TS := fun D σ H => c σ H fun b H1 => if b = true then t D σ H1 else u D σ H1
theorem ps_if {c : Expr} {a b : List Stmt} {tc : TT} (hc : PT X c tc) (ha : PSs X a t) (hb : PSs X b u) : PS X (.If c a b pos) (tIfS tc t u) := by
  intro pins s σ H D I h
  refine wpAny_If (thn (hc pins s σ H _ I h) fun d s1 ⟨H1, I1, q1⟩ => ?_)
  cases d with
  | true => exact ha pins s1 σ H1 D I1 q1
  | false => exact hb pins s1 σ H1 D I1 q1
end
abbrev TG := V → St → Hp → (St → Hp → Prop) → Prop
abbrev TGs := List V → St → Hp → (St → Hp → Prop) → Prop
def PG (X : Cx) (target : Expr) (t : TG) : Prop :=
  ∀ (pins : List (Addr × Obj)) (s : Shared) (σ : St) (H : Hp) (v : V) (u : Value) (Q : St → Hp → Prop), Inv X pins σ H s → RelV v u → t v σ H Q →
    wpAny (model X.prog X.w) X.A (assign target X.env u) (fun _ s' => ∃ σ' H', Inv X pins σ' H' s' ∧ Q σ' H') X.xe s
def PGs (X : Cx) (ts : List Expr) (t : TGs) : Prop :=
  ∀ (pins : List (Addr × Obj)) (s : Shared) (σ : St) (H : Hp) (vs : List V) (us : List Value) (Q : St → Hp → Prop), Inv X pins σ H s → Vals vs us → t vs σ H Q →
    wpAny (model X.prog X.w) X.A (assignInOrder ((assignEach ts X.env).map (·.2)) us) (fun _ s' => ∃ σ' H', Inv X pins σ' H' s' ∧ Q σ' H') X.xe s
abbrev TSet := V → V → V → Hp → (Hp → Prop) → Prop
def PSet (X : Cx) (t : TSet) : Prop :=
  ∀ (pins : List (Addr × Obj)) (s : Shared) (σ : St) (H : Hp) (o i v : V) (ov iv u : Value) (Q : Hp → Prop), Inv X pins σ H s → RelV o ov → RelV i iv → RelV v u → t o i v H Q →
    wpAny (model X.prog X.w) X.A (setItem ov iv u) (fun _ s' => ∃ H', Inv X pins σ H' s' ∧ Q H') X.xe s
section
variable {X : Cx} {pos : Pos}
def gName (i : Nat) : TG := fun v σ H Q => Q (σ.set i (some v)) H
theorem pg_name {i : Nat} {x : Str} (hN : X.N.Nodup) (hi : X.N[i]? = some x) (hx : Loc X.env.scope x) (hf : X.fn x = true ∨ X.env.scope.names.lookup x = some .local := by first | exact .inl rfl | exact .inr rfl | assumption) : PG X (.Name x pos) (gName i) := by
  intro pins s σ H v u Q I r h
  exact wpAny_assign_Name (store_ok I hN hi hx r (fun s' I' => ⟨_, H, I', h⟩) hf)
def gNil : TGs := fun vs σ H Q => vs = [] ∧ Q σ H
def gCons (t : TG) (u : TGs) : TGs := fun vs σ H Q => ∃ v r, vs = v :: r ∧ t v σ H fun σ' H' => u r σ' H' Q
theorem pgs_nil : PGs X [] gNil := by
  intro pins s σ H vs us Q I r h
  obtain ⟨e, h⟩ := h
  subst e
  cases r
  exact assignInOrder_nil ⟨σ, H, I, h⟩
theorem pgs_cons {e : Expr} {es : List Expr} {t : TG} {u : TGs} (h1 : PG X e t) (h2 : PGs X es u)
    (hs : (assignEach (e :: es) X.env).map (·.2) = assign e X.env :: (assignEach es X.env).map (·.2) := by rfl) : PGs X (e :: es) (gCons t u) := by
  intro pins s σ H vs us Q I r h
  obtain ⟨v, vr, e1, h⟩ := h
  subst e1
  cases r with
  | cons r rr =>
    rw [hs]
    refine assignInOrder_cons (thn (h1 pins s σ H _ _ _ I r h) fun _ s1 ⟨σ1, H1, I1, q1⟩ => ?_)
    exact h2 pins s1 σ1 H1 _ _ Q I1 rr q1
def gTup (K : PySem.W.Frag) (n : Nat) (t : TGs) : TG := fun v σ H Q => ∃ a xs, v = .ref a ∧ SqT K H a xs ∧ xs.length = n ∧ t xs σ H Q
theorem pg_tup {es : List Expr} {k : Nat} {t : TGs} {n : Nat} (hc : X.calm = true) (h : PGs X es t)
    (hn : (assignEach es X.env).length = n := by rfl) (hst : (assignEach es X.env).findIdx? (·.1) = none := by rfl) : PG X (.Tuple es k pos) (gTup X.K n t) := by
  intro pins s σ H v u Q I r hw
  obtain ⟨a, xs, e1, hq, hl, hw⟩ := hw
  subst e1
  cases r
  obtain ⟨its, rv, ht, hz⟩ := I.tuple hq
  refine assign_Tuple_tuple (I.ok.hd hc) ht (by simp [hn, ← hl, rv.length]) hst fun h' hx => ?_
  have I1 : Inv X pins σ H { s with heap := h' } := I.kept (t' := s.toks) fun b o e => hx b o (Nat.ne_of_lt (Heap.lt_size e)) e
  exact h pins _ σ H xs _ Q I1 (by simpa using rv) hw
def gSub (to ti : TE) (t : TSet) : TG := fun v σ H Q => to σ H fun o H1 => ti σ H1 fun i H2 => t o i v H2 fun H3 => Q σ H3
theorem pg_sub {o i : Expr} {to ti : TE} {t : TSet} (ho : PE X o to) (hi : PE X i ti) (hs : PSet X t)
    (ha : ∀ v, assign (.Subscript o i pos) X.env v = (do
      let ov ← holding [v] (eval o X.env)
      let iv ← holding [v, ov] (eval i X.env)
      standAt pos
      holding [v, ov, iv] (setItem ov iv v)
      release [v, ov, iv] []) := by intro _; rfl) : PG X (.Subscript o i pos) (gSub to ti t) := by
  intro pins s σ H v u Q I r h
  rw [ha]
  refine wpAny_bind (wpAny_holding (thn (ho pins s σ H _ I h) fun ov s1 ⟨x, H1, I1, r1, q1⟩ => ?_))
  refine wpAny_bind (wpAny_holding (thn (hi pins s1 σ H1 _ I1 q1) fun iv s2 ⟨y, H2, I2, r2, q2⟩ => ?_))
  refine wpAny_bind (wpAny_standAt (wpAny_bind (wpAny_holding (thn (hs pins s2 σ H2 x y v ov iv u _ I2 r1 r2 r q2) fun _ s3 ⟨H3, I3, q3⟩ => ?_))))
  exact wpAny_release ⟨σ, H3, I3, q3⟩
def tAsg (te : TE) (g : TG) : TS := fun D σ H => te σ H fun x H1 => g x σ H1 D.nx
theorem ps_asg {tg e : Expr} {te : TE} {g : TG} (he : PE X e te) (hg : PG X tg g) (hs : swapsWithSole [tg] e pos.line X.env = pure false := by rfl) (hw : swappedStores [tg] e X.env = pure none := by rfl)
    (h1 : (assignEach [tg] X.env).map (·.2) = [assign tg X.env] := by rfl) : PS X (.Assign [tg] e pos) (tAsg te g) := by
  intro pins s σ H D I h
  refine wpAny_Assign_stores (thn (he pins s σ H _ I h) fun v s1 ⟨x, H1, I1, r1, q1⟩ => ?_) hs hw
  rw [h1]
  exact thn (hg pins s1 σ H1 x v _ I1 r1 q1) fun _ s2 q => q
theorem ps_set {i : Nat} {x : Str} {e : Expr} {te : TE} {pos' : Pos} (hN : X.N.Nodup) (hi : X.N[i]? = some x) (hx : Loc X.env.scope x) (he : PE X e te) (hs : swapsWith e (some (.Name x pos')) pos.line X.env = pure false := by rfl) (hf : X.fn x = true ∨ X.env.scope.names.lookup x = some .local := by first | exact .inl rfl | exact .inr rfl | assumption) :
    PS X (.Assign [.Name x pos'] e pos) (tAsg te (gName i)) := by
  intro pins s σ H D I h
  refine wpAny_Assign_Name (thn (he pins s σ H _ I h) fun v s1 ⟨y, H1, I1, r1, q1⟩ => ?_) hs
  exact store_ok I1 hN hi hx r1 (fun s2 I2 => ⟨_, H1, I2, q1⟩) hf
end
section
variable {X : Cx} {pos : Pos}
def tWhile (c : TT) (tb : TS) : TS := fun D σ H => ∃ W : Nat → St → Hp → Prop, (∃ m, W m σ H) ∧ ∀ m σ H, W m σ H →
  c σ H fun b H1 => if b = true then ∃ N : St → Hp → Prop, (∀ σ' H', N σ' H' → ∃ m', m' < m ∧ W m' σ' H') ∧ tb { D with nx := N, ct := N, bk := D.nx } σ H1 else D.nx σ H1
theorem ps_while {c : Expr} {body : List Stmt} {tc : TT} {tb : TS} (hp : PassesOwn (model X.prog X.w) X.A X.env X.xe) (hc : PT X c tc) (hb : PSs X body tb) : PS X (.While c body [] pos) (tWhile tc tb) := by
  intro pins s σ H D I h
  obtain ⟨W, ⟨m0, w0⟩, turn⟩ := h
  refine wpAny_While (codeAny_whileLoop (fun n s' => ∃ σ' H', Inv X pins σ' H' s' ∧ W n σ' H') ?_ m0 ⟨σ, H, I, w0⟩)
  rintro n s1 ⟨σ1, H1, I1, w1⟩
  refine wpAny_passesOwn hp (thn (hc pins s1 σ1 H1 _ I1 (turn n σ1 H1 w1)) fun b s2 ⟨H2, I2, q2⟩ => ?_)
  cases b with
  | true =>
    obtain ⟨N, hN, q2⟩ := q2
    rw [if_pos rfl]
    refine wpAny_passesOwn hp (thn (hb pins s2 σ1 H2 _ I2 q2) fun f s3 q3 => ?_)
    cases f with
    | next =>
      obtain ⟨σ3, H3, I3, n3⟩ := q3
      obtain ⟨m', hm, w3⟩ := hN σ3 H3 n3
      exact ⟨m', hm, σ3, H3, I3, w3⟩
    | cont =>
      obtain ⟨σ3, H3, I3, n3⟩ := q3
      obtain ⟨m', hm, w3⟩ := hN σ3 H3 n3
      exact ⟨m', hm, σ3, H3, I3, w3⟩
    | brk => exact q3
    | ret v => exact q3
  | false =>
    rw [if_neg Bool.false_ne_true]
    exact wpAny_execs_nil ⟨σ1, H2, I2, q2⟩
end
structure It where
  go : Nat → Hp → Prop
  yld : Nat → Hp → V → Hp → Prop
  stop : Nat → Hp → Prop
def FpOk (X : Cx) (pins : List (Addr × Obj)) (H : Hp) (b : Addr) : Prop :=
  H b = none ∧ b ≠ X.env.locals ∧ b ∉ X.fs ∧ (b ∈ X.ex ∨ X.s₀.heap.objs.size ≤ b) ∧ (∀ x c, X.env.cells.lookup x = some c → c ≠ b) ∧ ∀ p ∈ X.pn ++ pins, p.1 ≠ b
theorem Inv.fpOk {X : Cx} {pins : List (Addr × Obj)} {σ : St} {H H' : Hp} {s : Shared} {b : Addr} (I : Inv X pins σ H s) (hb : s.heap.objs.size ≤ b) (hn : H' b = none) : FpOk X pins H' b := by
  refine ⟨hn, Nat.ne_of_gt (Nat.lt_of_lt_of_le I.lt hb), I.nofs hb, .inr (Nat.le_trans I.sz hb), fun x c e z => ?_, fun p hp z => ?_⟩
  · obtain ⟨v, q⟩ := I.cell x c e
    exact absurd (Nat.lt_of_lt_of_le q.lt (by rw [z]; exact hb)) (Nat.lt_irrefl _)
  · exact absurd (Nat.lt_of_lt_of_le (Heap.lt_size (I.pin p hp).1) (by rw [z]; exact hb)) (Nat.lt_irrefl _)
structure Turn (P : Program) (w : World) (K : PySem.W.Frag) (tg : Expr) (J : It) (fp : List Addr) (it : Addr) (tn : Nat → Heap → Prop) : Prop where
  mem : it ∈ fp
  obj : ∀ i h, tn i h → ∀ b ∈ fp, ∃ o, h.get? b = some o ∧ ∀ v, o.data ≠ .cell v
  keep : ∀ i h h', tn i h → (∀ b ∈ fp, ∀ o, h.get? b = some o → h'.get? b = some o) → tn i h'
  item : ∀ (X : Cx), X.prog = P → X.w = w → X.K = K → X.calm = true → ∀ (i : Nat) (pins : List (Addr × Obj)) (s : Shared) (σ : St) (H : Hp) (E : Value → Shared → Prop), Inv X pins σ H s → (∀ b ∈ fp, FpOk X pins H b) → tn i s.heap → J.go i H →
    wpAny (model P w) X.A (pyNext (.ref it)) (fun r s1 => ∃ u, r = some u ∧
      wpAny (model P w) X.A (letOwnedTupleGo tg (.ref it) u) (fun _ s2 => ∃ x H', Inv X pins σ H' s2 ∧ RelV x u ∧ J.yld i H x H' ∧ tn (i + 1) s2.heap ∧ ∀ b ∈ fp, H' b = none) E s1) E s
  done : ∀ (X : Cx), X.prog = P → X.w = w → X.K = K → X.calm = true → ∀ (i : Nat) (pins : List (Addr × Obj)) (s : Shared) (σ : St) (H : Hp) (E : Value → Shared → Prop), Inv X pins σ H s → (∀ b ∈ fp, FpOk X pins H b) → tn i s.heap → J.stop i H →
    wpAny (model P w) X.A (pyNext (.ref it)) (fun r s1 => r = none ∧ Inv X pins σ H s1) E s
  self : ∀ (A : Around) (i : Nat) (s : Shared) (Q : Value → Shared → Prop) (E : Value → Shared → Prop), tn i s.heap → Q (.ref it) s → wpAny (model P w) A (pyIter (.ref it)) Q E s
abbrev TI := St → Hp → (It → Hp → Prop) → Prop
def PIE (X : Cx) (pins : List (Addr × Obj)) (σ : St) (tg : Expr) (R : It → Hp → Prop) (itv : Value) (s2 : Shared) : Prop :=
  ∃ (it : Addr) (fp : List Addr) (tn : Nat → Heap → Prop) (J : It) (H' : Hp), itv = .ref it ∧ Inv X pins σ H' s2 ∧ Turn X.prog X.w X.K tg J fp it tn ∧ tn 0 s2.heap ∧ (∀ b ∈ fp, FpOk X pins H' b) ∧ R J H'
def PI (X : Cx) (tg iter : Expr) (wi : TI) : Prop :=
  ∀ (pins : List (Addr × Obj)) (s : Shared) (σ : St) (H : Hp) (R : It → Hp → Prop), Inv X pins σ H s → wi σ H R →
    wpAny (model X.prog X.w) X.A (eval iter X.env) (fun v s1 => wpAny (model X.prog X.w) X.A (pyIter v) (PIE X pins σ tg R) X.xe s1) X.xe s
theorem go_of {M : Model} {A : Around} {E : Value → Shared → Prop} {s : Shared} {tg : Expr} {it : Addr} {u : Value} {o : Obj} {n : String} {vs : Array Value} {Q : Unit → Shared → Prop} (ho : s.heap.get? it = some o) (hc : o.cls = .type n) (hd : o.data = .fields vs)
    (hn : ["enumerate", "zip", "dict_itemiterator", "dict_reverseitemiterator", "odict_iterator", "itertools.zip_longest", "itertools.pairwise"].contains n = false) (hQ : Q () s) : wpAny M A (letOwnedTupleGo tg (.ref it) u) Q E s := by
  unfold letOwnedTupleGo
  cases tg <;> first
    | exact wpAny_pure hQ
    | (cases u <;> first
        | exact wpAny_pure hQ
        | (refine wpAny_bind (wpAny_load ho ?_)
           rw [hc, hd]
           show wpAny M A (if (["enumerate", "zip", "dict_itemiterator", "dict_reverseitemiterator", "odict_iterator", "itertools.zip_longest", "itertools.pairwise"].contains n && vs[0]? == some (rawInt _)) = true then _ else _) Q E s
           rw [if_neg (by intro h; rw [hn, Bool.false_and] at h; cases h)]
           exact wpAny_pure hQ))
def Itl (K : PySem.W.Frag) (a : Addr) : It :=
  ⟨fun i H => ∃ xs x, SqL K H a xs ∧ xs[i]? = some x, fun i H x H' => H' = H ∧ ∀ xs, SqL K H a xs → xs[i]? = some x, fun i H => ∃ xs, SqL K H a xs ∧ xs.length ≤ i⟩
def Itt (K : PySem.W.Frag) (a : Addr) : It :=
  ⟨fun i H => ∃ xs x, SqT K H a xs ∧ xs[i]? = some x, fun i H x H' => H' = H ∧ ∀ xs, SqT K H a xs → xs[i]? = some x, fun i H => ∃ xs, SqT K H a xs ∧ xs.length ≤ i⟩
def Itr (lo : Int) (n : Nat) : It := ⟨fun i _ => i < n, fun i H x H' => H' = H ∧ x = .int (lo + i), fun i _ => n ≤ i⟩
theorem turn_list {P : Program} {w : World} {K : PySem.W.Frag} {tg : Expr} (a it : Addr) : Turn P w K tg (Itl K a) [it] it (fun i h => h.IsListIter it a i) where
  mem := by simp
  obj := fun i h st b hb => by
    have e : b = it := by simpa using hb
    subst e
    obtain ⟨o, e, c, d⟩ := st
    exact ⟨o, e, fun v z => by rw [d] at z; cases z⟩
  keep := fun i h h' st k => st.at fun o e => k it (by simp) o e
  item := by
    intro X hP hw hK hc i pins s σ H E I hf st hg
    subst hP hw hK
    obtain ⟨xs, x, hq, hx⟩ := hg
    obtain ⟨its, rv, p, hz⟩ := I.list hq
    obtain ⟨u, hu, ru⟩ := rv.get hx
    obtain ⟨f0, f1, f2, f3, f4, f5⟩ := hf it (by simp)
    refine wpAny_pyNext_list_item st p.isList (x := u) (by simpa using hu) fun h' st' sb => ?_
    have I1 : Inv X pins σ H { s with heap := h' } := I.turned (t' := s.toks) (fun b o hb e => (sb.2 b hb).trans e) f0 f1 f3 f4 f5
    obtain ⟨o, e, c, d⟩ := id st'
    exact ⟨u, rfl, go_of (s := { s with heap := h' }) e c d (by decide) ⟨x, H, I1, ru, ⟨rfl, fun ys hy => by rw [I.list_inj hy hq]; exact hx⟩, st', fun b hb => (hf b hb).1⟩⟩
  done := by
    intro X hP hw hK hc i pins s σ H E I hf st hg
    subst hP hw hK
    obtain ⟨xs, hq, hx⟩ := hg
    obtain ⟨its, rv, p, hz⟩ := I.list hq
    obtain ⟨f0, f1, f2, f3, f4, f5⟩ := hf it (by simp)
    have hl := rv.length
    exact wpAny_pyNext_list_end (I.ok.hd hc) st p.isList (by simp; omega) fun h' eb => ⟨rfl, I.turned (t' := s.toks) (fun b o hb e => eb b o hb e) f0 f1 f3 f4 f5⟩
  self := fun _ _ _ _ _ st h => wpAny_pyIter_listiter st h
theorem turn_tuple {P : Program} {w : World} {K : PySem.W.Frag} {tg : Expr} (a it : Addr) : Turn P w K tg (Itt K a) [it] it (fun i h => h.IsTupleIter it a i) where
  mem := by simp
  obj := fun i h st b hb => by
    have e : b = it := by simpa using hb
    subst e
    obtain ⟨o, e, c, d⟩ := st
    exact ⟨o, e, fun v z => by rw [d] at z; cases z⟩
  keep := fun i h h' st k => st.at fun o e => k it (by simp) o e
  item := by
    intro X hP hw hK hc i pins s σ H E I hf st hg
    subst hP hw hK
    obtain ⟨xs, x, hq, hx⟩ := hg
    obtain ⟨its, rv, p, hz⟩ := I.tuple hq
    obtain ⟨u, hu, ru⟩ := rv.get hx
    obtain ⟨f0, f1, f2, f3, f4, f5⟩ := hf it (by simp)
    refine wpAny_pyNext_tuple_item st (show s.heap.IsTuple a its.toArray from p) (x := u) (by simpa using hu) fun h' st' sb => ?_
    have I1 : Inv X pins σ H { s with heap := h' } := I.turned (t' := s.toks) (fun b o hb e => (sb.2 b hb).trans e) f0 f1 f3 f4 f5
    obtain ⟨o, e, c, d⟩ := id st'
    exact ⟨u, rfl, go_of (s := { s with heap := h' }) e c d (by decide) ⟨x, H, I1, ru, ⟨rfl, fun ys hy => by rw [I.tuple_inj hy hq]; exact hx⟩, st', fun b hb => (hf b hb).1⟩⟩
  done := by
    intro X hP hw hK hc i pins s σ H E I hf st hg
    subst hP hw hK
    obtain ⟨xs, hq, hx⟩ := hg
    obtain ⟨its, rv, p, hz⟩ := I.tuple hq
    obtain ⟨f0, f1, f2, f3, f4, f5⟩ := hf it (by simp)
    have hl := rv.length
    exact wpAny_pyNext_tuple_end (I.ok.hd hc) st (show s.heap.IsTuple a its.toArray from p) (by simp; omega) fun h' eb => ⟨rfl, I.turned (t' := s.toks) (fun b o hb e => eb b o hb e) f0 f1 f3 f4 f5⟩
  self := fun _ _ _ _ _ st h => wpAny_pyIter_tupleiter st h
theorem turn_range {P : Program} {w : World} {K : PySem.W.Frag} {tg : Expr} (it : Addr) (lo : Int) (n : Nat) : Turn P w K tg (Itr lo n) [it] it (fun i h => IsRangeIter h it (lo + (i : Nat) * 1) ((n : Int) - (i : Nat)) 1) where
  mem := by simp
  obj := fun i h st b hb => by
    have e : b = it := by simpa using hb
    subst e
    exact ⟨_, st, fun v z => by
      have z' : Data.fields _ = Data.cell v := z
      cases z'⟩
  keep := fun i h h' st k => k it (by simp) _ st
  item := by
    intro X hP hw hK hc i pins s σ H E I hf st hg
    subst hP hw hK
    obtain ⟨f0, f1, f2, f3, f4, f5⟩ := hf it (by simp)
    have W := Walks.range (prog := X.prog) (w := X.w) (I.ok.hd hc) it lo 1 n
    refine W.item i s _ _ hg st fun v h' tk hv st' kk => ?_
    obtain ⟨t, rfl⟩ := hv
    have I1 : Inv X pins σ H { s with heap := h', toks := tk } := I.turned (fun b o hb e => kk b o (by simpa using hb) e) f0 f1 f3 f4 f5
    refine ⟨_, rfl, go_of (s := { s with heap := h', toks := tk }) (n := "range_iterator") st' rfl rfl (by decide) ⟨.int (lo + i), H, I1, ⟨t, ?_⟩, ⟨rfl, rfl⟩, st', fun b hb => (hf b hb).1⟩⟩
    rw [Int.mul_one]
  done := by
    intro X hP hw hK hc i pins s σ H E I hf st hg
    subst hP hw hK
    obtain ⟨f0, f1, f2, f3, f4, f5⟩ := hf it (by simp)
    exact wpAny_pyNext_range_end (I.ok.hd hc) st (by have : n ≤ i := hg; omega) fun h' eb => ⟨rfl, I.turned (t' := s.toks) (fun b o hb e => eb b o hb e) f0 f1 f3 f4 f5⟩
  self := fun _ _ _ _ _ st h => wpAny_pyIter_rangeiter st h
end L2
namespace L2
open PySem PySem.Spec PyProof.Rows
section
variable {X : Cx} {tg : Expr}
def iList (K : PySem.W.Frag) (tl : TE) : TI := fun σ H R => tl σ H fun x H1 => ∃ a, x = .ref a ∧ (∃ xs, SqL K H1 a xs) ∧ R (Itl K a) H1
def iTup (K : PySem.W.Frag) (tl : TE) : TI := fun σ H R => tl σ H fun x H1 => ∃ a, x = .ref a ∧ (∃ xs, SqT K H1 a xs) ∧ R (Itt K a) H1
theorem pi_list {l : Expr} {tl : TE} (hl : PE X l tl) : PI X tg l (iList X.K tl) := by
  intro pins s σ H R I h
  refine thn (hl pins s σ H _ I h) fun v s1 ⟨x, H1, I1, r1, q1⟩ => ?_
  obtain ⟨a, e, ⟨xs, hq⟩, q⟩ := q1
  subst e
  cases r1
  obtain ⟨its, rv, p, hz⟩ := I1.list hq
  refine wpAny_pyIter_list p.isList ?_
  refine ⟨s1.heap.objs.size, [s1.heap.objs.size], _, _, H1, rfl, I1.kept (t' := s1.toks) fun b o e => Heap.get?_push_of_some _ e, turn_list a _, ⟨_, Heap.get?_push_size _ rfl, rfl, rfl⟩, fun b hb => ?_, q⟩
  have e : b = s1.heap.objs.size := by simpa using hb
  subst e
  exact I1.fpOk (Nat.le_refl _) (I1.hok.fresh (Nat.le_refl _))
theorem pi_tup {l : Expr} {tl : TE} (hl : PE X l tl) : PI X tg l (iTup X.K tl) := by
  intro pins s σ H R I h
  refine thn (hl pins s σ H _ I h) fun v s1 ⟨x, H1, I1, r1, q1⟩ => ?_
  obtain ⟨a, e, ⟨xs, hq⟩, q⟩ := q1
  subst e
  cases r1
  obtain ⟨its, rv, p, hz⟩ := I1.tuple hq
  refine wpAny_pyIter_tuple (show s1.heap.IsTuple a its.toArray from p) ?_
  refine ⟨s1.heap.objs.size, [s1.heap.objs.size], _, _, H1, rfl, I1.kept (t' := s1.toks) fun b o e => Heap.get?_push_of_some _ e, turn_tuple a _, ⟨_, Heap.get?_push_size _ rfl, rfl, rfl⟩, fun b hb => ?_, q⟩
  have e : b = s1.heap.objs.size := by simpa using hb
  subst e
  exact I1.fpOk (Nat.le_refl _) (I1.hok.fresh (Nat.le_refl _))
theorem range_it {pins : List (Addr × Obj)} {σ : St} {H : Hp} {s : Shared} {R : It → Hp → Prop} {E : Value → Shared → Prop} {lo hi : Int} {t u v : Tok} {tk : Nat} (I : Inv X pins σ H s) (h1 : -(2 ^ 62) ≤ lo) (h2 : lo < 2 ^ 62) (h3 : -(2 ^ 62) ≤ hi) (h4 : hi < 2 ^ 62)
    (q : R (Itr lo (hi - lo).toNat) H) : wpAny (model X.prog X.w) X.A (pyIter (.ref s.heap.objs.size)) (PIE X pins σ tg R) E { s with heap := s.heap.push { cls := .type "range", data := .fields #[.int lo t, .int hi u, .int 1 v] }, toks := tk } := by
  refine wpAny_pyIter_range (IsRange.new ..) (small_one h1 h2 h3 h4) ?_
  have I1 : Inv X pins σ H { s with heap := s.heap.push { cls := .type "range", data := .fields #[.int lo t, .int hi u, .int 1 v] }, toks := tk } := I.kept fun b o e => Heap.get?_push_of_some _ e
  refine ⟨(s.heap.push { cls := .type "range", data := .fields #[.int lo t, .int hi u, .int 1 v] }).objs.size, [(s.heap.push { cls := .type "range", data := .fields #[.int lo t, .int hi u, .int 1 v] }).objs.size], _, _, H, rfl,
    I1.kept (t' := tk) fun b o e => Heap.get?_push_of_some _ e, turn_range _ lo (hi - lo).toNat, ?_, fun b hb => ?_, q⟩
  · have e1 : lo + ((0 : Nat) : Int) * 1 = lo := by simp
    have e2 : (((hi - lo).toNat : Nat) : Int) - ((0 : Nat) : Int) = Builtin.Range.rangeSize lo hi 1 := by rw [rangeSize_one]; split <;> omega
    show IsRangeIter _ _ (lo + ((0 : Nat) : Int) * 1) ((((hi - lo).toNat : Nat) : Int) - ((0 : Nat) : Int)) 1
    rw [e1, e2]
    exact Heap.get?_push_size _ rfl
  · have e : b = (s.heap.push { cls := .type "range", data := .fields #[.int lo t, .int hi u, .int 1 v] }).objs.size := by simpa using hb
    subst e
    exact I1.fpOk (Nat.le_refl _) (I1.hok.fresh (Nat.le_refl _))
def iRng1 (ta : TA) : TI := fun σ H R => ta σ H fun vs H1 => ∃ j : Int, vs = [.int j] ∧ -(2 ^ 62) ≤ j ∧ j < 2 ^ 62 ∧ R (Itr 0 j.toNat) H1
def iRng2 (ta : TA) : TI := fun σ H R => ta σ H fun vs H1 => ∃ i j : Int, vs = [.int i, .int j] ∧ (-(2 ^ 62) ≤ i ∧ i < 2 ^ 62 ∧ -(2 ^ 62) ≤ j ∧ j < 2 ^ 62) ∧ R (Itr i (j - i).toNat) H1
theorem pi_range1 {a : Expr} {ta : TA} {p pos : Pos} (hg : Gl X "range") (hm : X.mg "range" = none) (ha : PA X [a] ta) (hs : starEach [a] X.env = [(false, eval a X.env)] := by rfl) : PI X tg (.Call (.Name "range" p) [a] [] pos) (iRng1 ta) := by
  intro pins s σ H R I h
  refine Call_ (ld_blt I hg hm boot_range (PyProof.Rows.callWith_type1 (thn (ha pos pins s σ H _ I h) fun us s1 ⟨vs, H1, I1, r1, q1⟩ => ?_) hs rfl))
  obtain ⟨j, e, q1, q2, q⟩ := q1
  subst e
  cases r1 with
  | cons r rr =>
    cases rr
    obtain ⟨t, rfl⟩ := r
    exact call_range_1 (range_it I1 (by omega) (by omega) q1 q2 (by simpa using q))
theorem pi_range2 {a b : Expr} {ta : TA} {p pos : Pos} (hg : Gl X "range") (hm : X.mg "range" = none) (ha : PA X [a, b] ta) (hs : starEach [a, b] X.env = [(false, eval a X.env), (false, eval b X.env)] := by rfl) (hs2 : starEach [b] X.env = [(false, eval b X.env)] := by rfl) :
    PI X tg (.Call (.Name "range" p) [a, b] [] pos) (iRng2 ta) := by
  intro pins s σ H R I h
  refine Call_ (ld_blt I hg hm boot_range (PyProof.Rows.callWith_type1 (thn (ha pos pins s σ H _ I h) fun us s1 ⟨vs, H1, I1, r1, q1⟩ => ?_) (by rw [hs, hs2]) (by rw [hs2]; rfl)))
  obtain ⟨i, j, e, ⟨q1, q2, q3, q4⟩, q⟩ := q1
  subst e
  cases r1 with
  | cons r rr =>
    cases rr with
    | cons r' rr =>
      cases rr
      obtain ⟨t, rfl⟩ := r
      obtain ⟨t', rfl⟩ := r'
      exact call_range_2 (range_it I1 q1 q2 q3 q4 q)
def tFor (wi : TI) (g : TG) (tb : TS) : TS := fun D σ H => wi σ H fun J H1 => ∃ W : Nat → Nat → St → Hp → Prop, (∃ m, W 0 m σ H1) ∧ ∀ i m σ H, W i m σ H →
  (J.stop i H ∧ D.nx σ H) ∨ (J.go i H ∧ ∃ N : St → Hp → Prop, (∀ σ' H', N σ' H' → ∃ m', m' < m ∧ W (i + 1) m' σ' H') ∧ ∀ x H', J.yld i H x H' → g x σ H' fun σ2 H2 => tb { D with nx := N, ct := N, bk := D.nx } σ2 H2)
def pinsAt (fp : List Addr) (h : Heap) : List (Addr × Obj) := fp.filterMap fun b => (h.get? b).map fun o => (b, o)
theorem mem_pinsAt {fp : List Addr} {h : Heap} {b : Addr} {o : Obj} (hb : b ∈ fp) (e : h.get? b = some o) : (b, o) ∈ pinsAt fp h := List.mem_filterMap.mpr ⟨b, hb, by rw [e]; rfl⟩
theorem of_pinsAt {fp : List Addr} {h : Heap} {p : Addr × Obj} (hp : p ∈ pinsAt fp h) : p.1 ∈ fp ∧ h.get? p.1 = some p.2 := by
  obtain ⟨b, hb, e⟩ := List.mem_filterMap.mp hp
  cases q : h.get? b with
  | none => rw [q] at e; cases e
  | some o =>
    rw [q] at e
    have e' : (b, o) = p := Option.some.inj e
    subst e'
    exact ⟨hb, q⟩
theorem Inv.pinned {pins : List (Addr × Obj)} {σ : St} {H : Hp} {s : Shared} {fp : List Addr} (I : Inv X pins σ H s) (hf : ∀ b ∈ fp, FpOk X pins H b) (ho : ∀ b ∈ fp, ∃ o, s.heap.get? b = some o ∧ ∀ v, o.data ≠ .cell v) : Inv X (pins ++ pinsAt fp s.heap) σ H s :=
  I.pins_of fun p hp => (List.mem_append.mp hp).elim (fun z => I.pin p (List.mem_append_right _ z)) fun z => by
    obtain ⟨hb, e⟩ := of_pinsAt z
    obtain ⟨f0, f1, f2, _⟩ := hf p.1 hb
    obtain ⟨o, e', d⟩ := ho p.1 hb
    rw [e] at e'; cases e'
    exact ⟨e, f0, f1, f2, d⟩
theorem Inv.unpinned {pins pl : List (Addr × Obj)} {σ : St} {H : Hp} {s : Shared} (I : Inv X (pins ++ pl) σ H s) : Inv X pins σ H s := I.pins_of fun p hp => I.pin p (List.mem_append_right _ (List.mem_append_left _ hp))
theorem ps_for {iter : Expr} {body : List Stmt} {wi : TI} {g : TG} {tb : TS} {pos : Pos} (hp : PassesOwn (model X.prog X.w) X.A X.env X.xe) (hc : X.calm = true) (hi : PI X tg iter wi) (hg : PG X tg g) (hb : PSs X body tb)
    (hs : ∀ x, foldedSetIterable iter X.env x = pure x := by intro _; rfl) : PS X (.For tg iter body [] pos) (tFor wi g tb) := by
  intro pins s σ H D I h
  refine wpAny_For (thn (hi pins s σ H _ I h) fun v s1 h1 => thn h1 fun itv s2 h2 => ?_) hs
  obtain ⟨it, fp, tn, J, H2, e, I2, T, st2, f2, W, ⟨m0, w0⟩, turn⟩ := h2
  subst e
  have stat : ∀ {H' : Hp}, (∀ b ∈ fp, H' b = none) → ∀ b ∈ fp, FpOk X pins H' b := fun hn b hb => ⟨hn b hb, (f2 b hb).2⟩
  refine codeAny_forLoop_any (fun n s' => ∃ i σ' H', Inv X pins σ' H' s' ∧ tn i s'.heap ∧ (∀ b ∈ fp, H' b = none) ∧ W i n σ' H') ?_ m0 ⟨0, σ, H2, I2, st2, fun b hb => (f2 b hb).1, w0⟩
  rintro n s3 ⟨i, σ3, H3, I3, st3, fr3, w3⟩
  rcases turn i n σ3 H3 w3 with ⟨stop, qn⟩ | ⟨go, N, hN, step⟩
  · refine wpAny_passesOwn hp (thn (T.done X rfl rfl rfl hc i pins s3 σ3 H3 X.xe I3 (stat fr3) st3 stop) fun r s4 ⟨hr, I4⟩ => ?_)
    subst hr
    exact wpAny_execs_nil ⟨σ3, H3, I4, qn⟩
  · refine wpAny_passesOwn hp (thn (T.item X rfl rfl rfl hc i pins s3 σ3 H3 X.xe I3 (stat fr3) st3 go) fun r s4 ⟨u, hr, h4⟩ => ?_)
    subst hr
    refine wpAny_passesOwn hp (thn h4 fun _ s5 ⟨x, H5, I5, r5, y5, st5, fr5⟩ => ?_)
    have I5' := I5.pinned (stat fr5) (T.obj _ _ st5)
    refine wpAny_passesOwn hp (thn (hg _ s5 σ3 H5 x u _ I5' r5 (step x H5 y5)) fun _ s6 ⟨σ6, H6, I6, q6⟩ => ?_)
    refine wpAny_passesOwn hp (thn (hb _ s6 σ6 H6 _ I6 q6) fun f s7 q7 => ?_)
    have again : ∀ {σ7 : St} {H7 : Hp}, Inv X (pins ++ pinsAt fp s5.heap) σ7 H7 s7 → N σ7 H7 → ∃ m, m < n ∧ ∃ i σ' H', Inv X pins σ' H' s7 ∧ tn i s7.heap ∧ (∀ b ∈ fp, H' b = none) ∧ W i m σ' H' := fun {σ7 H7} I7 n7 => by
      obtain ⟨m', hm, w7⟩ := hN σ7 H7 n7
      refine ⟨m', hm, i + 1, σ7, H7, I7.unpinned, T.keep _ _ _ st5 fun b hb o e => (I7.pin (b, o) (List.mem_append_right _ (List.mem_append_right _ (mem_pinsAt hb e)))).1, fun b hb => ?_, w7⟩
      obtain ⟨o, e, d⟩ := T.obj _ _ st5 b hb
      exact (I7.pin (b, o) (List.mem_append_right _ (List.mem_append_right _ (mem_pinsAt hb e)))).2.1
    cases f with
    | next => obtain ⟨σ7, H7, I7, n7⟩ := q7; exact again I7 n7
    | cont => obtain ⟨σ7, H7, I7, n7⟩ := q7; exact again I7 n7
    | brk => obtain ⟨σ7, H7, I7, q7⟩ := q7; exact ⟨σ7, H7, I7.unpinned, q7⟩
    | ret v => obtain ⟨x7, σ7, H7, I7, r7, q7⟩ := q7; exact ⟨x7, σ7, H7, I7.unpinned, r7, q7⟩
end
theorem for_list {K : PySem.W.Frag} {a : Addr} {xs : List V} {g : TG} {tb : TS} {D : Ends} {σ : St} {H : Hp} (Pv : Nat → St → Hp → Prop) (h0 : Pv 0 σ H) (hl : ∀ i σ H, i ≤ xs.length → Pv i σ H → SqL K H a xs)
    (hs : ∀ i x σ H, xs[i]? = some x → Pv i σ H → g x σ H fun σ2 H2 => tb { D with nx := Pv (i + 1), ct := Pv (i + 1), bk := D.nx } σ2 H2) (hd : ∀ σ H, Pv xs.length σ H → D.nx σ H) :
    ∃ W : Nat → Nat → St → Hp → Prop, (∃ m, W 0 m σ H) ∧ ∀ i m σ H, W i m σ H →
      ((Itl K a).stop i H ∧ D.nx σ H) ∨ ((Itl K a).go i H ∧ ∃ N : St → Hp → Prop, (∀ σ' H', N σ' H' → ∃ m', m' < m ∧ W (i + 1) m' σ' H') ∧ ∀ x H', (Itl K a).yld i H x H' → g x σ H' fun σ2 H2 => tb { D with nx := N, ct := N, bk := D.nx } σ2 H2) := by
  refine ⟨fun i m σ H => m = xs.length - i ∧ i ≤ xs.length ∧ Pv i σ H, ⟨xs.length, by simp, Nat.zero_le _, h0⟩, ?_⟩
  rintro i m σ H ⟨rfl, hi, p⟩
  have q := hl i σ H hi p
  by_cases hlt : i < xs.length
  · refine .inr ⟨⟨xs, xs[i], q, by simp [hlt]⟩, Pv (i + 1), fun σ' H' p' => ⟨xs.length - (i + 1), by omega, rfl, hlt, p'⟩, fun x H' y => ?_⟩
    obtain ⟨e, y⟩ := y
    subst e
    exact hs i x σ _ (y xs q) p
  · have e : i = xs.length := by omega
    subst e
    exact .inl ⟨⟨xs, q, Nat.le_refl _⟩, hd σ H p⟩
theorem for_range {lo : Int} {n : Nat} {g : TG} {tb : TS} {D : Ends} {σ : St} {H : Hp} (Pv : Nat → St → Hp → Prop) (h0 : Pv 0 σ H)
    (hs : ∀ i σ H, i < n → Pv i σ H → g (.int (lo + i)) σ H fun σ2 H2 => tb { D with nx := Pv (i + 1), ct := Pv (i + 1), bk := D.nx } σ2 H2) (hd : ∀ σ H, Pv n σ H → D.nx σ H) :
    ∃ W : Nat → Nat → St → Hp → Prop, (∃ m, W 0 m σ H) ∧ ∀ i m σ H, W i m σ H →
      ((Itr lo n).stop i H ∧ D.nx σ H) ∨ ((Itr lo n).go i H ∧ ∃ N : St → Hp → Prop, (∀ σ' H', N σ' H' → ∃ m', m' < m ∧ W (i + 1) m' σ' H') ∧ ∀ x H', (Itr lo n).yld i H x H' → g x σ H' fun σ2 H2 => tb { D with nx := N, ct := N, bk := D.nx } σ2 H2) := by
  refine ⟨fun i m σ H => m = n - i ∧ i ≤ n ∧ Pv i σ H, ⟨n, by simp, Nat.zero_le _, h0⟩, ?_⟩
  rintro i m σ H ⟨rfl, hi, p⟩
  by_cases hlt : i < n
  · refine .inr ⟨hlt, Pv (i + 1), fun σ' H' p' => ⟨n - (i + 1), by omega, rfl, hlt, p'⟩, fun x H' y => ?_⟩
    obtain ⟨e, y⟩ := y
    subst e y
    exact hs i σ _ hlt p
  · have e : i = n := by omega
    subst e
    exact .inl ⟨Nat.le_refl _, hd σ H p⟩
theorem while_by {c : TT} {tb : TS} {D : Ends} {σ : St} {H : Hp} (Pv : St → Hp → Prop) (μ : St → Hp → Nat) (h0 : Pv σ H)
    (hs : ∀ σ H, Pv σ H → c σ H fun b H1 => if b = true then tb { D with nx := fun σ' H' => Pv σ' H' ∧ μ σ' H' < μ σ H, ct := fun σ' H' => Pv σ' H' ∧ μ σ' H' < μ σ H, bk := D.nx } σ H1 else D.nx σ H1)
    (mono : ∀ σ H Q Q', (∀ b H1, Q b H1 → Q' b H1) → c σ H Q → c σ H Q') : tWhile c tb D σ H := by
  refine ⟨fun m σ H => m = μ σ H ∧ Pv σ H, ⟨_, rfl, h0⟩, ?_⟩
  rintro m σ H ⟨rfl, p⟩
  refine mono σ H _ _ (fun b H1 q => ?_) (hs σ H p)
  cases b with
  | true => exact ⟨_, fun σ' H' ⟨p', l⟩ => ⟨_, l, rfl, p'⟩, q⟩
  | false => exact q
end L2
namespace L2
open PySem PySem.Spec PyProof.Rows
abbrev R2 := V → V → Hp → VK → Prop
def OpR (X : Cx) (f : Value → Value → Sem Value) (r : R2) : Prop :=
  ∀ (pins : List (Addr × Obj)) (s : Shared) (σ : St) (H : Hp) (x y : V) (v u : Value) (Q : VK), Inv X pins σ H s → RelV x v → RelV y u → r x y H Q →
    wpAny (model X.prog X.w) X.A (f v u) (EP X pins σ Q) X.xe s
def UnR (X : Cx) (f : Value → Sem Value) (r : V → Hp → VK → Prop) : Prop :=
  ∀ (pins : List (Addr × Obj)) (s : Shared) (σ : St) (H : Hp) (x : V) (v : Value) (Q : VK), Inv X pins σ H s → RelV x v → r x H Q →
    wpAny (model X.prog X.w) X.A (f v) (EP X pins σ Q) X.xe s
def CallR (X : Cx) (f : Value) (r : List V → Hp → VK → Prop) : Prop :=
  ∀ (pins : List (Addr × Obj)) (s : Shared) (σ : St) (H : Hp) (xs : List V) (us : List Value) (Q : VK), Inv X pins σ H s → Vals xs us → r xs H Q →
    wpAny (model X.prog X.w) X.A (call f us) (EP X pins σ Q) X.xe s
def tOp (r : R2) (ta tb : TE) : TE := fun σ H Q => ta σ H fun x H1 => tb σ H1 fun y H2 => r x y H2 Q
def tUn (r : V → Hp → VK → Prop) (ta : TE) : TE := fun σ H Q => ta σ H fun x H1 => r x H1 Q
def rI (C : Int → Int → Prop) (g : Int → Int → V) : R2 := fun x y H Q => ∃ i j, x = .int i ∧ y = .int j ∧ C i j ∧ Q (g i j) H
def rI0 (g : Int → Int → V) : R2 := fun x y H Q => ∃ i j, x = .int i ∧ y = .int j ∧ Q (g i j) H
def rU (g : Int → V) : V → Hp → VK → Prop := fun x H Q => ∃ i, x = .int i ∧ Q (g i) H
section
variable {X : Cx} {a b c : Expr} {ta tb tc : TE} {pos : Pos}
theorem binT (ha : PE X a ta) (hb : PE X b tb) {pins : List (Addr × Obj)} {s : Shared} {σ : St} {H : Hp} {R : V → V → Hp → Prop} (I : Inv X pins σ H s)
    (h : ta σ H fun x H1 => tb σ H1 fun y H2 => R x y H2) {Q : Value → Shared → Prop} {f : Value → Value → Sem Value}
    (hf : ∀ v u s2 x y H2, Inv X pins σ H2 s2 → RelV x v → RelV y u → R x y H2 → wpAny (model X.prog X.w) X.A (f v u) Q X.xe s2) :
    wpAny (model X.prog X.w) X.A (eval a X.env) (fun v s₁ => wpAny (model X.prog X.w) X.A (eval b X.env) (fun u s₂ => wpAny (model X.prog X.w) X.A (f v u) Q X.xe s₂) X.xe s₁) X.xe s := by
  refine thn (ha pins s σ H _ I h) fun v s1 ⟨x, H1, I1, r1, q1⟩ => ?_
  refine thn (hb pins s1 σ H1 _ I1 q1) fun u s2 ⟨y, H2, I2, r2, q2⟩ => ?_
  exact hf v u s2 x y H2 I2 r1 r2 q2
theorem pe_op {op : Operator} {r : R2} (ho : OpR X (binaryOp op) r) (ha : PE X a ta) (hb : PE X b tb) : PE X (.BinOp a op b pos) (tOp r ta tb) := by
  intro pins s σ H Q I h
  exact wpAny_BinOp (binT ha hb I h fun v u s2 x y H2 I2 rx ry q => ho pins s2 σ H2 x y v u Q I2 rx ry q)
theorem pe_un {op : UnaryOp} {r : V → Hp → VK → Prop} (ho : UnR X (unaryOp op) r) (ha : PE X a ta) : PE X (.UnaryOp op a pos) (tUn r ta) := by
  intro pins s σ H Q I h
  exact UnaryOp_ (thn (ha pins s σ H _ I h) fun v s1 ⟨x, H1, I1, r1, q1⟩ => ho pins s1 σ H1 x v Q I1 r1 q1)
theorem opI {f : Value → Value → Sem Value} {C : Int → Int → Prop} {g : Int → Int → Int}
    (rule : ∀ (i j : Int) (t u : Tok) (s : Shared) (Q : Value → Shared → Prop) (E : Value → Shared → Prop), C i j → Q (.int (g i j) s.toks) { s with toks := s.toks + 1 } → wpAny (model X.prog X.w) X.A (f (.int i t) (.int j u)) Q E s) :
    OpR X f (rI C fun i j => .int (g i j)) := by
  intro pins s σ H x y v u Q I rx ry h
  obtain ⟨i, j, rfl, rfl, hc, q⟩ := h
  obtain ⟨t, rfl⟩ := rx
  obtain ⟨t', rfl⟩ := ry
  exact rule i j t t' s _ _ hc ⟨.int (g i j), H, I.tok _, ⟨_, rfl⟩, q⟩
theorem opI0 {f : Value → Value → Sem Value} {g : Int → Int → Int}
    (rule : ∀ (i j : Int) (t u : Tok) (s : Shared) (Q : Value → Shared → Prop) (E : Value → Shared → Prop), Q (.int (g i j) s.toks) { s with toks := s.toks + 1 } → wpAny (model X.prog X.w) X.A (f (.int i t) (.int j u)) Q E s) :
    OpR X f (rI0 fun i j => .int (g i j)) := by
  intro pins s σ H x y v u Q I rx ry h
  obtain ⟨i, j, rfl, rfl, q⟩ := h
  obtain ⟨t, rfl⟩ := rx
  obtain ⟨t', rfl⟩ := ry
  exact rule i j t t' s _ _ ⟨.int (g i j), H, I.tok _, ⟨_, rfl⟩, q⟩
theorem opB0 {f : Value → Value → Sem Value} {g : Int → Int → Bool}
    (rule : ∀ (i j : Int) (t u : Tok) (s : Shared) (Q : Value → Shared → Prop) (E : Value → Shared → Prop), Q (.bool (g i j)) s → wpAny (model X.prog X.w) X.A (f (.int i t) (.int j u)) Q E s) :
    OpR X f (rI0 fun i j => .bl (g i j)) := by
  intro pins s σ H x y v u Q I rx ry h
  obtain ⟨i, j, rfl, rfl, q⟩ := h
  obtain ⟨t, rfl⟩ := rx
  obtain ⟨t', rfl⟩ := ry
  exact rule i j t t' s _ _ ⟨.bl (g i j), H, I, rfl, q⟩
def CDiv (i j : Int) : Prop := 0 < j ∧ j < 1073741824
def CPow (i j : Int) : Prop := 0 ≤ j ∧ j ≤ 1000000 ∧ i.natAbs < 2 ^ 64
def CMul (i j : Int) : Prop := (-(2 ^ 64) < i ∧ i < 2 ^ 64) ∨ (-(2 ^ 64) < j ∧ j < 2 ^ 64)
theorem CMul.ok {i j : Int} (h : CMul i j) : IntMulOk i j := by
  rcases h with ⟨h1, h2⟩ | ⟨h1, h2⟩
  · exact .of_left (intBits_le_64 h1 h2)
  · exact .of_right (intBits_le_64 h1 h2)
theorem op_add : OpR X (binaryOp .Add) (rI0 fun i j => .int (i + j)) := opI0 fun _ _ _ _ _ _ _ q => add_int q
theorem op_sub : OpR X (binaryOp .Sub) (rI0 fun i j => .int (i - j)) := opI0 fun _ _ _ _ _ _ _ q => sub_int q
theorem op_mul : OpR X (binaryOp .Mult) (rI CMul fun i j => .int (i * j)) := opI fun _ _ _ _ _ _ _ hc q => mul_int q hc.ok
theorem op_fdiv : OpR X (binaryOp .FloorDiv) (rI CDiv fun i j => .int (i / j)) := opI fun i j _ _ _ _ _ hc q => by
  have h1 : (0 : Int) < j := hc.1
  have h2 : j < 1073741824 := hc.2
  exact floordiv_int (by omega) (by rw [Int.fdiv_eq_ediv_of_nonneg i (by omega)]; exact q) (.inl (PyProof.noPylong_small (by omega)))
theorem op_mod : OpR X (binaryOp .Mod) (rI (fun _ j => 0 < j) fun i j => .int (i % j)) := opI fun i j _ _ _ _ _ hc q => by
  have h1 : (0 : Int) < j := hc
  exact mod_int' (by omega) (by rw [Int.fmod_eq_emod_of_nonneg i (by omega)]; exact q)
theorem op_shl : OpR X (binaryOp .LShift) (rI CPow fun i j => .int (i * 2 ^ j.toNat)) := opI fun _ _ _ _ _ _ _ hc q => lshift_int_small hc.1 hc.2.1 hc.2.2 q
theorem op_and : OpR X (binaryOp .BitAnd) (rI0 fun i j => .int (Builtin.bitAnd i j)) := opI0 fun _ _ _ _ _ _ _ q => and_int q
theorem op_or : OpR X (binaryOp .BitOr) (rI0 fun i j => .int (Builtin.bitOr i j)) := opI0 fun _ _ _ _ _ _ _ q => or_int q
theorem unI {f : Value → Sem Value} {g : Int → Int}
    (rule : ∀ (i : Int) (t : Tok) (s : Shared) (Q : Value → Shared → Prop) (E : Value → Shared → Prop), Q (.int (g i) s.toks) { s with toks := s.toks + 1 } → wpAny (model X.prog X.w) X.A (f (.int i t)) Q E s) :
    UnR X f (rU fun i => .int (g i)) := by
  intro pins s σ H x v Q I rx h
  obtain ⟨i, rfl, q⟩ := h
  obtain ⟨t, rfl⟩ := rx
  exact rule i t s _ _ ⟨.int (g i), H, I.tok _, ⟨_, rfl⟩, q⟩
theorem un_neg : UnR X (unaryOp .USub) (rU fun i => .int (-i)) := unI fun _ _ _ _ _ q => neg_int q
end
def scal : V → V → Bool
  | .non, .non => true | .non, .int _ => true | .int _, .non => true | .non, .bl _ => true | .bl _, .non => true | .non, .str _ => true | .str _, .non => true
  | .int _, .int _ => true | .bl _, .bl _ => true | .str _, .str _ => true | .byt _, .byt _ => true
  | .int _, .str _ => true | .str _, .int _ => true | .bl _, .str _ => true | .str _, .bl _ => true
  | _, _ => false
def rEq : R2 := fun x y H Q => scal x y = true ∧ Q (.bl (decide (x = y))) H
def rNe : R2 := fun x y H Q => scal x y = true ∧ Q (.bl (!decide (x = y))) H
theorem dec_int {i j : Int} : decide (V.int i = V.int j) = (i == j) := by
  rw [Bool.eq_iff_iff]
  simp
theorem dec_bl {i j : Bool} : decide (V.bl i = V.bl j) = (i == j) := by
  rw [Bool.eq_iff_iff]
  simp
theorem dec_str {i j : Str} : decide (V.str i = V.str j) = (i == j) := by
  rw [Bool.eq_iff_iff]
  simp
theorem dec_byt {i j : Array UInt8} : decide (V.byt i = V.byt j) = (i.toList == j.toList) := by
  rw [Bool.eq_iff_iff]
  cases i
  cases j
  simp
section
variable {X : Cx} {a b c : Expr} {ta tb tc : TE} {pos : Pos}
theorem fin_bl {pins : List (Addr × Obj)} {σ : St} {H : Hp} {s : Shared} {Q : VK} {k k' : Bool} (I : Inv X pins σ H s) (q : Q (.bl k) H) (e : k = k') : EP X pins σ Q (.bool k') s := by
  subst e
  exact ⟨.bl k, H, I, rfl, q⟩
theorem op_eq : OpR X (compareOp .Eq) rEq := by
  intro pins s σ H x y v u Q I rx ry h
  obtain ⟨hs, q⟩ := h
  cases x with
  | non =>
    cases rx
    cases y with
    | non => cases ry; exact PySem.EqNone.eq_none_none (fin_bl I q (by simp))
    | bl j => cases ry; exact PySem.EqNone.eq_none_bool (fin_bl I q (by simp))
    | int j => obtain ⟨t', rfl⟩ := ry; exact PySem.EqNone.eq_none_int (fin_bl I q (by simp))
    | str j => obtain ⟨t', rfl⟩ := ry; exact PySem.EqNone.eq_none_str (fin_bl I q (by simp))
    | _ => exact absurd (show false = true from hs) Bool.false_ne_true
  | bl i =>
    cases rx
    cases y with
    | non => cases ry; exact PySem.EqNone.eq_bool_none (fin_bl I q (by simp))
    | bl j => cases ry; exact eq_bool (fin_bl I q dec_bl)
    | str j => obtain ⟨t', rfl⟩ := ry; exact PySem.EqMixed.eq_bool_str (fin_bl I q (by simp))
    | _ => exact absurd (show false = true from hs) Bool.false_ne_true
  | int i =>
    obtain ⟨t, rfl⟩ := rx
    cases y with
    | non => cases ry; exact PySem.EqNone.eq_int_none (fin_bl I q (by simp))
    | int j => obtain ⟨t', rfl⟩ := ry; exact eq_int (fin_bl I q dec_int)
    | str j => obtain ⟨t', rfl⟩ := ry; exact PySem.EqMixed.eq_int_str (fin_bl I q (by simp))
    | _ => exact absurd (show false = true from hs) Bool.false_ne_true
  | str i =>
    obtain ⟨t, rfl⟩ := rx
    cases y with
    | non => cases ry; exact PySem.EqNone.eq_str_none (fin_bl I q (by simp))
    | bl j => cases ry; exact PySem.EqMixed.eq_str_bool (fin_bl I q (by simp))
    | int j => obtain ⟨t', rfl⟩ := ry; exact PySem.EqMixed.eq_str_int (fin_bl I q (by simp))
    | str j => obtain ⟨t', rfl⟩ := ry; exact eq_str (fin_bl I q dec_str)
    | _ => exact absurd (show false = true from hs) Bool.false_ne_true
  | byt i =>
    obtain ⟨t, rfl⟩ := rx
    cases y with
    | byt j => obtain ⟨t', rfl⟩ := ry; exact PySem.W.eq_bytes (fin_bl I q dec_byt)
    | _ => exact absurd (show false = true from hs) Bool.false_ne_true
  | _ => cases y <;> exact absurd (show false = true from hs) Bool.false_ne_true
theorem op_ne : OpR X (compareOp .NotEq) rNe := by
  intro pins s σ H x y v u Q I rx ry h
  obtain ⟨hs, q⟩ := h
  cases x with
  | non =>
    cases rx
    cases y with
    | non => cases ry; exact PySem.EqNone.ne_none_none (fin_bl I q (by simp))
    | bl j => cases ry; exact PySem.EqNone.ne_none_bool (fin_bl I q (by simp))
    | int j => obtain ⟨t', rfl⟩ := ry; exact PySem.EqNone.ne_none_int (fin_bl I q (by simp))
    | str j => obtain ⟨t', rfl⟩ := ry; exact PySem.EqNone.ne_none_str (fin_bl I q (by simp))
    | _ => exact absurd (show false = true from hs) Bool.false_ne_true
  | bl i =>
    cases rx
    cases y with
    | non => cases ry; exact PySem.EqNone.ne_bool_none (fin_bl I q (by simp))
    | bl j => cases ry; exact ne_bool (fin_bl I q (congrArg not dec_bl))
    | str j => obtain ⟨t', rfl⟩ := ry; exact PySem.EqMixed.ne_bool_str (fin_bl I q (by simp))
    | _ => exact absurd (show false = true from hs) Bool.false_ne_true
  | int i =>
    obtain ⟨t, rfl⟩ := rx
    cases y with
    | non => cases ry; exact PySem.EqNone.ne_int_none (fin_bl I q (by simp))
    | int j => obtain ⟨t', rfl⟩ := ry; exact ne_int (fin_bl I q (congrArg not dec_int))
    | str j => obtain ⟨t', rfl⟩ := ry; exact PySem.EqMixed.ne_int_str (fin_bl I q (by simp))
    | _ => exact absurd (show false = true from hs) Bool.false_ne_true
  | str i =>
    obtain ⟨t, rfl⟩ := rx
    cases y with
    | non => cases ry; exact PySem.EqNone.ne_str_none (fin_bl I q (by simp))
    | bl j => cases ry; exact PySem.EqMixed.ne_str_bool (fin_bl I q (by simp))
    | int j => obtain ⟨t', rfl⟩ := ry; exact PySem.EqMixed.ne_str_int (fin_bl I q (by simp))
    | str j => obtain ⟨t', rfl⟩ := ry; exact ne_str (fin_bl I q (congrArg not dec_str))
    | _ => exact absurd (show false = true from hs) Bool.false_ne_true
  | byt i =>
    obtain ⟨t, rfl⟩ := rx
    cases y with
    | byt j => obtain ⟨t', rfl⟩ := ry; exact PySem.W.ne_bytes (fin_bl I q (congrArg not dec_byt))
    | _ => exact absurd (show false = true from hs) Bool.false_ne_true
  | _ => cases y <;> exact absurd (show false = true from hs) Bool.false_ne_true
theorem op_lt : OpR X (compareOp .Lt) (rI0 fun i j => .bl (decide (i < j))) := opB0 fun _ _ _ _ _ _ _ q => lt_int q
theorem op_le : OpR X (compareOp .LtE) (rI0 fun i j => .bl (decide (i ≤ j))) := opB0 fun _ _ _ _ _ _ _ q => le_int q
theorem op_gt : OpR X (compareOp .Gt) (rI0 fun i j => .bl (decide (j < i))) := opB0 fun _ _ _ _ _ _ _ q => gt_int q
theorem op_isN : OpR X (compareOp .Is) (fun x y H Q => y = .non ∧ Q (.bl (decide (x = .non))) H) := by
  intro pins s σ H x y v u Q I rx ry h
  obtain ⟨rfl, q⟩ := h
  cases ry
  refine is_none_gen (fin_bl I q ?_)
  cases x <;> first
    | (cases rx; rfl)
    | (obtain ⟨t, rfl⟩ := rx; rfl)
theorem op_notN : OpR X (compareOp .IsNot) (fun x y H Q => y = .non ∧ Q (.bl (!decide (x = .non))) H) := by
  intro pins s σ H x y v u Q I rx ry h
  obtain ⟨rfl, q⟩ := h
  cases ry
  refine isnot_none_gen (fin_bl I q ?_)
  cases x <;> first
    | (cases rx; rfl)
    | (obtain ⟨t, rfl⟩ := rx; rfl)
theorem OpR.or {f : Value → Value → Sem Value} {r r' : R2} (h : OpR X f r) (h' : OpR X f r') : OpR X f (fun x y H Q => r x y H Q ∨ r' x y H Q) := by
  intro pins s σ H x y v u Q I rx ry q
  rcases q with q | q
  · exact h pins s σ H x y v u Q I rx ry q
  · exact h' pins s σ H x y v u Q I rx ry q
theorem nomark (b : Expr) {op : CmpOp} (h : op ≠ .In := by decide) (h2 : op ≠ .NotIn := by decide) : behindInMarks op b = false := by
  have e1 : (op == CmpOp.In) = false := by cases op <;> first | rfl | exact absurd rfl h
  have e2 : (op == CmpOp.NotIn) = false := by cases op <;> first | rfl | exact absurd rfl h2
  cases b <;> simp [behindInMarks, e1, e2]
theorem pe_cmpR {op : CmpOp} {r : R2} (ho : OpR X (compareOp op) r) (ha : PE X a ta) (hb : PE X b tb) (hm : behindInMarks op b = false) : PE X (.Compare a [op] [b] pos) (tOp r ta tb) := by
  intro pins s σ H Q I h
  exact wpAny_Compare1 (binT ha hb I h fun v u s2 x y H2 I2 rx ry q => ho pins s2 σ H2 x y v u Q I2 rx ry q) hm
def tTest (t : TE) : TT := fun σ H Q => t σ H fun x H' => ∃ k, x = .bl k ∧ Q k H'
theorem pt_cmpR {op : CmpOp} {r : R2} (ho : OpR X (compareOp op) r) (ha : PE X a ta) (hb : PE X b tb) (hm : behindInMarks op b = false) : PT X (.Compare a [op] [b] pos) (tTest (tOp r ta tb)) := by
  intro pins s σ H Q I h
  refine wpAny_isTrue_Compare1 (thn (ha pins s σ H _ I h) fun v s1 ⟨x, H1, I1, r1, q1⟩ => thn (hb pins s1 σ H1 _ I1 q1) fun u s2 ⟨y, H2, I2, r2, q2⟩ =>
    thn (ho pins s2 σ H2 x y v u _ I2 r1 r2 q2) fun c s3 ⟨z, H3, I3, r3, k, e, q3⟩ => ?_) hm
  subst e
  cases r3
  exact wpAny_truthy_bool ⟨H3, I3, q3⟩
def tChain (r r' : R2) (ta tb tc : TE) : TE := fun σ H Q => ta σ H fun x H1 => tb σ H1 fun y H2 => r x y H2 fun z H3 => ∃ k, z = .bl k ∧
  (if k = true then tc σ H3 fun w' H4 => r' y w' H4 Q else Q (.bl false) H3)
theorem pt_chain {op op' : CmpOp} {r r' : R2} (ho : OpR X (compareOp op) r) (ho' : OpR X (compareOp op') r') (ha : PE X a ta) (hb : PE X b tb) (hc : PE X c tc)
    (hm : lastMarks [op, op'] [b, c] = false := by with_unfolding_all rfl) : PT X (.Compare a [op, op'] [b, c] pos) (tTest (tChain r r' ta tb tc)) := by
  intro pins s σ H Q I h
  refine isTrue_chain (thn (ha pins s σ H _ I h) fun v s1 ⟨x, H1, I1, r1, q1⟩ => test_link (thn (hb pins s1 σ H1 _ I1 q1) fun u s2 ⟨y, H2, I2, r2, q2⟩ =>
    thn (ho pins s2 σ H2 x y v u _ I2 r1 r2 q2) fun d s3 ⟨z, H3, I3, r3, k, e, q3⟩ => ?_)) hm
  subst e
  cases r3
  refine wpAny_truthy_bool ?_
  cases k with
  | false =>
    obtain ⟨k', e', q'⟩ := q3
    cases e'
    exact ite_ff ⟨H3, I3, q'⟩
  | true =>
    refine ite_tt (test_last (thn (hc pins s3 σ H3 _ I3 q3) fun w' s4 ⟨z', H4, I4, r4, q4⟩ => thn (ho' pins s4 σ H4 y z' u w' _ I4 r2 r4 q4) fun d' s5 ⟨z2, H5, I5, r5, k2, e2, q5⟩ => ?_))
    subst e2
    cases r5
    exact wpAny_truthy_bool ⟨H5, I5, q5⟩
theorem line63 : (sizeLine : Nat) < 2 ^ 63 := by rw [sizeLine_eq]; decide
theorem op_add_str : OpR X (binaryOp .Add) (fun x y H Q => ∃ i j, x = .str i ∧ y = .str j ∧ i.length + j.length ≤ sizeLine ∧ Q (.str (i ++ j)) H) := by
  intro pins s σ H x y v u Q I rx ry h
  obtain ⟨i, j, rfl, rfl, hz, q⟩ := h
  obtain ⟨t, rfl⟩ := rx
  obtain ⟨t', rfl⟩ := ry
  exact add_str (fun t' tk => ⟨.str (i ++ j), H, I.tok _, ⟨_, rfl⟩, q⟩) hz
theorem vals1 {x : V} {us : List Value} (r : Vals [x] us) : ∃ u, us = [u] ∧ RelV x u := by
  cases r with
  | cons r1 r2 => cases r2; exact ⟨_, rfl, r1⟩
theorem vals2 {x y : V} {us : List Value} (r : Vals [x, y] us) : ∃ u w', us = [u, w'] ∧ RelV x u ∧ RelV y w' := by
  cases r with
  | cons r1 r2 =>
    cases r2 with
    | cons r3 r4 => cases r4; exact ⟨_, _, rfl, r1, r3⟩
theorem call_max2 (hc : X.calm = true) : CallR X (.builtin "max") (fun xs H Q => ∃ i j, xs = [.int i, .int j] ∧ Q (.int (if j > i then j else i)) H) := by
  intro pins s σ H xs us Q I r h
  obtain ⟨i, j, rfl, q⟩ := h
  obtain ⟨u, w', rfl, ⟨t, rfl⟩, ⟨t', rfl⟩⟩ := vals2 r
  refine max_two_ints (I.ok.hd hc) fun h' tk k => ⟨_, H, I.kept k, ?_, q⟩
  by_cases hj : j > i
  · rw [if_pos hj, if_pos hj]; exact ⟨_, rfl⟩
  · rw [if_neg hj, if_neg hj]; exact ⟨_, rfl⟩
theorem call_int1 : CallR X (.type "int") (fun xs H Q => (∃ i, xs = [.int i] ∧ Q (.int i) H) ∨ ∃ k, xs = [.bl k] ∧ Q (.int (if k then 1 else 0)) H) := by
  intro pins s σ H xs us Q I r h
  rcases h with ⟨i, rfl, q⟩ | ⟨k, rfl, q⟩
  · obtain ⟨u, rfl, t, rfl⟩ := vals1 r
    exact call_int_int ⟨.int i, H, I, ⟨_, rfl⟩, q⟩
  · obtain ⟨u, rfl, r1⟩ := vals1 r
    cases r1
    exact call_int_bool ⟨.int (if k then 1 else 0), H, I.tok _, ⟨_, rfl⟩, q⟩
end
end L2
namespace L2
open PySem PySem.Spec PyProof.Rows
structure ObjM (h : Heap) (x dx C : Addr) (mA : Str → Option Value) : Prop where
  obj : h.get? x = some (PySem.W.instObj C dx)
  ns : h.Ns1 dx mA
  ne : dx ≠ x
section
variable {prog : Program} {w : World} {A : Around} {E : Value → Shared → Prop} {s : Shared} {K : PySem.W.Frag} {x dx C f : Addr} {mA : Str → Option Value} {name : Str} {v : Value}
end
section
variable {P : Program} {w : World} {H H' : Hp} {h h' : Heap} {a C dx : Addr} {fs fs' : List (Str × V)}
end
structure Cls (K : PySem.W.Frag) (C : Addr) : Prop where
  pg : PySem.W.plainGet K C Str.empty = true
  hd : PySem.W.hasDictIn K C = true
  po : PySem.W.plainOver K C = true
  sa : PySem.W.findIn K (.ref C) "__setattr__" = some (some (.builtin "object.__setattr__"))
theorem Cls.get {K : PySem.W.Frag} {C : Addr} (c : Cls K C) (f : Str) : PySem.W.plainGet K C f = true := c.pg
structure Con (K : PySem.W.Frag) (C : Addr) (f : Str) (v : V) (u : Value) : Prop where
  at_ : PySem.W.findIn K (.ref C) f = some (some u)
  rel : RelV v u
  get : PySem.W.specialIn K u "__get__" = some none
  cp : PySem.W.copiedNames.contains f = false
structure Meth (K : PySem.W.Frag) (C : Addr) (m : Str) (f : Addr) : Prop where
  at_ : PySem.W.findIn K (.ref C) m = some (some (.ref f))
  fn : PySem.W.isFn K (.ref f) = true
  kp : PySem.W.keepIn K (.ref f) = true
section
variable {X : Cx} {pins : List (Addr × Obj)} {σ : St} {H : Hp} {s : Shared} {a C dx : Addr} {fs : List (Str × V)} {f : Str} {v : V} {A : Around} {E : Value → Shared → Prop}
theorem Inv.made (I : Inv X pins σ H s) : Inv X pins σ (upd (upd H s.heap.objs.size (.own (s.heap.objs.size + 1))) (s.heap.objs.size + 1) (.ins C s.heap.objs.size []))
    { s with heap := (s.heap.push PySem.W.emptyDict).push (PySem.W.instObj C s.heap.objs.size) } := by
  have e1 : (s.heap.push PySem.W.emptyDict).get? s.heap.objs.size = some PySem.W.emptyDict := Heap.get?_push_size s.heap rfl
  have e2 : ((s.heap.push PySem.W.emptyDict).push (PySem.W.instObj C s.heap.objs.size)).get? (s.heap.objs.size + 1) = some (PySem.W.instObj C s.heap.objs.size) := by
    have := Heap.get?_push_size (s.heap.push PySem.W.emptyDict) (o := PySem.W.instObj C s.heap.objs.size) rfl
    rwa [Heap.size_push] at this
  have e3 : (s.heap.push PySem.W.emptyDict).Ns s.heap.objs.size (fun _ => none) := ⟨PySem.W.emptyDict, #[], _, e1, rfl, (fun e he => absurd he (by simp)), fun _ => rfl⟩
  have I1 := I.laid (a := s.heap.objs.size) (o := .own (s.heap.objs.size + 1)) (h' := s.heap.push PySem.W.emptyDict) (t' := s.toks) (fun b u q => Heap.get?_push_of_some _ q) (Nat.le_refl _) ⟨_, e1⟩
  refine I1.laid (a := s.heap.objs.size + 1) (o := .ins C s.heap.objs.size []) (t' := s.toks) (fun b u q => Heap.get?_push_of_some _ q) (Nat.le_of_eq (Heap.size_push _ _)) ?_
  have ne : s.heap.objs.size ≠ s.heap.objs.size + 1 := Nat.ne_of_lt (Nat.lt_succ_self _)
  refine ⟨by rw [upd_ne ne, upd_same], Nat.zero_le _, ne, e2, fun _ => none, (Heap.Ns1.of_empty e3).at fun o q => Heap.get?_push_of_some _ q, fun _ => True.intro, fun y hy => absurd rfl hy⟩
end
section
variable {X : Cx} {o e value : Expr} {f : Str} {pos pos' tpos : Pos} {ta tv : TE}
end
section
variable {X : Cx} {pins : List (Addr × Obj)} {σ : St} {H : Hp} {s : Shared} {A : Around} {E : Value → Shared → Prop} {Q : Value → Shared → Prop} {c : Value} {b : Bool}
inductive TyOf (K : PySem.W.Frag) (H : Hp) : V → Value → Prop where
  | non : TyOf K H .non (.type "NoneType")
  | bl (x : Bool) : TyOf K H (.bl x) (.type "bool")
  | int (i : Int) : TyOf K H (.int i) (.type "int")
  | str (x : Str) : TyOf K H (.str x) (.type "str")
  | flt (x : UInt64) : TyOf K H (.flt x) (.type "float")
  | lst {a : Addr} {xs : List V} (e : H a = some (.lst xs)) : TyOf K H (.ref a) (.type "list")
  | frz {a : Addr} {o : Obj} {xs : List V} (e : H a = some (.frz o (.lst xs))) : TyOf K H (.ref a) (.type "list")
  | tup {a : Addr} {xs : List V} (e : H a = some (.tup xs)) : TyOf K H (.ref a) (.type "tuple")
  | dK {a : Addr} {kvs : List (Key × V)} (e : H a = some (.dK kvs)) : TyOf K H (.ref a) (.type "dict")
  | dT {a : Addr} {kvs : List (List Key × V)} (e : H a = some (.dT kvs)) : TyOf K H (.ref a) (.type "dict")
  | ins {a C dx : Addr} {fs : List (Str × V)} (e : H a = some (.ins C dx fs)) (cl : Cls K C) (ha : PySem.W.findIn K (.ref C) "__class__" = some (some (.builtin "object.__class__")))
      (hn : PySem.W.specialIn K (.builtin "object.__class__") "__get__" = some (some (.builtin "getset_descriptor.__get__"))) (htk : PySem.W.takesIn K (.builtin "object.__class__") = some true)
      (hm : PySem.W.mroIn K C (.type "object") = some true) : TyOf K H (.ref a) (.ref C)
end
end L2
namespace L2
open PySem PySem.Spec PyProof.Rows
structure Room (k : Nat) (A : Around) : Prop where
  hd : A.handled = none
  dp : A.depth + 3 * k + 5 < recursionLimit
  un : A.units + 16 * k + 200 < cLine
  gd : A.guards = some []
theorem Room.mono {j k : Nat} {A : Around} (r : Room k A) (h : j ≤ k) : Room j A := ⟨r.hd, by have := r.dp; omega, by have := r.un; omega, r.gd⟩
theorem Room.deeper {k : Nat} {A : Around} (r : Room (k + 1) A) (env : Env) : Room k (A.deeper env) :=
  ⟨r.hd, by have := r.dp; show A.depth + 1 + 3 * k + 5 < _; omega, by have := r.un; show A.units + 3 + 16 * k + 200 < _; omega, r.gd⟩
theorem Room.in1 {k : Nat} {A : Around} (r : Room (k + 1) A) : Room k A.in1 :=
  ⟨r.hd, by have := r.dp; show A.depth + 3 * k + 5 < _; omega, by have := r.un; show A.units + 1 + 16 * k + 200 < _; omega, r.gd⟩
theorem make_depth {A : Around} {C : Addr} {us : List Value} {kw : List (Str × Value)} : (A.under (.builtin "type.__call__" ⟨.ref C :: us, kw⟩)).depth = A.depth + 1 := by
  first | rfl | simp [Around.under, Code.weight, Code.isCreation, Code.isGuard, Code.isCaller, Code.frames, Code.isFrame, guardIds]
theorem make_units {A : Around} {C : Addr} {us : List Value} {kw : List (Str × Value)} : (A.under (.builtin "type.__call__" ⟨.ref C :: us, kw⟩)).units = A.units + 1 := by
  first | rfl | simp [Around.under, Code.cUnits, Code.frames, Code.isFrame]
theorem Room.make {k : Nat} {A : Around} (r : Room (k + 1) A) (C : Addr) (us : List Value) (kw : List (Str × Value)) : Room k (A.under (.builtin "type.__call__" ⟨.ref C :: us, kw⟩)) :=
  ⟨r.hd, by have := r.dp; rw [make_depth]; omega, by have := r.un; rw [make_units]; omega, r.gd⟩
theorem Room.depth {k : Nat} {A : Around} (r : Room k A) : A.depth < recursionLimit := by have := r.dp; omega
theorem Room.units {k : Nat} {A : Around} (r : Room k A) : A.units + 64 < cLine := by have := r.un; omega
def tNil : TA := fun _ H Q => Q [] H
def tCons (ta : TE) (tr : TA) : TA := fun σ H Q => ta σ H fun x H1 => tr σ H1 fun xs H2 => Q (x :: xs) H2
section
variable {X : Cx} {e : Expr} {es : List Expr} {te : TE} {t : TA} {pos : Pos}
theorem pa_nil : PA X [] tNil := fun _ _ _ _ H Q I h => Calls.spliced_nil ⟨[], H, I, .nil, h⟩
theorem pa_cons (ha : PE X e te) (hr : PA X es t) (hs : starEach (e :: es) X.env = (false, eval e X.env) :: starEach es X.env := by rfl) : PA X (e :: es) (tCons te t) := by
  intro pos pins s σ H Q I h
  rw [hs]
  show wpAny _ _ (spliced ((false, eval e X.env) :: backTo pos (starEach es X.env))) _ _ s
  refine Calls.spliced_cons (thn (ha pins s σ H _ I h) fun u s1 ⟨x, H1, I1, r1, q1⟩ => ?_)
  exact thn (hr pos pins s1 σ H1 _ I1 q1) fun us s2 ⟨xs, H2, I2, r2, q2⟩ => ⟨x :: xs, H2, I2, .cons r1 r2, q2⟩
def tTup (t : TA) : TE := fun σ H Q => t σ H fun xs H1 => xs.length ≤ sizeLine ∧ ∀ p, H1 p = none → Q (.ref p) (upd H1 p (.tup xs))
def tLst (t : TA) : TE := fun σ H Q => t σ H fun xs H1 => xs.length ≤ sizeLine ∧ ∀ p, H1 p = none → Q (.ref p) (upd H1 p (.lst xs))
theorem pe_tup {x1} (h : PA X es t) : PE X (.Tuple es x1 pos) (tTup t) := by
  intro pins s σ H Q I hq
  refine wpAny_Tuple_spliced (thn (h pos pins s σ H _ I hq) fun us s1 ⟨xs, H1, I1, r, z, q⟩ => ⟨by rw [← r.length]; exact z, ?_⟩)
  have hf : H1 s1.heap.objs.size = none := I1.hok.fresh (Nat.le_refl _)
  refine ⟨.ref s1.heap.objs.size, upd H1 s1.heap.objs.size (.tup xs), I1.laid (t' := s1.toks) (fun b u e => Heap.get?_push_of_some _ e) (Nat.le_refl _) ?_, rfl, q _ hf⟩
  exact ⟨z, us, r, ⟨_, Heap.get?_push_size _ rfl, rfl, _, rfl⟩⟩
theorem pe_lst (h : PA X es t) : PE X (.List es pos) (tLst t) := by
  intro pins s σ H Q I hq
  refine wpAny_List_spliced (thn (h pos pins s σ H _ I hq) fun us s1 ⟨xs, H1, I1, r, z, q⟩ => ⟨by rw [← r.length]; exact z, ?_⟩)
  have hf : H1 s1.heap.objs.size = none := I1.hok.fresh (Nat.le_refl _)
  refine ⟨.ref s1.heap.objs.size, upd H1 s1.heap.objs.size (.lst xs), I1.laid (t' := s1.toks) (fun b u e => Heap.get?_push_of_some _ e) (Nat.le_refl _) ?_, rfl, q _ hf⟩
  exact ⟨z, us, 0, r, Heap.get?_push_size _ rfl⟩
end
abbrev Sp := List V → Hp → VK → XK → Prop
abbrev CXT := List Env → Hp → Shared → XK → Value → Shared → Prop
structure Env0 (P : Program) (w : World) (K : PySem.W.Frag) (mg : Str → Option Value) (base : Heap) (A : Around) (outer : List Env) (s : Shared) (H : Hp) : Prop where
  frames : A.frames = some outer
  mod : Mod K mg base
  bs : ∀ b o, base.get? b = some o → s.heap.get? b = some o ∧ H b = none
  bsz : base.objs.size ≤ s.heap.objs.size
  funs : s.heap.FunFrames base outer
  frf : ∀ b ∈ frs outer, H b = none
  hok : HOk P w H s.heap
  bare : AllBare s.gens
def CE (outer : List Env) (P : Program) (w : World) (H : Hp) (s : Shared) (Q : VK) (u : Value) (s' : Shared) : Prop :=
  ∃ v H', s'.os = s.os ∧ AllBare s'.gens ∧ Un (frs outer) [] H H' s.heap s'.heap ∧ HOk P w H' s'.heap ∧ RelV v u ∧ Q v H'
def CR (CX : CXT) (outer : List Env) (P : Program) (w : World) (H : Hp) (s : Shared) (Q : VK) (E : XK) (r : Result) (s' : Shared) : Prop :=
  match r with
  | .ok (.ret u) => CE outer P w H s Q u s'
  | .ok _ => False
  | .error e => CX outer H s E e s'
structure FnOk (P : Program) (w : World) (K : PySem.W.Frag) (mg : Str → Option Value) (base : Heap) (CX : CXT) (k : Nat) (f : Addr) (fd : FuncData) (ps : List Str) (sp : Sp) : Prop where
  len : ∀ vs H Q E, sp vs H Q E → vs.length = ps.length
  run : ∀ (A : Around) (outer : List Env) (s : Shared) (H : Hp) (args : Args) (us : List Value) (vs : List V) (Q : VK) (E : XK), Room k A → Env0 P w K mg base A outer s H → BindsTo s fd args (ps.zip us) → Vals vs us → sp vs H Q E →
    codeAny (model P w) A (.call (.ref f) args) (CR CX outer P w H s Q E) s
theorem FnOk.mono {P : Program} {w : World} {K : PySem.W.Frag} {mg : Str → Option Value} {base : Heap} {CX : CXT} {j k : Nat} {f : Addr} {fd : FuncData} {ps : List Str} {sp : Sp} (F : FnOk P w K mg base CX j f fd ps sp) (h : j ≤ k) :
    FnOk P w K mg base CX k f fd ps sp := ⟨F.len, fun A outer s H args us vs Q E hr => F.run A outer s H args us vs Q E (hr.mono h)⟩
theorem Env0.make {P : Program} {w : World} {K : PySem.W.Frag} {mg : Str → Option Value} {base : Heap} {A : Around} {outer : List Env} {s : Shared} {H : Hp} (e : Env0 P w K mg base A outer s H) (C : Addr) (us : List Value) (kw : List (Str × Value)) :
    Env0 P w K mg base (A.under (.builtin "type.__call__" ⟨.ref C :: us, kw⟩)) outer s H := ⟨by first | exact e.frames | (simpa [Around.under, Code.envs, Code.isFrame, pushEnvs] using e.frames), e.mod, e.bs, e.bsz, e.funs, e.frf, e.hok, e.bare⟩
theorem Env0.in1 {P : Program} {w : World} {K : PySem.W.Frag} {mg : Str → Option Value} {base : Heap} {A : Around} {outer : List Env} {s : Shared} {H : Hp} (e : Env0 P w K mg base A outer s H) :
    Env0 P w K mg base A.in1 outer s H := ⟨e.frames, e.mod, e.bs, e.bsz, e.funs, e.frf, e.hok, e.bare⟩
section
variable {X : Cx} {pins : List (Addr × Obj)} {σ : St} {H : Hp} {s s' : Shared}
theorem Inv.env0 (I : Inv X pins σ H s) : Env0 X.prog X.w X.K X.mg X.base X.A X.stack s H :=
  ⟨I.ok.frames, I.ok.mod, I.bs, Nat.le_trans I.ok.bsz I.sz, I.stack, I.stkFree, I.hok, I.bare⟩
theorem Inv.after {Q : VK} {u : Value} (I : Inv X pins σ H s) (h : CE X.stack X.prog X.w H s Q u s') : EP X pins σ Q u s' := by
  obtain ⟨v, H', os, bare, un, hok, r, q⟩ := h
  obtain ⟨hh, g, d, t, os'⟩ := s'
  obtain rfl : os' = s.os := os
  exact ⟨v, H', I.call (h' := hh) (g' := g) (d' := d) (t' := t) (ch := []) un hok bare (fun b z => absurd z (by simp)), r, q⟩
end
def tCall (sp : Sp) (dvs : List V) (E : XK) (t : TA) : TE := fun σ H Q => t σ H fun vs H1 => sp (vs ++ dvs) H1 Q E
def Binds (K : PySem.W.Frag) (fd : FuncData) (ps : List Str) (ds : List Value) : Prop :=
  ∀ (s : Shared) (us : List Value), K.In s.heap → (us ++ ds).length = ps.length → BindsTo s fd ⟨us, []⟩ (ps.zip (us ++ ds))
theorem Binds.all {K : PySem.W.Frag} {fd : FuncData} {ps : List Str} (h : ∀ us : List Value, us.length = ps.length → bindArgs fd ⟨us, []⟩ = pure (ps.zip us)) : Binds K fd ps [] := fun s us _ hl => by
  rw [List.append_nil] at hl ⊢
  exact .of_eq (h us hl)
def Passes (CX : CXT) (X : Cx) (E : XK) : Prop := ∀ (pins : List (Addr × Obj)) (σ : St) (H : Hp) (s : Shared) (e : Value) (s' : Shared), Inv X pins σ H s → CX X.stack H s E e s' → X.xe e s'
section
variable {X : Cx} {CX : CXT} {k : Nat} {f C : Addr} {fd : FuncData} {ps : List Str} {sp : Sp} {dvs : List V} {ds : List Value} {E : XK} {x m : Str} {p pos apos : Pos} {e o : Expr} {es : List Expr} {ta : TE} {t : TA}
theorem run_fn {pins : List (Addr × Obj)} {σ : St} {H : Hp} {s : Shared} {Q : VK} {us : List Value} {vs : List V} (F : FnOk X.prog X.w X.K X.mg X.base CX k f fd ps sp) (hr : Room k X.A) (hb : Binds X.K fd ps ds) (hd : Vals dvs ds) (hx : Passes CX X E)
    (I : Inv X pins σ H s) (r : Vals vs us) (h : sp (vs ++ dvs) H Q E) : wpAny (model X.prog X.w) X.A (call (.ref f) us) (EP X pins σ Q) X.xe s := by
  have r2 : Vals (vs ++ dvs) (us ++ ds) := r.append hd
  have hl : (us ++ ds).length = ps.length := by rw [← r2.length]; exact F.len _ _ _ _ h
  refine wpAny_call (codeAny_mono (F.run X.A X.stack s H ⟨us, []⟩ (us ++ ds) (vs ++ dvs) Q E hr I.env0 (hb s us I.kIn hl) r2 h) fun r s' hq => ?_)
  cases r with
  | error e => exact hx pins σ H s e s' I hq
  | ok fl =>
    cases fl with
    | ret u => exact I.after hq
    | next => exact False.elim hq
    | brk => exact False.elim hq
    | cont => exact False.elim hq
theorem pe_call (F : FnOk X.prog X.w X.K X.mg X.base CX k f fd ps sp) (hr : Room k X.A) (hg : Gl X x) (hm : X.mg x = some (.ref f)) (hk : PySem.W.keepIn X.K (.ref f) = true) (hb : Binds X.K fd ps ds) (hd : Vals dvs ds) (hx : Passes CX X E)
    (ha : PA X (e :: es) t) (hdb : (x == ("__debug__" : Str)) = false := by decide) (he : starEach (e :: es) X.env = (false, eval e X.env) :: starEach es X.env := by rfl) (hpl : (backTo pos (starEach es X.env)).any (·.1) = false := by rfl) :
    PE X (.Call (.Name x p) (e :: es) [] pos) (tCall sp dvs E t) := by
  intro pins s σ H Q I h
  refine wpAny_Call_Name_kw (ld_glob I hg hm ?_ hdb)
  refine PySem.W.callWith_K (h₀ := X.base) I.ok.mod.kin hk (thn (ha pos pins s σ H _ I h) fun us s1 ⟨vs, H1, I1, r, q⟩ => ⟨I1.kIn, ?_⟩) he hpl
  exact run_fn F hr hb hd hx I1 r q
theorem pe_call0 (F : FnOk X.prog X.w X.K X.mg X.base CX k f fd ps sp) (hr : Room k X.A) (hg : Gl X x) (hm : X.mg x = some (.ref f)) (hk : PySem.W.keepIn X.K (.ref f) = true) (hb : Binds X.K fd ps ds) (hd : Vals dvs ds) (hx : Passes CX X E)
    (hdb : (x == ("__debug__" : Str)) = false := by decide) : PE X (.Call (.Name x p) [] [] pos) (tCall sp dvs E tNil) := by
  intro pins s σ H Q I h
  refine wpAny_Call_Name_kw (ld_glob I hg hm ?_ hdb)
  exact PySem.W.callWith_K0 I.kIn hk (run_fn (us := []) F hr hb hd hx I .nil h)
structure Mk (K : PySem.W.Frag) (C f : Addr) : Prop where
  makes : PySem.W.makesIn K C = true
  init : PySem.W.findIn K (.ref C) "__init__" = some (some (.ref f))
  fn : PySem.W.isFn K (.ref f) = true
  kp : PySem.W.keepIn K (.ref C) = true
end
section
variable {X : Cx} {CX : CXT} {k : Nat} {f C : Addr} {fd : FuncData} {ps ks : List Str} {sp : Sp} {E : XK} {x m : Str} {p pos apos kpos : Pos} {e o : Expr} {es : List Expr} {kws : List Keyword} {te ta : TE} {t tk : TA} {nm : Option Str}
structure KBinds (K : PySem.W.Frag) (fd : FuncData) (ps ks : List Str) (g : List Value → List Value → List Value) (gV : List V → List V → List V) : Prop where
  to : ∀ (s : Shared) (us ws : List Value), K.In s.heap → (g us ws).length = ps.length → BindsTo s fd ⟨us, ks.zip ws⟩ (ps.zip (g us ws))
  rel : ∀ {vs : List V} {us : List Value} {zs : List V} {ws : List Value}, Vals vs us → Vals zs ws → Vals (gV vs zs) (g us ws)
variable {g : List Value → List Value → List Value} {gV : List V → List V → List V}
end
structure FnScope (N P : List Str) (sc : Scope) : Prop where
  kind : sc.kind = .function
  co : sc.isCoroutine = false
  gen : sc.isGenerator = false
  nd : N.Nodup
  pre : N.take P.length = P
  par : ∀ x ∈ P, sc.names.lookup x = some .local ∨ sc.names.lookup x = some .cell
  nofree : ∀ y ∈ sc.names, y.2 ≠ .free
theorem bindL_out {kindOf : Str → Option NameKind} {x : Str} : ∀ {binds : List (Str × Value)} {m : Str → Option Value}, (∀ v, (x, v) ∉ binds) → bindL kindOf binds m x = m x
  | [], _, _ => rfl
  | (n, v) :: r, m, h => by
    unfold bindL
    rw [bindL_out fun w hw => h w (List.mem_cons_of_mem _ hw)]
    split
    · have : x ≠ n := by rintro rfl; exact h v List.mem_cons_self
      simp [this]
    · rfl
theorem bindC_out {kindOf : Str → Option NameKind} {x : Str} : ∀ {binds : List (Str × Value)} {m : Str → Option Value}, (∀ v, (x, v) ∉ binds) → bindC kindOf binds m x = m x
  | [], _, _ => rfl
  | (n, v) :: r, m, h => by
    unfold bindC
    rw [bindC_out fun w hw => h w (List.mem_cons_of_mem _ hw)]
    split
    · rfl
    · have : x ≠ n := by rintro rfl; exact h v List.mem_cons_self
      simp [this]
theorem bindL_get {kindOf : Str → Option NameKind} {x : Str} {v : Value} : ∀ {P : List Str} {vs : List Value} {i : Nat} {m : Str → Option Value}, P.Nodup → P[i]? = some x → vs[i]? = some v → kindOf x = some .local →
    bindL kindOf (P.zip vs) m x = some v
  | [], _, _, _, _, h, _, _ => by simp at h
  | _ :: _, [], _, _, _, _, h, _ => by simp at h
  | p :: P, w :: vs, 0, m, nd, h1, h2, hk => by
    simp at h1 h2; subst h1; subst h2
    show bindL kindOf ((p, w) :: P.zip vs) m p = _
    unfold bindL
    rw [bindL_out fun v hv => (List.nodup_cons.mp nd).1 (List.of_mem_zip hv).1, if_pos hk]
    simp
  | p :: P, w :: vs, i + 1, m, nd, h1, h2, hk => by
    show bindL kindOf ((p, w) :: P.zip vs) m x = _
    unfold bindL
    exact bindL_get (i := i) (List.nodup_cons.mp nd).2 (by simpa using h1) (by simpa using h2) hk
theorem bindC_get {kindOf : Str → Option NameKind} {x : Str} {v : Value} : ∀ {P : List Str} {vs : List Value} {i : Nat} {m : Str → Option Value}, P.Nodup → P[i]? = some x → vs[i]? = some v → kindOf x ≠ some .local →
    bindC kindOf (P.zip vs) m x = some v
  | [], _, _, _, _, h, _, _ => by simp at h
  | _ :: _, [], _, _, _, _, h, _ => by simp at h
  | p :: P, w :: vs, 0, m, nd, h1, h2, hk => by
    simp at h1 h2; subst h1; subst h2
    show bindC kindOf ((p, w) :: P.zip vs) m p = _
    unfold bindC
    rw [bindC_out fun v hv => (List.nodup_cons.mp nd).1 (List.of_mem_zip hv).1, if_neg hk]
    simp
  | p :: P, w :: vs, i + 1, m, nd, h1, h2, hk => by
    show bindC kindOf ((p, w) :: P.zip vs) m x = _
    unfold bindC
    exact bindC_get (i := i) (List.nodup_cons.mp nd).2 (by simpa using h1) (by simpa using h2) hk
def start (N : List Str) (vs : List V) : St := vs.map some ++ List.replicate (N.length - vs.length) none
def cxOf (CX : CXT) (P : Program) (w : World) (K : PySem.W.Frag) (mg : Str → Option Value) (base : Heap) (N : List Str) (qual : Str) (scope : Scope) (f : Addr) (cd : Value) (A : Around) (outer : List Env) (s : Shared) (H : Hp) (E : XK) : Cx where
  prog := P
  w := w
  K := K
  mg := mg
  base := base
  A := A.deeper (envOfC qual scope s.heap.objs.size f cd)
  N := N
  s₀ := s
  H₀ := H
  env := envOfC qual scope s.heap.objs.size f cd
  outer := outer
  stack := envOfC qual scope s.heap.objs.size f cd :: outer
  ex := []
  calm := true
  fn := fun _ => true
  pn := []
  xe := fun e s' => wpAny (model P w) (A.deeper (envOfC qual scope s.heap.objs.size f cd)) (leaving (envOfC qual scope s.heap.objs.size f cd) e) (fun _ s'' => CX outer H s E e s'') (fun e' s'' => CX outer H s E e' s'') s'
theorem cell_has {sc : Scope} {n : Nat} {x : Str} (h : sc.names.lookup x = some .cell) : ∃ c, (cellsFrom n sc.names []).lookup x = some c := by
  have q := PySem.W.cellsFrom_some sc.names n [] (.inl h)
  exact Option.isSome_iff_exists.mp q
theorem inv_start {CX : CXT} {P : Program} {w : World} {K : PySem.W.Frag} {mg : Str → Option Value} {base : Heap} {N ps : List Str} {qual : Str} {scope : Scope} {f : Addr} {cd : Value} {A : Around} {outer : List Env} {s s1 : Shared} {H : Hp} {E : XK} {us : List Value} {vs : List V}
    (S : FnScope N ps scope) (hd : A.handled = none) (e0 : Env0 P w K mg base A outer s H) (hl : vs.length = ps.length) (r : Vals vs us)
    (x : InCallC s s.heap.objs.size (bindL (envOfC qual scope s.heap.objs.size f cd).kindOf (ps.zip us) fun _ => none) (cellsFrom (s.heap.objs.size + 1) scope.names []) (bindC (envOfC qual scope s.heap.objs.size f cd).kindOf (ps.zip us) fun _ => none) s1) :
    Inv (cxOf CX P w K mg base N qual scope f cd A outer s H E) [] (start N vs) H s1 := by
  have hpl : ps.length ≤ N.length := by have := congrArg List.length S.pre; rw [List.length_take] at this; omega
  obtain ⟨h1, tk, rfl, hk⟩ := x.done
  have noA : ∀ b : Addr, b ∉ (cxOf CX P w K mg base N qual scope f cd A outer s H E).ex := fun b z => absurd (show b ∈ ([] : List Addr) from z) (by simp)
  refine ⟨⟨e0.mod, S.kind, rfl, rfl, Nat.le_refl _, fun y z c h1 h2 => ?_, fun y hy => ?_, fun y c _ h => ?_, fun _ => hd, Around.frames_deeper e0.frames, .inr ⟨rfl, rfl⟩, fun b z => absurd z (noA b), e0.bs, e0.bsz, fun b _ _ => noA b, fun b z => absurd z (noA b), e0.funs, e0.frf⟩,
    rfl, e0.bare, Un.kept hk, ⟨_, x.toInCall.ns, fun i y v h1 h2 h3 => ?_⟩, fun y c h => ⟨_, x.cell y c h⟩, e0.hok.fresh (Nat.le_refl _), fun y c h => ?_, fun p hp => absurd (show p ∈ ([] : List (Addr × Obj)) from hp) (by simp), e0.hok.kept hk, ?_⟩
  · exact name_of_addr x.apart (PySem.mem_of_lookup h1) (PySem.mem_of_lookup h2)
  · have hy : scope.names.lookup y = some .cell ∨ scope.names.lookup y = some .free := hy
    rcases hy with hy | hy
    · exact cell_has hy
    · exact absurd rfl (S.nofree _ (PySem.mem_of_lookup hy))
  · exact Nat.le_of_lt (x.above y c (PySem.mem_of_lookup h))
  · have hi : i < vs.length := by
      unfold start at h2
      by_cases hi : i < vs.length
      · exact hi
      · rw [List.getElem?_append_right (by simpa using hi)] at h2
        rw [List.getElem?_replicate] at h2
        split at h2 <;> cases h2
    have ha : vs[i]? = some v := by
      unfold start at h2
      rw [List.getElem?_append_left (by simpa using hi), List.getElem?_map] at h2
      cases e : vs[i]? with
      | none => rw [e] at h2; cases h2
      | some a => rw [e] at h2; cases h2; rfl
    obtain ⟨u, hu, rv⟩ := r.get ha
    have hp : ps[i]? = some y := by
      rw [← S.pre, List.getElem?_take_of_lt (by omega)]; exact h1
    have ndP : ps.Nodup := by rw [← S.pre]; exact S.nd.sublist (List.take_sublist _ _)
    refine ⟨u, rv, ?_⟩
    rcases S.par y (List.mem_of_getElem? hp) with k | k
    · exact .inl ⟨k, bindL_get ndP hp hu k⟩
    · obtain ⟨c, e⟩ := cell_has (n := s.heap.objs.size + 1) k
      refine .inr ⟨.inl k, c, e, ?_⟩
      have q := x.cell y c e
      rw [bindC_get ndP hp hu (by show scope.names.lookup y ≠ _; rw [k]; decide)] at q
      exact q
  · exact e0.hok.fresh (Nat.le_of_lt (x.above y c (PySem.mem_of_lookup h)))
  · unfold start
    show _ = N.length
    rw [List.length_append, List.length_map, List.length_replicate]
    omega
theorem fn_of {CX : CXT} {P : Program} {w : World} {K : PySem.W.Frag} {mg : Str → Option Value} {base : Heap} {k : Nat} {f : Addr} {name qual : Str} {params : Arguments} {body : List Stmt} {scope : Scope} {dV kV doc pm cdv ct oc : Value} {an od : Option Addr}
    {osl : Array (Option Value)} {N ps : List Str} {sp : Sp} (lk : K.lookup f = some ⟨oc, od, .func (PySem.W.fnOf name qual params body scope dV kV doc pm an cdv ct), osl⟩) (hcd : PySem.W.codeIn K cdv qual = true) (S : FnScope N ps scope)
    (len : ∀ vs H Q E, sp vs H Q E → vs.length = ps.length)
    (hbody : ∀ (A : Around) (outer : List Env) (s : Shared) (H : Hp) (vs : List V) (Q : VK) (E : XK), Room k (A.deeper (envOfC qual scope s.heap.objs.size f cdv)) → sp vs H Q E →
      ∃ t, PSs (cxOf CX P w K mg base N qual scope f cdv A outer s H E) body t ∧ t { nx := fun _ H' => Q .non H', rt := Q } (start N vs) H) :
    FnOk P w K mg base CX (k + 1) f (PySem.W.fnOf name qual params body scope dV kV doc pm an cdv ct) ps sp := by
  refine ⟨len, fun A outer s H args us vs Q E hr e0 hb r hsp => ?_⟩
  have hl := len _ _ _ _ hsp
  have KX : K.In s.heap := e0.mod.kin.keeps fun b o e => (e0.bs b o e).1
  have lim : s.heap.NoLimit := e0.mod.nolimit.keeps fun b o e => (e0.bs b o e).1
  have hkind : ∀ y ∈ ps.zip us, scope.names.lookup y.1 = some .local ∨ (scope.names.lookup y.1 = some .cell ∧ ((cellsFrom (s.heap.objs.size + 1) scope.names []).lookup y.1).isSome = true) := fun ⟨n, v⟩ hy => by
    rcases S.par n (List.of_mem_zip hy).1 with q | q
    · exact .inl q
    · exact .inr ⟨q, PySem.W.cellsFrom_some _ _ _ (.inl q)⟩
  refine codeAny_call_function hr.depth (KX _ _ lk) rfl S.co S.gen rfl (PySem.W.codeRec_of KX hcd) (hb _ _ _ _ ?_)
  refine wpAny_newFunctionEnv_cells S.kind hkind fun env he s1 x => ?_
  subst he
  refine ⟨lim.keeps x.toInCall.keep, codeAny_func ?_⟩
  obtain ⟨t, ht, hq⟩ := hbody A outer s H vs Q E (hr.deeper _) hsp
  have I : Inv (cxOf CX P w K mg base N qual scope f cdv A outer s H E) [] (start N vs) H s1 := inv_start S hr.hd e0 hl r x
  refine wpAny_mono (ht [] s1 (start N vs) H _ I hq) (fun fl s' hs => ?_) fun e s' hs => hs
  have fin : ∀ {σ' : St} {H' : Hp} {v : V} {u : Value}, Inv (cxOf CX P w K mg base N qual scope f cdv A outer s H E) [] σ' H' s' → RelV v u → Q v H' → CE outer P w H s Q u s' :=
    fun {σ' H' v u} J rv q => ⟨v, H', J.os, J.bare, J.base, J.hok, rv, q⟩
  cases fl with
  | ret u =>
    obtain ⟨v, σ', H', J, rv, q⟩ := hs
    exact fin J rv q
  | next =>
    obtain ⟨σ', H', J, q⟩ := hs
    exact fin (v := V.non) (u := Value.none) J rfl q
  | brk =>
    obtain ⟨_, _, _, q⟩ := hs
    exact False.elim q
  | cont =>
    obtain ⟨_, _, _, q⟩ := hs
    exact False.elim q
end L2
namespace L2
open PySem PySem.Spec PyProof.Rows
section
variable {X : Cx} {x : Str} {p pos : Pos} {e : Expr} {es : List Expr} {t : TA} {id T : String} {r : List V → Hp → VK → Prop}
def tCB (r : List V → Hp → VK → Prop) (t : TA) : TE := fun σ H Q => t σ H fun vs H1 => r vs H1 Q
theorem pe_callB (hc : CallR X (.builtin id) r) (hg : Gl X x) (hm : X.mg x = none) (hv : bootBuiltins x = some (.builtin id)) (ha : PA X (e :: es) t) (hn : x ≠ "__name__" := by decide) (hdb : (x == ("__debug__" : Str)) = false := by decide)
    (he : starEach (e :: es) X.env = (false, eval e X.env) :: starEach es X.env := by rfl) (hpl : (backTo pos (starEach es X.env)).any (·.1) = false := by rfl) : PE X (.Call (.Name x p) (e :: es) [] pos) (tCB r t) := by
  intro pins s σ H Q I h
  refine wpAny_Call_Name_kw (ld_blt I hg hm hv ?_ hn hdb)
  exact PyProof.Rows.callWith_builtin1 (thn (ha pos pins s σ H _ I h) fun us s1 ⟨vs, H1, I1, r1, q1⟩ => hc pins s1 σ H1 vs us Q I1 r1 q1) he hpl
theorem pe_callTy (hc : CallR X (.type T) r) (hg : Gl X x) (hm : X.mg x = none) (hv : bootBuiltins x = some (.type T)) (ha : PA X (e :: es) t) (hn : x ≠ "__name__" := by decide) (hdb : (x == ("__debug__" : Str)) = false := by decide)
    (he : starEach (e :: es) X.env = (false, eval e X.env) :: starEach es X.env := by rfl) (hpl : (backTo pos (starEach es X.env)).any (·.1) = false := by rfl) : PE X (.Call (.Name x p) (e :: es) [] pos) (tCB r t) := by
  intro pins s σ H Q I h
  refine wpAny_Call_Name_kw (ld_blt I hg hm hv ?_ hn hdb)
  exact PyProof.Rows.callWith_type1 (thn (ha pos pins s σ H _ I h) fun us s1 ⟨vs, H1, I1, r1, q1⟩ => hc pins s1 σ H1 vs us Q I1 r1 q1) he hpl
end
end L2
namespace HT
open PySem PyProof.Rows
section
open PySem.SeqAt
open PySem.AutoSeq1 (wpAny_loadPart')
open PySem.MeetsSeq PySem.MeetsSeq2 PySem.MeetsSeq3
end
section
variable {prog : Program} {w : World} {A : Around} {E : Value → Shared → Prop} {s : Shared}
theorem cat_tup {t b : Addr} {vs ws : List Value} {Q : Value → Shared → Prop} (ht : IsTup s.heap t vs.toArray) (hb : IsTup s.heap b ws.toArray) (hv : vs ≠ [])
    (h1 : ws = [] → Q (.ref t) s) (h2 : ws ≠ [] → Q (.ref s.heap.objs.size) { s with heap := s.heap.push { cls := .type "tuple", data := .seq (vs ++ ws).toArray } })
    (hsz : vs.length + ws.length ≤ sizeLine) : wpAny (model prog w) A (binaryOp .Add (.ref t) (.ref b)) Q E s := by
  obtain ⟨⟨cls, dd, data, sl⟩, ho, hc, n, hd⟩ := id ht
  obtain ⟨⟨cls2, dd2, data2, sl2⟩, ho2, hc2, n2, hd2⟩ := id hb
  simp only at hc hd hc2 hd2
  subst hc hd hc2 hd2
  have e : vs.toArray ++ ws.toArray = (vs ++ ws).toArray := by simp
  by_cases hw : ws = []
  · exact concat_meets ⟨_, ho, rfl⟩ ⟨_, ho2, rfl⟩ noFill_tuple_add seq_tuple_add PySem.F.slot_tuple_add PySem.F.entry_tuple_add (PySem.F.args_tuple_add_2 _ _)
      (tuple_addW1 t b vs.toArray ws.toArray n n2 dd dd2 sl sl2 (by simpa using hv) (by simp [hw])) ⟨ho, ho2, h1 hw⟩
  · refine concat_meets ⟨_, ho, rfl⟩ ⟨_, ho2, rfl⟩ noFill_tuple_add seq_tuple_add PySem.F.slot_tuple_add PySem.F.entry_tuple_add (PySem.F.args_tuple_add_2 _ _)
      (tuple_addW2 t b vs.toArray ws.toArray n n2 dd dd2 sl sl2 (by simpa using hv) (by simpa using hw) (by rw [List.size_toArray, List.size_toArray]; exact hsz)) ⟨ho, ho2, ?_⟩
    rw [e]
    exact h2 hw
def sIx (n d : Nat) : Option Int → Nat
  | none => d
  | some v => if v < 0 then (v + (n : Int)).toNat else min v.toNat n
theorem sIx_none (n d : Nat) : sIx n d none = d := rfl
theorem sIx_nat (n d k : Nat) : sIx n d (some (k : Int)) = min k n := by
  show (if (k : Int) < 0 then ((k : Int) + (n : Int)).toNat else min (k : Int).toNat n) = min k n
  rw [if_neg (by omega), Int.toNat_natCast]
theorem sIx_le (n d : Nat) (hd : d ≤ n) (o : Option Int) : sIx n d o ≤ n := by
  cases o with
  | none => exact hd
  | some v =>
    show (if v < 0 then (v + (n : Int)).toNat else min v.toNat n) ≤ n
    by_cases hv : v < 0
    · rw [if_pos hv]; omega
    · rw [if_neg hv]; exact Nat.min_le_right _ _
theorem clip_eq (v : Int) (n d : Nat) : (if v < 0 then max (v + (n : Int)) 0 else min v (n : Int)) = ((sIx n d (some v) : Nat) : Int) := by
  show (if v < 0 then max (v + (n : Int)) 0 else min v (n : Int)) = (((if v < 0 then (v + (n : Int)).toNat else min v.toNat n) : Nat) : Int)
  by_cases hv : v < 0
  · simp only [if_pos hv]; omega
  · simp only [if_neg hv]; omega
theorem adjust_gen (lo hi : Option Int) (n : Nat) : Builtin.Slice.sliceAdjust lo hi 1 (n : Int) = (((sIx n 0 lo : Nat) : Int), ((sIx n n hi : Nat) : Int)) := by
  have h1 : ¬ ((1 : Int) < 0) := by omega
  unfold Builtin.Slice.sliceAdjust
  simp only [h1, if_false]
  refine Prod.ext ?_ ?_
  · cases lo with
    | none => rfl
    | some v => exact clip_eq v n 0
  · cases hi with
    | none => rfl
    | some v => exact clip_eq v n n
theorem places_gen (i j : Nat) : Builtin.Slice.slicePlaces (i : Int) (j : Int) 1 = j - i := by
  unfold Builtin.Slice.slicePlaces
  have h1 : (1 : Int) > 0 := by omega
  simp only [h1, if_true, Int.ediv_one]
  split <;> omega
theorem slicePart_ {v : Value} {o : Option Int} {Q : Option Int → Shared → Prop} (p : IsPart v o) (h : Q o s) : wpAny (model prog w) A (Builtin.Slice.slicePartIndex v) Q E s := by
  cases p with
  | none => exact slicePart_none h
  | int i t => exact slicePart_int h
theorem sliceApplied_gen {sl : Addr} {vl vu : Value} {lo hi : Option Int} {n : Nat} {Q : Int × Int × Nat → Shared → Prop} (hs : s.heap.IsSliceOf sl vl vu .none) (pl : IsPart vl lo) (pu : IsPart vu hi)
    (h : Q (((sIx n 0 lo : Nat) : Int), 1, sIx n n hi - sIx n 0 lo) s) : wpAny (model prog w) A (Builtin.Slice.sliceApplied (.ref sl) (pure (n : Int))) Q E s := by
  obtain ⟨os, hos, hcs, hds⟩ := id hs
  unfold Builtin.Slice.sliceApplied Builtin.Slice.sliceFields
  refine wpAny_bind (wpAny_bind (wpAny_field hos hds (x := vl) rfl (wpAny_bind (wpAny_field hos hds (x := vu) rfl (wpAny_bind (wpAny_field hos hds (x := .none) rfl (wpAny_pure ?_)))))))
  refine wpAny_bind (slicePart_none ?_)
  show wpAny _ _ (if ((1 : Int) == 0) = true then _ else _) _ _ s
  rw [if_neg (by decide)]
  refine wpAny_bind (slicePart_ pl (wpAny_bind (slicePart_ pu (wpAny_bind (wpAny_pure ?_)))))
  show wpAny _ _ (match Builtin.Slice.sliceAdjust lo hi 1 (n : Int) with | (lo, hi) => pure (lo, (1 : Int), Builtin.Slice.slicePlaces lo hi 1)) _ _ s
  rw [adjust_gen lo hi n]
  show wpAny _ _ (pure (((sIx n 0 lo : Nat) : Int), (1 : Int), Builtin.Slice.slicePlaces ((sIx n 0 lo : Nat) : Int) ((sIx n n hi : Nat) : Int) 1)) _ _ s
  rw [places_gen]
  exact wpAny_pure h
theorem pick_gen (xs : Array Value) (i k : Nat) : ((List.range k).filterMap fun (m : Nat) => xs[((i : Int) + (m : Int) * 1).toNat]?).toArray = ((xs.toList.drop i).take k).toArray := by
  have e : (fun (m : Nat) => xs[((i : Int) + (m : Int) * 1).toNat]?) = fun m => xs[i + m]? := by
    funext m
    have : ((i : Int) + (m : Int) * 1).toNat = i + m := by omega
    rw [this]
  rw [e]
  have := pick_run xs i k
  rw [List.filterMap_map] at this
  have e2 : ((fun x => xs[x]?) ∘ fun x => i + x) = fun m => xs[i + m]? := rfl
  rw [e2] at this
  rw [this]
theorem getItem_tuple_cut {t sl : Addr} {items : Array Value} {vl vu : Value} {lo hi : Option Int} {Q : Value → Shared → Prop} (ht : IsTup s.heap t items) (hs : s.heap.IsSliceOf sl vl vu .none) (pl : IsPart vl lo) (pu : IsPart vu hi)
    (hw : ¬ (sIx items.size 0 lo = 0 ∧ sIx items.size items.size hi = items.size))
    (h : Q (.ref s.heap.objs.size) { s with heap := s.heap.push { cls := .type "tuple", data := .seq ((items.toList.drop (sIx items.size 0 lo)).take (sIx items.size items.size hi - sIx items.size 0 lo)).toArray } })
    (hsz : items.size ≤ sizeLine) : wpAny (model prog w) A (getItem (.ref t) (.ref sl)) Q E s := by
  have htake : sizeOk (.seq ((items.toList.drop (sIx items.size 0 lo)).take (sIx items.size items.size hi - sIx items.size 0 lo)).toArray) := by
    show ((items.toList.drop (sIx items.size 0 lo)).take (sIx items.size items.size hi - sIx items.size 0 lo)).toArray.size ≤ sizeLine
    rw [List.size_toArray, List.length_take, List.length_drop, Array.length_toList]
    omega
  have hj : sIx items.size items.size hi ≤ items.size := sIx_le _ _ (Nat.le_refl _) hi
  obtain ⟨os, hos, hcs, hds⟩ := id hs
  have hTs : s.TypeIs (.ref sl) "slice" := ⟨os, hos, hcs⟩
  unfold getItem
  try with_reducible refine wpAny_holding ?_
  first | refine wpAny_bind (wpAny_pure ?_) | skip
  refine wpAny_bind (wpAny_sequenceKey ht.typeIs (by decide) ?_)
  refine wpAny_bind (wpAny_callSpecial?_slot (name := Str.ofString "__getitem__") ht.typeIs PyProof.Rows.slot_tuple_getitem
    (wpAny_call_entry PyProof.Rows.slot_tuple_getitem ht.typeIs entry_tuple_getitem ?_ (args_tuple_getitem _ _)))
  show wpAny _ _ (Builtin.Tuple.tupleItemsOf (.ref t) >>= _) _ _ s
  refine wpAny_bind (tupleItemsOf_ ht ?_)
  refine wpAny_bind (wpAny_typeOf hTs ?_)
  rw [if_pos (by decide)]
  refine wpAny_bind (sliceApplied_gen hs pl pu ?_)
  have hno : ¬ ((((sIx items.size 0 lo : Nat) : Int) == 0 && (1 : Int) == 1 && (sIx items.size items.size hi - sIx items.size 0 lo) == items.size) = true) := by
    intro q
    rw [Bool.and_eq_true, Bool.and_eq_true] at q
    have q1 : ((sIx items.size 0 lo : Nat) : Int) = 0 := eq_of_beq q.1.1
    have q2 : sIx items.size items.size hi - sIx items.size 0 lo = items.size := eq_of_beq q.2
    exact hw ⟨by omega, by omega⟩
  show wpAny _ _ (if (((sIx items.size 0 lo : Nat) : Int) == 0 && (1 : Int) == 1 && (sIx items.size items.size hi - sIx items.size 0 lo) == items.size) = true then _ else _) _ _ s
  rw [if_neg hno, pick_gen]
  first
    | exact wpAny_bind (m := Builtin.Tuple.tupleExact _) (wpAny_newObj_type (wpAny_pure ⟨_, rfl, wpAny_pure h⟩) htake)
    | exact wpAny_bind (m := Builtin.Tuple.tupleExact _) (wpAny_newObj_type (wpAny_bind (wpAny_pure (wpAny_pure ⟨_, rfl, wpAny_pure h⟩))) htake)
    | exact wpAny_bind (wpAny_bind (m := Builtin.Tuple.tupleExact _) (wpAny_newObj_type (wpAny_pure (wpAny_pure ⟨_, rfl, wpAny_pure h⟩)) htake))
    | exact wpAny_bind (wpAny_bind (m := Builtin.Tuple.tupleExact _) (wpAny_newObj_type (wpAny_pure ⟨_, rfl, wpAny_pure h⟩) htake))
end
end HT
namespace L2
open PySem PySem.Spec PyProof.Rows
abbrev TO := St → Hp → (Option Int → Hp → Prop) → Prop
def PO (X : Cx) (e : Option Expr) (t : TO) : Prop :=
  ∀ (pins : List (Addr × Obj)) (s : Shared) (σ : St) (H : Hp) (Q : Option Int → Hp → Prop), Inv X pins σ H s → t σ H Q →
    wpAny (model X.prog X.w) X.A (evalPart e X.env) (fun u s' => ∃ o H', Inv X pins σ H' s' ∧ IsPart u o ∧ Q o H') X.xe s
def tNoPart : TO := fun _ H Q => Q none H
def tPart (t : TE) : TO := fun σ H Q => t σ H fun x H1 => ∃ i, x = .int i ∧ Q (some i) H1
section
variable {X : Cx} {e : Expr} {te : TE} {lo hi : Option Expr} {tl th : TO} {pos p2 : Pos}
theorem po_none : PO X none tNoPart := by
  intro pins s σ H Q I h
  rw [evalPart_none]
  exact wpAny_pure ⟨none, H, I, .none, h⟩
theorem po_some (h : PE X e te) : PO X (some e) (tPart te) := by
  intro pins s σ H Q I hw
  rw [evalPart_some]
  refine thn (h pins s σ H _ I hw) fun u s1 ⟨x, H1, I1, r1, q1⟩ => ?_
  obtain ⟨i, rfl, q⟩ := q1
  obtain ⟨t, rfl⟩ := r1
  exact ⟨some i, H1, I1, .int i t, q⟩
def SlR (X : Cx) (r : V → Option Int → Option Int → Hp → VK → Prop) : Prop :=
  ∀ (pins : List (Addr × Obj)) (s : Shared) (σ : St) (H : Hp) (x : V) (v vl vu : Value) (lo hi : Option Int) (sl : Addr) (Q : VK), Inv X pins σ H s → RelV x v → s.heap.IsSliceOf sl vl vu .none → IsPart vl lo → IsPart vu hi → r x lo hi H Q →
    ∃ T id, typeLookup (.type T) "__getitem__" = pure (some (.builtin id)) ∧ s.TypeIs v T ∧ wpAny (model X.prog X.w) X.A (getItem v (.ref sl)) (EP X pins σ Q) X.xe s
theorem SlR.or {r r' : V → Option Int → Option Int → Hp → VK → Prop} (h : SlR X r) (h' : SlR X r') : SlR X (fun x lo hi H Q => r x lo hi H Q ∨ r' x lo hi H Q) := by
  intro pins s σ H x v vl vu lo hi sl Q I rx hs pl pu q
  rcases q with q | q
  · exact h pins s σ H x v vl vu lo hi sl Q I rx hs pl pu q
  · exact h' pins s σ H x v vl vu lo hi sl Q I rx hs pl pu q
def tSl (r : V → Option Int → Option Int → Hp → VK → Prop) (te : TE) (tl th : TO) : TE := fun σ H Q => te σ H fun x H1 => tl σ H1 fun l H2 => th σ H2 fun u H3 => r x l u H3 Q
theorem pe_slice {r : V → Option Int → Option Int → Hp → VK → Prop} (hr : SlR X r) (he : PE X e te) (hl : PO X lo tl) (hu : PO X hi th) : PE X (.Subscript e (.Slice lo hi none p2) pos) (tSl r te tl th) := by
  intro pins s σ H Q I h
  refine Subscript_ (thn (he pins s σ H _ I h) fun v s1 ⟨x, H1, I1, r1, q1⟩ => ?_)
  refine wpAny_Slice (thn (hl pins s1 σ H1 _ I1 q1) fun vl s2 ⟨l, H2, I2, pl, q2⟩ => thn (hu pins s2 σ H2 _ I2 q2) fun vu s3 ⟨u, H3, I3, pu, q3⟩ => ?_)
  rw [evalPart_none]
  refine wpAny_pure ?_
  have I4 : Inv X pins σ H3 { s3 with heap := s3.heap.push { cls := .type "slice", data := .fields #[vl, vu, .none] } } := I3.kept (t' := s3.toks) fun b ob q => Heap.get?_push_of_some _ q
  obtain ⟨T, id, hT, ht, hg⟩ := hr pins { s3 with heap := s3.heap.push { cls := .type "slice", data := .fields #[vl, vu, .none] } } σ H3 x v vl vu l u s3.heap.objs.size Q I4 r1 (Heap.IsSliceOf.new ..) pl pu q3
  show wpAny (model X.prog X.w) X.A (subscriptTail e (.Slice lo hi none p2) v (.ref s3.heap.objs.size)) (EP X pins σ Q) X.xe { s3 with heap := s3.heap.push { cls := .type "slice", data := .fields #[vl, vu, .none] } }
  exact tail_any (ops := [.ref s3.heap.objs.size, v]) ht hT hg (by with_unfolding_all rfl)
def cutV (xs : List V) (lo hi : Option Int) : List V := (xs.drop (HT.sIx xs.length 0 lo)).take (HT.sIx xs.length xs.length hi - HT.sIx xs.length 0 lo)
theorem cutV_length (xs : List V) (lo hi : Option Int) : (cutV xs lo hi).length ≤ xs.length := by
  unfold cutV
  rw [List.length_take, List.length_drop]
  omega
def rSlT (K : PySem.W.Frag) : V → Option Int → Option Int → Hp → VK → Prop := fun x lo hi H Q => ∃ a xs, x = .ref a ∧ SqT K H a xs ∧
  ¬ (HT.sIx xs.length 0 lo = 0 ∧ HT.sIx xs.length xs.length hi = xs.length) ∧ ∀ p, H p = none → Q (.ref p) (upd H p (.tup (cutV xs lo hi)))
theorem sl_tup : SlR X (rSlT X.K) := by
  intro pins s σ H x v vl vu lo hi sl Q I rx hs pl pu h
  obtain ⟨a, xs, rfl, hx, hw, q⟩ := h
  cases rx
  obtain ⟨its, r, ht, hz⟩ := I.tuple hx
  have hlen : its.toArray.size = xs.length := by rw [List.size_toArray]; exact r.length.symm
  refine ⟨"tuple", _, PyProof.Rows.slot_tuple_getitem.lookup, ht.typeIs, ?_⟩
  refine HT.getItem_tuple_cut ht hs pl pu (by rw [hlen]; exact hw) ?_ (by rw [hlen]; exact hz)
  rw [hlen]
  refine ⟨.ref s.heap.objs.size, _, I.laid (t' := s.toks) (o := .tup (cutV xs lo hi)) (fun b ob q => Heap.get?_push_of_some _ q) (Nat.le_refl _) ?_, rfl, q _ (I.hok.fresh (Nat.le_refl _))⟩
  exact ⟨Nat.le_trans (cutV_length xs lo hi) hz, _, (r.drop (HT.sIx xs.length 0 lo)).take (HT.sIx xs.length xs.length hi - HT.sIx xs.length 0 lo), IsTup.new _ _⟩
def rCatT (K : PySem.W.Frag) : R2 := fun x y H Q => ∃ a b xs ys, x = .ref a ∧ y = .ref b ∧ SqT K H a xs ∧ SqT K H b ys ∧ xs ≠ [] ∧ xs.length + ys.length ≤ sizeLine ∧
  (ys = [] → Q (.ref a) H) ∧ (ys ≠ [] → ∀ p, H p = none → Q (.ref p) (upd H p (.tup (xs ++ ys))))
theorem Vals.nil_iff {xs : List V} {us : List Value} (r : Vals xs us) : us = [] ↔ xs = [] := by
  cases r with
  | nil => simp
  | cons _ _ => simp
theorem op_catT : OpR X (binaryOp .Add) (rCatT X.K) := by
  intro pins s σ H x y v u Q I rx ry h
  obtain ⟨a, b, xs, ys, rfl, rfl, ha, hb, hx, hz, q1, q2⟩ := h
  cases rx
  cases ry
  obtain ⟨its, r1, p1, _⟩ := I.tuple ha
  obtain ⟨its2, r2, p2, _⟩ := I.tuple hb
  refine HT.cat_tup p1 p2 (fun z => hx (r1.nil_iff.mp z)) (fun z => ⟨.ref a, H, I, rfl, q1 (r2.nil_iff.mp z)⟩) (fun z => ?_) (by rw [← r1.length, ← r2.length]; exact hz)
  refine ⟨.ref s.heap.objs.size, _, I.laid (t' := s.toks) (o := .tup (xs ++ ys)) (fun b ob q => Heap.get?_push_of_some _ q) (Nat.le_refl _) ?_, rfl, q2 (fun w => z (r2.nil_iff.mpr w)) _ (I.hok.fresh (Nat.le_refl _))⟩
  exact ⟨by rw [List.length_append]; exact hz, _, r1.append r2, IsTup.new _ _⟩
end
end L2
namespace L2
open PySem PySem.Spec PyProof.Rows
def ixN (n : Nat) (i : Int) : Option Nat := if 0 ≤ i then (if i < n then some i.toNat else none) else if -(n : Int) ≤ i then some (i + n).toNat else none
def atI {α : Type} (xs : List α) (i : Int) : Option α := (ixN xs.length i).bind fun j => xs[j]?
theorem ixN_seq {n : Nat} {i : Int} {j : Nat} (h : ixN n i = some j) : seqIndex? i n = some j ∧ j < n ∧ -(n : Int) ≤ i ∧ i < n := by
  unfold ixN at h
  by_cases h0 : 0 ≤ i
  · rw [if_pos h0] at h
    by_cases h1 : i < n
    · rw [if_pos h1] at h
      have e : i.toNat = j := Option.some.inj h
      exact ⟨by rw [seqIndex_of h0 h1, e], by omega, by omega, h1⟩
    · rw [if_neg h1] at h; cases h
  · rw [if_neg h0] at h
    by_cases h1 : -(n : Int) ≤ i
    · rw [if_pos h1] at h
      have e : (i + n).toNat = j := Option.some.inj h
      exact ⟨by rw [seqIndex_neg (by omega) h1, e], by omega, h1, by omega⟩
    · rw [if_neg h1] at h; cases h
theorem atI_get {α : Type} {xs : List α} {i : Int} {v : α} (h : atI xs i = some v) : ∃ j, seqIndex? i xs.length = some j ∧ xs[j]? = some v ∧ j < xs.length ∧ -(xs.length : Int) ≤ i ∧ i < xs.length := by
  unfold atI at h
  cases e : ixN xs.length i with
  | none => rw [e] at h; cases h
  | some j =>
    rw [e] at h
    obtain ⟨h1, h2, h3, h4⟩ := ixN_seq e
    exact ⟨j, h1, h, h2, h3, h4⟩
theorem atI_nat {α : Type} {xs : List α} {j : Nat} {v : α} (h : xs[j]? = some v) : atI xs (j : Int) = some v := by
  have hj : j < xs.length := (List.getElem?_eq_some_iff.mp h).1
  have e : ixN xs.length (j : Int) = some j := by
    unfold ixN
    rw [if_pos (by omega), if_pos (by omega)]; simp
  unfold atI; rw [e]; exact h
theorem atI_last {α : Type} (xs : List α) (v : α) : atI (xs ++ [v]) (-1) = some v := by
  have hl : (xs ++ [v]).length = xs.length + 1 := by simp
  have e : ixN (xs ++ [v]).length (-1) = some xs.length := by
    unfold ixN
    rw [hl, if_neg (by decide), if_pos (by omega)]
    congr 1
    omega
  unfold atI
  rw [e]
  show (xs ++ [v])[xs.length]? = some v
  simp
def PlainIx (b : Expr) : Prop := ∀ o i, subscripted b false o i = operate [o, i] (getItem o i)
def IxR (X : Cx) (r : R2) : Prop :=
  ∀ (value slice : Expr) (pins : List (Addr × Obj)) (s : Shared) (σ : St) (H : Hp) (x y : V) (v u : Value) (Q : VK), Inv X pins σ H s → RelV x v → RelV y u → r x y H Q →
    subscripted slice false v u = operate [v, u] (getItem v u) → wpAny (model X.prog X.w) X.A (subscriptTail value slice v u) (EP X pins σ Q) X.xe s
def MtR (X : Cx) (id : String) (r : V → List V → Hp → VK → Prop) : Prop :=
  ∀ (pins : List (Addr × Obj)) (s : Shared) (σ : St) (H : Hp) (x : V) (xs : List V) (v : Value) (us : List Value) (Q : VK), Inv X pins σ H s → RelV x v → Vals xs us → r x xs H Q →
    wpAny (model X.prog X.w) X.A (call (.builtin id) (v :: us)) (EP X pins σ Q) X.xe s
section
variable {X : Cx} {a b : Expr} {ta tb : TE} {pos : Pos}
theorem IxR.or {r r' : R2} (h : IxR X r) (h' : IxR X r') : IxR X (fun x y H Q => r x y H Q ∨ r' x y H Q) := by
  intro value slice pins s σ H x y v u Q I rx ry q hs
  rcases q with q | q
  · exact h value slice pins s σ H x y v u Q I rx ry q hs
  · exact h' value slice pins s σ H x y v u Q I rx ry q hs
theorem MtR.or {id : String} {r r' : V → List V → Hp → VK → Prop} (h : MtR X id r) (h' : MtR X id r') : MtR X id (fun x xs H Q => r x xs H Q ∨ r' x xs H Q) := by
  intro pins s σ H x xs v us Q I rx rs q
  rcases q with q | q
  · exact h pins s σ H x xs v us Q I rx rs q
  · exact h' pins s σ H x xs v us Q I rx rs q
theorem pe_ix {r : R2} (hr : IxR X r) (ha : PE X a ta) (hb : PE X b tb) (hs : PlainIx b) : PE X (.Subscript a b pos) (tOp r ta tb) := by
  intro pins s σ H Q I h
  exact Subscript_ (binT ha hb I h fun v u s2 x y H2 I2 rx ry q => hr a b pins s2 σ H2 x y v u Q I2 rx ry q (hs _ _))
def rIxL (K : PySem.W.Frag) : R2 := fun x y H Q => ∃ p xs i v, x = .ref p ∧ y = .int i ∧ SqL K H p xs ∧ atI xs i = some v ∧ Q v H
def rIxT (K : PySem.W.Frag) : R2 := fun x y H Q => ∃ p xs i v, x = .ref p ∧ y = .int i ∧ SqT K H p xs ∧ atI xs i = some v ∧ Q v H
theorem ix_list : IxR X (rIxL X.K) := by
  intro value slice pins s σ H x y v u Q I rx ry h hs
  obtain ⟨p, xs, i, z, rfl, rfl, hq, he, q⟩ := h
  cases rx
  obtain ⟨t, rfl⟩ := ry
  obtain ⟨its, r, pl, hz⟩ := I.list hq
  obtain ⟨j, h1, h2, h3, h4, h5⟩ := atI_get he
  obtain ⟨w, ew, rw'⟩ := r.get h2
  have hl := r.length
  have hn := line63
  have fin : EP X pins σ Q w s := ⟨z, H, I, rw', q⟩
  by_cases h0 : 0 ≤ i
  · have hj : i.toNat = j := by
      rw [seqIndex_of h0 h5] at h1
      exact Option.some.inj h1
    exact item_listR pl.isList h0 (by omega) (by rw [hj]; simpa using ew) fin hs
  · have hj : (i + (its.toArray.size : Int)).toNat = j := by
      rw [seqIndex_neg (by omega) h4] at h1
      rw [List.size_toArray, ← hl]
      exact Option.some.inj h1
    exact subscriptTail_builtinR (x := w) pl.isList.typeIs slot_list_getitem.lookup
      (wpAny_getItem_list_neg (Q := fun r s' => r = w ∧ EP X pins σ Q r s') pl.isList (by omega) (by rw [List.size_toArray] <;> omega) (by omega) (by rw [hj]; simpa using ew) ⟨rfl, fin⟩) hs
theorem ix_tup : IxR X (rIxT X.K) := by
  intro value slice pins s σ H x y v u Q I rx ry h hs
  obtain ⟨p, xs, i, z, rfl, rfl, hq, he, q⟩ := h
  cases rx
  obtain ⟨t, rfl⟩ := ry
  obtain ⟨its, r, pl, hz⟩ := I.tuple hq
  obtain ⟨j, h1, h2, h3, h4, h5⟩ := atI_get he
  obtain ⟨w, ew, rw'⟩ := r.get h2
  have hl := r.length
  have hn := line63
  have fin : EP X pins σ Q w s := ⟨z, H, I, rw', q⟩
  exact subscriptTail_builtinR (x := w) pl.typeIs slot_tuple_getitem.lookup
    (getItem_tuple (j := j) (Q := fun r s' => r = w ∧ EP X pins σ Q r s') pl (by omega) (by omega) (by rw [List.size_toArray, ← hl]; exact h1) (by simpa using ew) ⟨rfl, fin⟩) hs
theorem mapSeq_set (its : List Value) (n j : Nat) (u : Value) : Obj.mapSeq (·.setIfInBounds j u) { cls := .type "list", data := .seq its.toArray n } = { cls := .type "list", data := .seq (its.set j u).toArray n } := by
  simp [Obj.mapSeq]
theorem Inv.lst {pins : List (Addr × Obj)} {σ : St} {H : Hp} {s : Shared} {p : Addr} {xs : List V} (I : Inv X pins σ H s) (h : H p = some (.lst xs)) :
    ∃ (its : List Value) (n : Nat), Vals xs its ∧ s.heap.get? p = some { cls := .type "list", data := .seq its.toArray n } ∧ xs.length ≤ sizeLine := by
  obtain ⟨z, its, n, r, e⟩ := I.hok p _ h
  exact ⟨its, n, r, e, z⟩
theorem Inv.lstUpd {pins : List (Addr × Obj)} {σ : St} {H : Hp} {s : Shared} {p : Addr} {xs ys : List V} {its its' : List Value} {n n' : Nat} {f : Obj → Obj} (I : Inv X pins σ H s) (h : H p = some (.lst xs))
    (ho : s.heap.get? p = some { cls := .type "list", data := .seq its.toArray n }) (hf : f { cls := .type "list", data := .seq its.toArray n } = { cls := .type "list", data := .seq its'.toArray n' }) (r : Vals ys its') (hz : ys.length ≤ sizeLine) (t : Nat) :
    Inv X pins σ (upd H p (.lst ys)) { s with heap := s.heap.update p f, toks := t } := by
  have e : (s.heap.update p f).get? p = some { cls := .type "list", data := .seq its'.toArray n' } := by
    rw [Heap.get?_update_self f ho (by rw [hf] <;> rfl), hf]
  refine I.write (x := p) (e := p) (by rw [h]; trivial) (.inl rfl) (fun b u hb q => (Heap.get?_update_other _ _ (Ne.symm hb)).trans q) ⟨_, e⟩ ?_
  exact ⟨hz, its', n', r, e⟩
def rSetL : V → V → V → Hp → (Hp → Prop) → Prop := fun o i v H Q => ∃ p xs k j, o = .ref p ∧ i = .int k ∧ H p = some (.lst xs) ∧ ixN xs.length k = some j ∧ Q (upd H p (.lst (xs.set j v)))
theorem set_list : PSet X rSetL := by
  intro pins s σ H o i v ov iv u Q I ro ri rv h
  obtain ⟨p, xs, k, j, rfl, rfl, hp, hj, q⟩ := h
  cases ro
  obtain ⟨t, rfl⟩ := ri
  obtain ⟨its, n, r, ho, hz⟩ := I.lst hp
  obtain ⟨h1, h2, h3, h4⟩ := ixN_seq hj
  have hl := r.length
  have hn := line63
  have I' : Inv X pins σ (upd H p (.lst (xs.set j v))) { s with heap := s.heap.update p (Obj.mapSeq (·.setIfInBounds j u)) } :=
    I.lstUpd hp ho (mapSeq_set its n j u) (r.set rv j) (by rw [List.length_set]; exact hz) s.toks
  by_cases h0 : 0 ≤ k
  · have hk : k.toNat = j := by
      rw [seqIndex_of h0 h4] at h1
      exact Option.some.inj h1
    exact PySem.W.ki_setAt ho h0 (by omega) (by rw [List.size_toArray, ← hl]; exact h4) (by rw [hk]; exact ⟨_, I', q⟩)
  · have hk : (k + (its.toArray.size : Int)).toNat = j := by
      rw [seqIndex_neg (by omega) h3] at h1
      rw [List.size_toArray, ← hl]
      exact Option.some.inj h1
    exact PySem.W.ki_setBack ho (by omega) (by rw [List.size_toArray, ← hl]; exact h3) (by omega) (by rw [hk]; exact ⟨_, I', q⟩)
theorem slice_bounds (lo hi : Option Int) (n : Nat) : (sliceBounds lo hi none n).1 = ((HT.sIx n 0 lo : Nat) : Int) ∧ (sliceBounds lo hi none n).2.1 = ((HT.sIx n n hi : Nat) : Int) ∧ (sliceBounds lo hi none n).2.2 = 1 := by
  refine ⟨?_, ?_, rfl⟩
  · cases lo with
    | none => simp [sliceBounds, HT.sIx]
    | some i =>
      simp only [sliceBounds, HT.sIx, Option.getD_none, show (1 : Int) > 0 by decide, if_true]
      by_cases h : i < 0
      · simp only [h, if_true] <;> omega
      · simp only [h, if_false] <;> omega
  · cases hi with
    | none => simp [sliceBounds, HT.sIx]
    | some i =>
      simp only [sliceBounds, HT.sIx, Option.getD_none, show (1 : Int) > 0 by decide, if_true]
      by_cases h : i < 0
      · simp only [h, if_true] <;> omega
      · simp only [h, if_false] <;> omega
theorem slicePick_cut (its : List Value) (lo hi : Option Int) : slicePick its.toArray lo hi none = ((its.drop (HT.sIx its.length 0 lo)).take (HT.sIx its.length its.length hi - HT.sIx its.length 0 lo)).toArray := by
  obtain ⟨h1, h2, h3⟩ := slice_bounds lo hi its.toArray.size
  unfold slicePick
  rw [h1, h2, h3]
  simp only [sliceRange_one, pick_run, List.size_toArray] <;> rfl
def rSlL (K : PySem.W.Frag) : V → Option Int → Option Int → Hp → VK → Prop := fun x lo hi H Q => ∃ a xs, x = .ref a ∧ SqL K H a xs ∧ ∀ p, H p = none → Q (.ref p) (upd H p (.lst (cutV xs lo hi)))
theorem sl_list : SlR X (rSlL X.K) := by
  intro pins s σ H x v vl vu lo hi sl Q I rx hs pl pu h
  obtain ⟨a, xs, rfl, hx, q⟩ := h
  cases rx
  obtain ⟨its, r, ht, hz⟩ := I.list hx
  have hlen := r.length
  refine ⟨"list", _, slot_list_getitem.lookup, ht.isList.typeIs, ?_⟩
  refine wpAny_getItem_list_slice ht.isList hs pl pu .none (by simp) ?_ (by rw [List.size_toArray] <;> omega)
  rw [slicePick_cut, ← hlen]
  refine ⟨.ref s.heap.objs.size, _, I.laid (t' := s.toks) (o := .lst (cutV xs lo hi)) (fun b ob q => Heap.get?_push_of_some _ q) (Nat.le_refl _) ?_, rfl, q _ (I.hok.fresh (Nat.le_refl _))⟩
  exact ⟨Nat.le_trans (cutV_length xs lo hi) hz, _, 0, (r.drop (HT.sIx xs.length 0 lo)).take (HT.sIx xs.length xs.length hi - HT.sIx xs.length 0 lo), Heap.get?_push_size _ rfl⟩
def flatV : V → Bool
  | .non => true
  | .bl _ => true
  | .int _ => true
  | .str _ => true
  | _ => false
def eqV : V → V → Bool
  | .non, .non => true
  | .bl a, .bl b => a == b
  | .bl a, .int b => (if a then 1 else 0) == b
  | .int a, .bl b => a == (if b then 1 else 0)
  | .int a, .int b => a == b
  | .str a, .str b => a == b
  | _, _ => false
theorem eqAt_V {A : Around} {s : Shared} {y x : V} {u v : Value} (ry : RelV y u) (rx : RelV x v) (fy : flatV y = true) (fx : flatV x = true) : SeqAt.EqAt A s u v (eqV y x) := by
  cases y with
  | non =>
    cases ry
    cases x with
    | non => cases rx; exact SeqAt.EqAt.same _
    | bl b => cases rx; exact SeqAt.EqAt.none_bool b
    | int b => obtain ⟨t, rfl⟩ := rx; exact SeqAt.EqAt.none_int b t
    | str b => obtain ⟨t, rfl⟩ := rx; exact SeqAt.EqAt.none_str b t
    | _ => exact absurd (show false = true from fx) Bool.false_ne_true
  | bl a =>
    cases ry
    cases x with
    | non => cases rx; exact SeqAt.EqAt.bool_none a
    | bl b => cases rx; exact SeqAt.EqAt.bool_bool a b
    | int b => obtain ⟨t, rfl⟩ := rx; exact SeqAt.EqAt.bool_int a b t
    | str b => obtain ⟨t, rfl⟩ := rx; exact SeqAt.EqAt.bool_str a b t
    | _ => exact absurd (show false = true from fx) Bool.false_ne_true
  | int a =>
    obtain ⟨t', rfl⟩ := ry
    cases x with
    | non => cases rx; exact SeqAt.EqAt.int_none a t'
    | bl b => cases rx; exact SeqAt.EqAt.int_bool a t' b
    | int b => obtain ⟨t, rfl⟩ := rx; exact SeqAt.EqAt.int_int a t' b t
    | str b => obtain ⟨t, rfl⟩ := rx; exact SeqAt.EqAt.int_str a t' b t
    | _ => exact absurd (show false = true from fx) Bool.false_ne_true
  | str a =>
    obtain ⟨t', rfl⟩ := ry
    cases x with
    | non => cases rx; exact SeqAt.EqAt.str_none a t'
    | bl b => cases rx; exact SeqAt.EqAt.str_bool a t' b
    | int b => obtain ⟨t, rfl⟩ := rx; exact SeqAt.EqAt.str_int a t' b t
    | str b => obtain ⟨t, rfl⟩ := rx; exact SeqAt.EqAt.str_str a t' b t
    | _ => exact absurd (show false = true from fx) Bool.false_ne_true
  | _ => exact absurd (show false = true from fy) Bool.false_ne_true
def eqU (x : V) (u : Value) : Bool := match u with
  | .none => eqV .non x
  | .bool b => eqV (.bl b) x
  | .int i _ => eqV (.int i) x
  | .str z _ => eqV (.str z) x
  | _ => false
theorem eqU_of {x y : V} {u : Value} (r : RelV y u) (f : flatV y = true) : eqU x u = eqV y x := by
  cases y with
  | non => cases r; rfl
  | bl b => cases r; rfl
  | int i => obtain ⟨t, rfl⟩ := r; rfl
  | str z => obtain ⟨t, rfl⟩ := r; rfl
  | _ => exact absurd (show false = true from f) Bool.false_ne_true
theorem any_eqU {x : V} : ∀ {xs : List V} {us : List Value}, Vals xs us → xs.all flatV = true → us.any (eqU x) = xs.any fun y => eqV y x
  | _, _, .nil, _ => rfl
  | y :: xs, u :: us, .cons r t, f => by
    rw [List.all_cons, Bool.and_eq_true] at f
    rw [List.any_cons, List.any_cons, eqU_of r f.1, any_eqU t f.2]
theorem mem_eqAt {A : Around} {s : Shared} {x : V} {v : Value} (rx : RelV x v) (fx : flatV x = true) : ∀ {xs : List V} {us : List Value}, Vals xs us → xs.all flatV = true → ∀ u ∈ us, SeqAt.EqAt A s u v (eqU x u)
  | _, _, .nil, _ => fun u hu => by cases hu
  | y :: xs, u :: us, .cons r t, f => fun u' hu => by
    rw [List.all_cons, Bool.and_eq_true] at f
    rcases List.mem_cons.mp hu with rfl | hu
    · rw [eqU_of r f.1]; exact eqAt_V r rx f.1 fx
    · exact mem_eqAt rx fx t f.2 u' hu
def inV (x : V) (xs : List V) : Bool := xs.any fun y => eqV y x
def rIn (K : PySem.W.Frag) (neg : Bool) : R2 := fun x y H Q => ∃ p xs, y = .ref p ∧ (SqL K H p xs ∨ SqT K H p xs) ∧ flatV x = true ∧ xs.all flatV = true ∧ Q (.bl (if neg then !inV x xs else inV x xs)) H
theorem op_in_seq : OpR X (compareOp .In) (rIn X.K false) := by
  intro pins s σ H x y v u Q I rx ry h
  obtain ⟨p, xs, rfl, hq, fx, fs, q⟩ := h
  cases ry
  rcases hq with hq | hq
  · obtain ⟨its, r, pl, hz⟩ := I.list hq
    refine SeqAt.in_listAt (eqU x) pl.isList (fun w hw => mem_eqAt rx fx r fs w (by simpa using hw)) ⟨.bl _, H, I, rfl, ?_⟩
    rw [show its.toArray.any (eqU x) = its.any (eqU x) by simp, any_eqU r fs]
    exact q
  · obtain ⟨its, r, pl, hz⟩ := I.tuple hq
    refine SeqAt.in_tupleAt (eqU x) pl (fun w hw => mem_eqAt rx fx r fs w (by simpa using hw)) ⟨.bl _, H, I, rfl, ?_⟩
    rw [show its.toArray.any (eqU x) = its.any (eqU x) by simp, any_eqU r fs]
    exact q
theorem op_notIn_seq : OpR X (compareOp .NotIn) (rIn X.K true) := by
  intro pins s σ H x y v u Q I rx ry h
  obtain ⟨p, xs, rfl, hq, fx, fs, q⟩ := h
  cases ry
  rcases hq with hq | hq
  · obtain ⟨its, r, pl, hz⟩ := I.list hq
    refine SeqAt.notIn_listAt (eqU x) pl.isList (fun w hw => mem_eqAt rx fx r fs w (by simpa using hw)) ⟨.bl _, H, I, rfl, ?_⟩
    rw [show its.toArray.any (eqU x) = its.any (eqU x) by simp, any_eqU r fs]
    exact q
  · obtain ⟨its, r, pl, hz⟩ := I.tuple hq
    refine SeqAt.notIn_tupleAt (eqU x) pl (fun w hw => mem_eqAt rx fx r fs w (by simpa using hw)) ⟨.bl _, H, I, rfl, ?_⟩
    rw [show its.toArray.any (eqU x) = its.any (eqU x) by simp, any_eqU r fs]
    exact q
theorem call_len_seq : CallR X (.builtin "len") (fun xs H Q => ∃ p ys, xs = [.ref p] ∧ (SqL X.K H p ys ∨ SqT X.K H p ys) ∧ Q (.int ys.length) H) := by
  intro pins s σ H xs us Q I r h
  obtain ⟨p, ys, rfl, hq, q⟩ := h
  obtain ⟨u, rfl, rx⟩ := vals1 r
  cases rx
  have hn := line63
  rcases hq with hq | hq
  · obtain ⟨its, r', pl, hz⟩ := I.list hq
    have hlen := r'.length
    exact Calls.call_len_list pl.isList (by simp only [List.size_toArray] <;> omega) ⟨.int ys.length, H, I.tok _, ⟨s.toks + 1, by rw [List.size_toArray, hlen]⟩, q⟩
  · obtain ⟨its, r', pl, hz⟩ := I.tuple hq
    have hlen := r'.length
    exact len_tuple pl (by simp only [List.size_toArray] <;> omega) ⟨.int ys.length, H, I.tok _, ⟨s.toks + 1, by rw [List.size_toArray, hlen]⟩, q⟩
theorem CallR.or {f : Value} {r r' : List V → Hp → VK → Prop} (h : CallR X f r) (h' : CallR X f r') : CallR X f (fun xs H Q => r xs H Q ∨ r' xs H Q) := by
  intro pins s σ H xs us Q I rs q
  rcases q with q | q
  · exact h pins s σ H xs us Q I rs q
  · exact h' pins s σ H xs us Q I rs q
theorem call_list_of : CallR X (.type "list") (fun xs H Q => ∃ p ys, xs = [.ref p] ∧ (SqL X.K H p ys ∨ SqT X.K H p ys) ∧ ∀ l, H l = none → Q (.ref l) (upd H l (.lst ys))) := by
  intro pins s σ H xs us Q I r h
  obtain ⟨p, ys, rfl, hq, q⟩ := h
  obtain ⟨u, rfl, rx⟩ := vals1 r
  cases rx
  have fin : ∀ (its : List Value), Vals ys its → ys.length ≤ sizeLine → ∀ (h' : Heap) (c' : Nat), (∀ b o', s.heap.get? b = some o' → h'.get? b = some o') →
      h'.get? s.heap.objs.size = some { cls := .type "list", dict := none, data := .seq its.toArray c', slots := #[] } → EP X pins σ Q (.ref s.heap.objs.size) { s with heap := h' } := fun its r' hz h' c' kp e =>
    ⟨.ref s.heap.objs.size, _, I.laid (t' := s.toks) kp (Nat.le_refl _) (show ObjOk X.prog X.w _ h' _ (.lst ys) from ⟨hz, its, c', r', e⟩), rfl, q _ (I.hok.fresh (Nat.le_refl _))⟩
  rcases hq with hq | hq
  · obtain ⟨its, r', pl, hz⟩ := I.list hq
    have hlen := r'.length
    obtain ⟨o, ho, hc, n, hd⟩ := pl.isList
    exact call_list_seq p (.inl rfl) ho hc hd (fun h' c' kp e => fin its r' hz h' c' kp e) (by simp only [List.size_toArray] <;> omega)
  · obtain ⟨its, r', pl, hz⟩ := I.tuple hq
    have hlen := r'.length
    obtain ⟨o, ho, hc, n, hd⟩ := pl
    exact call_list_seq p (.inr rfl) ho hc hd (fun h' c' kp e => fin its r' hz h' c' kp e) (by simp only [List.size_toArray] <;> omega)
theorem call_tuple_of : CallR X (.type "tuple") (fun xs H Q => ∃ p ys, xs = [.ref p] ∧ ((SqL X.K H p ys ∧ ∀ l, H l = none → Q (.ref l) (upd H l (.tup ys))) ∨ (SqT X.K H p ys ∧ Q (.ref p) H))) := by
  intro pins s σ H xs us Q I r h
  obtain ⟨p, ys, rfl, h⟩ := h
  obtain ⟨u, rfl, rx⟩ := vals1 r
  cases rx
  rcases h with ⟨hq, q⟩ | ⟨hq, q⟩
  · obtain ⟨its, r', pl, hz⟩ := I.list hq
    have hlen := r'.length
    refine call_tuple_list pl.isList (fun h' kp => ?_) (by simp only [List.size_toArray] <;> omega)
    have I1 : Inv X pins σ H { s with heap := h' } := I.kept (t' := s.toks) kp
    have I2 : Inv X pins σ (upd H h'.objs.size (.tup ys)) { s with heap := h'.push { cls := .type "tuple", data := .seq its.toArray } } :=
      I1.laid (t' := s.toks) (fun b o e => Heap.get?_push_of_some _ e) (Nat.le_refl _) (show ObjOk X.prog X.w _ _ _ (.tup ys) from ⟨hz, its, r', IsTup.new _ _⟩)
    exact ⟨.ref h'.objs.size, _, I2, rfl, q _ (I1.hok.fresh (Nat.le_refl _))⟩
  · obtain ⟨its, r', pl, hz⟩ := I.tuple hq
    exact call_tuple_same pl ⟨.ref p, H, I, rfl, q⟩
def tyV (K : PySem.W.Frag) (T : String) (x : V) (H : Hp) : Prop := match x with
  | .str _ => T = "str"
  | .int _ => T = "int"
  | .ref p => (T = "list" ∧ ∃ xs, SqL K H p xs) ∨ (T = "tuple" ∧ ∃ o, K.lookup p = some o ∧ o.cls = .type "tuple" ∧ o.dict = none) ∨
      (T = "dict" ∧ ((∃ kvs, H p = some (.dK kvs)) ∨ ∃ kvs, H p = some (.dT kvs))) ∨ (T = "set" ∧ ∃ S n, H p = some (.set S n))
  | _ => False
theorem tyV_is {pins : List (Addr × Obj)} {σ : St} {H : Hp} {s : Shared} {T : String} {x : V} {v : Value} (I : Inv X pins σ H s) (r : RelV x v) (ty : tyV X.K T x H) :
    s.TypeIs v T ∧ ∀ a, v = .ref a → ∃ ob, s.heap.get? a = some ob ∧ ob.dict = none := by
  cases x with
  | str z =>
    obtain ⟨t, rfl⟩ := r
    cases (show T = "str" from ty)
    exact ⟨typeIs_str s z t, fun _ e => nomatch e⟩
  | int i =>
    obtain ⟨t, rfl⟩ := r
    cases (show T = "int" from ty)
    exact ⟨typeIs_int s i t, fun _ e => nomatch e⟩
  | ref p =>
    cases r
    rcases ty with ⟨rfl, xs, hq⟩ | ⟨rfl, o, hk, hc, hd⟩ | ⟨rfl, hk⟩ | ⟨rfl, S, n, hk⟩
    · obtain ⟨its, _, pl, _⟩ := I.list hq
      refine ⟨pl.isList.typeIs, fun a e => ?_⟩
      cases e
      obtain ⟨o, n, e, c, hd, _⟩ := pl
      exact ⟨o, e, hd⟩
    · refine ⟨⟨o, I.kIn p o hk, hc⟩, fun a e => ?_⟩
      cases e
      exact ⟨o, I.kIn _ o hk, hd⟩
    · have z : ∃ o, s.heap.get? p = some o ∧ o.ExactDict := by
        rcases hk with ⟨kvs, hk⟩ | ⟨kvs, hk⟩
        · obtain ⟨_, _, _, _, o, _, _, e, ex, _⟩ := I.hok p _ hk
          exact ⟨o, e, ex⟩
        · obtain ⟨_, _, _, _, o, _, _, e, ex, _⟩ := I.hok p _ hk
          exact ⟨o, e, ex⟩
      obtain ⟨o, e, ex⟩ := z
      refine ⟨⟨o, e, ex.1⟩, fun a e2 => ?_⟩
      cases e2
      exact ⟨o, e, ex.2.1⟩
    · obtain ⟨o, _, _, _, e, ex, _⟩ := I.hok p _ hk
      refine ⟨⟨o, e, ex.1⟩, fun a e2 => ?_⟩
      cases e2
      exact ⟨o, e, ex.2.1⟩
  | _ => exact False.elim ty
def tBM (K : PySem.W.Frag) (T : String) (r : V → List V → Hp → VK → Prop) (to : TE) (t : TA) : TE := fun σ H Q => to σ H fun x H1 => tyV K T x H1 ∧ t σ H1 fun xs H2 => r x xs H2 Q
variable {o e : Expr} {es : List Expr} {to : TE} {t : TA} {name : Str} {apos cpos : Pos} {T id : String} {r : V → List V → Hp → VK → Prop}
theorem pe_bm (pa : PlainAttrs T) (slot : Slot T name id) (hty : typeOf (.builtin id) = pure (.type "method_descriptor")) (hm : MtR X id r) (ho : PE X o to) (ha : PA X (e :: es) t)
    (hbase : attributeBase o name X.env (eval o X.env) = eval o X.env := by rfl)
    (hfew : ((backTo cpos (starEach (e :: es) X.env)).all (fun x => !x.1) && (backToKw cpos (keywordEach [] X.env)).all (fun x => x.1.isSome)
      && decide ((e :: es).length + ([] : List Keyword).length + (if ([] : List Keyword).isEmpty then 0 else 1) < 30)) = true := by rfl)
    (hline : (apos.endLine == cpos.line) = true := by rfl) (hs : starEach (e :: es) X.env = (false, eval e X.env) :: starEach es X.env := by rfl) (hplain : (backTo cpos (starEach es X.env)).any (·.1) = false := by rfl) :
    PE X (.Call (.Attribute o name apos) (e :: es) [] cpos) (tBM X.K T r to t) := by
  intro pins s σ H Q I h
  refine wpAny_Call_method_late hbase hfew hline rfl (thn (ho pins s σ H _ I h) fun v s1 ⟨x, H1, I1, r1, ty, q1⟩ => ?_)
  obtain ⟨h1, h2⟩ := tyV_is I1 r1 ty
  refine ⟨T, id, pa, slot, hty, h1, h2, ?_⟩
  have hA := ha cpos pins s1 σ H1 _ I1 q1
  rw [hs] at hA ⊢
  refine Calls.callWith_builtin (by show (false || (backTo cpos (starEach es X.env)).any (·.1)) = false; rw [hplain] <;> rfl) (Calls.evalArgs_plain ?_)
  exact thn hA fun us s2 ⟨vs, H2, I2, r2, q2⟩ => hm pins s2 σ H2 x vs v us Q I2 r1 r2 q2
/- xs.append(e), list.index on a module's tuple .. are MtR facts of 06m -/
end
end L2
namespace L2
open PySem PySem.Spec PyProof.Rows
def MtM (X : Cx) (id : String) (r : V → List V → Hp → VK → Prop) : Prop :=
  ∀ (pins : List (Addr × Obj)) (s : Shared) (σ : St) (H : Hp) (x : V) (xs : List V) (v : Value) (us : List Value) (Q : VK), Inv X pins σ H s → RelV x v → Vals xs us → r x xs H Q →
    wpAny (model X.prog X.w) X.A (call (.builtin id) (v :: us)) (EP X pins σ Q) X.xe s
theorem Vals.one : ∀ {x : V} {us : List Value}, Vals [x] us → ∃ u, us = [u] ∧ RelV x u
  | _, _, .cons r .nil => ⟨_, rfl, r⟩
theorem Vals.two : ∀ {x y : V} {us : List Value}, Vals [x, y] us → ∃ u v, us = [u, v] ∧ RelV x u ∧ RelV y v
  | _, _, _, .cons r (.cons q .nil) => ⟨_, _, rfl, r, q⟩
theorem Vals.zero : ∀ {us : List Value}, Vals [] us → us = []
  | _, .nil => rfl
theorem Vals.reverse {xs : List V} {us : List Value} (h : Vals xs us) : Vals xs.reverse us.reverse := by
  induction h with
  | nil => exact .nil
  | cons r t ih => rw [List.reverse_cons, List.reverse_cons]; exact Vals.append ih (.cons r .nil)
theorem Vals.rep {xs : List V} {us : List Value} (h : Vals xs us) : ∀ k : Nat, Vals (List.replicate k xs).flatten (List.replicate k us).flatten
  | 0 => .nil
  | k + 1 => by
    rw [List.replicate_succ, List.replicate_succ, List.flatten_cons, List.flatten_cons]
    exact Vals.append h (Vals.rep h k)
theorem foldl_rep (its : List Value) : ∀ (k : Nat) (acc : List Value),
    List.foldl (fun x1 x2 => x1 ++ x2) acc.toArray (List.replicate k its.toArray) = (acc ++ (List.replicate k its).flatten).toArray
  | 0, acc => by simp
  | k + 1, acc => by
    have e : acc.toArray ++ its.toArray = (acc ++ its).toArray := by simp
    have e2 : (acc ++ its) ++ (List.replicate k its).flatten = acc ++ (List.replicate (k + 1) its).flatten := by
      rw [List.replicate_succ, List.flatten_cons, List.append_assoc]
    rw [← e2, ← foldl_rep its k (acc ++ its), ← e, List.replicate_succ, List.foldl_cons]
section
variable {X : Cx} {pins : List (Addr × Obj)} {σ : St} {H : Hp} {s : Shared} {l b : Addr} {xs ys zs : List V}
theorem Inv.lset {its its' : List Value} {n : Nat} {f : Array Value → Array Value} {t' : Nat} (I : Inv X pins σ H s) (hH : H l = some (.lst xs))
    (e : s.heap.get? l = some { cls := .type "list", data := .seq its.toArray n }) (hf : f its.toArray = its'.toArray) (hv : Vals ys its') (hz : ys.length ≤ sizeLine) :
    Inv X pins σ (upd H l (.lst ys)) { s with heap := s.heap.update l (Obj.mapSeq f), toks := t' } := by
  have q := PySem.IsL.update e f
  rw [hf] at q
  refine I.write (x := l) (e := l) (by rw [hH]; exact trivial) (.inl rfl) (fun b' u hb hu => (Heap.get?_update_other s.heap (Obj.mapSeq f) (Ne.symm hb)).trans hu) ⟨_, q⟩ ?_
  exact ⟨hz, its', _, hv, q⟩
theorem Inv.lnew {its : List Value} {t' : Nat} (I : Inv X pins σ H s) (hv : Vals ys its) (hz : ys.length ≤ sizeLine) :
    Inv X pins σ (upd H s.heap.objs.size (.lst ys)) { s with heap := s.heap.push { cls := .type "list", data := .seq its.toArray }, toks := t' } :=
  I.laid (fun _ _ q => Heap.get?_push_of_some _ q) (Nat.le_refl _) ⟨hz, its, 0, hv, Heap.get?_push_size _ rfl⟩
theorem Inv.fresh (I : Inv X pins σ H s) : H s.heap.objs.size = none := I.hok.fresh (Nat.le_refl _)
theorem Inv.lstM (I : Inv X pins σ H s) (hH : H l = some (.lst xs)) : xs.length ≤ sizeLine ∧ ∃ (its : List Value) (n : Nat), Vals xs its ∧ xs.length = its.length ∧ s.heap.get? l = some { cls := .type "list", data := .seq its.toArray n } := by
  obtain ⟨z, its, n, r, e⟩ := I.hok l _ hH
  exact ⟨z, its, n, r, r.length, e⟩
end
section
variable {X : Cx}
def rAppend : V → List V → Hp → VK → Prop := fun x vs H Q => ∃ l xs y, x = .ref l ∧ vs = [y] ∧ H l = some (.lst xs) ∧ xs.length < sizeLine ∧ Q .non (upd H l (.lst (xs ++ [y])))
theorem mt_append : MtM X "list.append" rAppend := by
  intro pins s σ H x vs v us Q I rx rv h
  obtain ⟨l, xs, y, rfl, rfl, hH, hz, q⟩ := h
  cases rx
  obtain ⟨u, rfl, ru⟩ := rv.one
  obtain ⟨z, its, n, r, hl, e⟩ := I.lstM hH
  refine call_meets F.slot_list_append ⟨_, e, rfl⟩ F.entry_list_append (F.args_list_append_2 _ _) (PySem.list_append l its.toArray n u (by rw [List.size_toArray]; omega)) ⟨e, ?_⟩
  refine ⟨.non, _, I.lset (its' := its ++ [u]) hH e (by simp) (r.append (.cons ru .nil)) ?_, rfl, q⟩
  rw [List.length_append, List.length_singleton]
  omega
def rCat : R2 := fun x y H Q => ∃ l b xs zs, x = .ref l ∧ y = .ref b ∧ H l = some (.lst xs) ∧ H b = some (.lst zs) ∧ xs.length + zs.length ≤ sizeLine ∧ ∀ p, H p = none → Q (.ref p) (upd H p (.lst (xs ++ zs)))
theorem op_cat : OpR X (binaryOp .Add) rCat := by
  intro pins s σ H x y v u Q I rx ry h
  obtain ⟨l, b, xs, zs, rfl, rfl, hH, hB, hz, q⟩ := h
  cases rx
  cases ry
  obtain ⟨z, its, n, r, hl, e⟩ := I.lstM hH
  obtain ⟨z2, its2, n2, r2, hl2, e2⟩ := I.lstM hB
  refine PySem.P.add_list e e2 ?_ (by rw [List.size_toArray, List.size_toArray]; omega)
  have ea : its.toArray ++ its2.toArray = (its ++ its2).toArray := by simp
  rw [ea]
  exact ⟨.ref _, _, I.lnew (t' := s.toks) (r.append r2) (by rw [List.length_append]; omega), rfl, q _ I.fresh⟩
theorem len_rep {α : Type} (xs : List α) (k : Nat) : (List.replicate k xs).flatten.length = k * xs.length := by
  induction k with
  | zero => simp
  | succ k ih => rw [List.replicate_succ, List.flatten_cons, List.length_append, ih, Nat.succ_mul, Nat.add_comm]
end
section
variable {prog : Program} {w : World} {A : Around} {E : Value → Shared → Prop} {s : Shared}
set_option maxRecDepth 100000 in
end
section
variable {X : Cx}
end
end L2
namespace Att
open PySem PySem.W PySem.Calls PyProof.Rows
theorem ints_of_wellAll {P : Params} {h : Heap} : ∀ (ns : List Int) (vs : List Value), WellAll P h vs (ns.map WData.int) → IntsAre vs ns := by
  intro ns
  induction ns with
  | nil =>
    intro vs w
    rw [List.map_nil] at w
    cases w
    exact .nil
  | cons n ns ih =>
    intro vs w
    rw [List.map_cons] at w
    cases w with
    | cons a b =>
      cases a
      exact .cons _ _ (ih _ b)
theorem script_of {l : OpenLaw} {n : Nat} (hn : l.most = some n) {P : Params} {h : Heap} {args : List WData} {vals : List Value}
    (hpre : l.row.toRowW.claim.pre args = true) (hwl : WellAll P h vals args) :
    ∃ a vs ns, vals = [Value.ref a] ∧ args = [WData.list (ns.map WData.int)] ∧ h.get? a = some { cls := .type "list", data := .seq vs.toArray } ∧ IntsAre vs ns ∧ ns.length ≤ n := by
  have hsh : WShape.hasAll [] args [.list .int] = true := (pre_splitW hpre).1
  have hc : l.pre.holds [] { args := args } = true := (pre_splitW hpre).2
  obtain ⟨d, r, rfl, h1, h2⟩ := hasAllW_cons hsh
  obtain rfl := hasAllW_nil h2
  obtain ⟨xs, rfl, h3⟩ := hasW_list h1
  obtain ⟨ns, rfl⟩ := items_int h3
  have hlen : ns.length ≤ n := by
    unfold OpenLaw.pre at hc
    have h4 : (WTm.not (.lt (.lit (.int (n : Int))) (.len (.arg 0)))).holds [] { args := [.list (ns.map .int)] } = true := by
      have h4 := (holds_andW hc).1
      rw [hn] at h4
      exact h4
    have h5 := condW_of h4 (w_not (w_lt w_lit (w_len_list (w_arg rfl))))
    rw [List.length_map] at h5
    refine Nat.le_of_not_lt fun q => ?_
    have q' : (n : Int) < ((ns.length : Nat) : Int) := by omega
    first
      | (rw [decide_eq_true q'] at h5; exact absurd h5 (by decide))
      | (simp at h5; omega)
  cases hwl with
  | cons w1 w2 =>
    cases w2
    cases w1 with
    | list ho hall => exact ⟨_, _, ns, rfl, rfl, ho, ints_of_wellAll ns _ hall, hlen⟩
theorem post_true (l : OpenLaw) (args : List WData) : l.row.toRowW.claim.post args (.bool true) args = true :=
  postW_of (r := l.row.toRowW) (X := (true == true))
    (show WShape.has [] (.bool true) .bool = true by first | rfl | decide | simp [WShape.has, WShape.arms, WShape.armsAll])
    (show (WTm.eq .res (.lit (.bool true))).value [] { args := args, res := some (.bool true), after := args } = some (.bool (true == true)) from w_eq_bool (w_res rfl) w_lit) rfl
theorem attach_call {l : OpenLaw} {n : Nat} {q : Program} {loose : List Str} {XP : (Str → Option Value) → Heap → Prop} {YP : World → Heap → Prop} {d : DefRec}
    (hn : l.most = some n) (hdf : d.params.defaults = [])
    (call : ∀ (w : World) (s₀ s₁ : Shared) (mg mb : Str → Option Value) (fa : Addr) (o : Obj) (pm cd doc : Value) (a : Addr) (vs : List Value) (ns : List Int),
      Ground q loose [] XP w s₀ mg mb s₁.heap → YP w s₁.heap →
      s₁.heap.get? fa = some o → o.data = .func (docDef d.name d.params d.body d.scope pm cd doc) → s₁.heap.CodeRec cd d.name → mg d.name = some (.ref fa) →
      s₁.heap.get? a = some { cls := .type "list", data := .seq vs.toArray } → IntsAre vs ns → ns.length ≤ n → s₁.gens = #[] →
      codeAny (model l.prog w) callerA (.call (.ref fa) ⟨[.ref a], []⟩) (fun r s' => r = .ok (.ret (.bool true)) ∧ OldK s₁.heap s'.heap ∧ s'.os = s₁.os ∧ AllBare s'.gens) s₁) :
    WalkO q loose XP YP l.row.toRowW d [] (fun f vs => PySem.call f vs) := by
  intro w s₀ s₁ mg mb G Y fa o pm cd doc dV kV ho hd hcd hD hmg hg args vals as hpre hlay hrd hwl hlo
  obtain rfl : dV = .none := Dflts.none hD hdf
  obtain rfl : kV = .none := Dflts.noKw hD
  obtain ⟨a, vs, ns, rfl, rfl, hobj, hints, hlen⟩ := script_of hn hpre hwl
  refine enter_call (codeAny_mono (call w s₀ s₁ mg mb fa o pm cd doc a vs ns G Y ho (fd_plain hd) hcd hmg hobj hints hlen hg) fun r s' hq => ?_)
  obtain ⟨rfl, h2, h3, h4⟩ := hq
  exact ⟨.inl ⟨.bool true, .bool true, [], rfl, fun _ => rfl, .bool true, post_true l _, fun _ => ⟨List.Pairwise.nil, fun _ hm => (nomatch hm)⟩⟩, h2, h3, h4⟩
section
variable {prog : Program} {w : World} {A : Around} {E : Value → Shared → Prop} {s : Shared} {K : Frag}
def ledger (h : Heap) (L d : Addr) : List (Addr × Obj) := (List.range h.objs.size).filterMap fun a => if a = L ∨ a = d then none else (h.get? a).map fun o => (a, o)
end
end Att
namespace L2
open PySem PySem.Spec PyProof.Rows
theorem vals_ints : ∀ {vs : List Value} {ns : List Int}, IntsAre vs ns → Vals (ns.map V.int) vs
  | _, _, .nil => .nil
  | _, _, .cons n t h => .cons ⟨t, rfl⟩ (vals_ints h)
def Only (H : Hp) : Prop := ∀ b, H b = none ∨ ∃ o xs, H b = some (.frz o (.lst xs))
theorem law_call {P : Program} {w : World} {K : PySem.W.Frag} {mg mb : Str → Option Value} {CX : CXT} {k : Nat} {fa a : Addr} {fd : FuncData} {x : Str} {sp : Sp} {s₁ : Shared} {vs : List Value} {ns : List Int}
    (KX : K.In s₁.heap) (hns : s₁.heap.Ns mainGlobals mg) (hb : s₁.heap.Ns builtinsNs mb) (hbb : ∀ x : Str, x ≠ "__name__" → mb x = bootBuiltins x) (hlim : s₁.heap.NoLimit) (hg : s₁.gens = #[])
    (ha : s₁.heap.get? a = some { cls := .type "list", data := .seq vs.toArray }) (hi : IntsAre vs ns) (hl : ns.length ≤ sizeLine) (hr : Room k callerA)
    (F : ∀ base : Heap, K.In base → base.Ns mainGlobals mg → FnOk P w K mg base CX k fa fd [x] sp) (hbind : ∀ (s : Shared) (u : Value), BindsTo s fd ⟨[u], []⟩ [(x, u)])
    (hsp : ∀ H : Hp, Only H → SqL K H a (ns.map V.int) → sp [.ref a] H (fun v _ => v = .bl true) fun _ _ _ => False)
    (hCX : ∀ H e s', CX [] H s₁ (fun _ _ _ => False) e s' → False) :
    codeAny (model P w) callerA (.call (.ref fa) ⟨[.ref a], []⟩) (fun r s' => r = .ok (.ret (.bool true)) ∧ OldK s₁.heap s'.heap ∧ s'.os = s₁.os ∧ AllBare s'.gens) s₁ := by
  have rv := vals_ints hi
  have lenV := hi.length
  have core : ∀ H : Hp, Only H → SqL K H a (ns.map V.int) → HOk P w H s₁.heap → (∀ b, H b ≠ none → b = a) → (H a ≠ none → K.lookup a = none) →
      codeAny (model P w) callerA (.call (.ref fa) ⟨[.ref a], []⟩) (fun r s' => r = .ok (.ret (.bool true)) ∧ OldK s₁.heap s'.heap ∧ s'.os = s₁.os ∧ AllBare s'.gens) s₁ := by
    intro H hO hS hok hA hK
    have base_of : ∀ {b : Addr} {o : Obj}, s₁.heap.get? b = some o → H b = none → (hidT s₁.heap H).get? b = some o := fun e n => hidT_get e n
    have noA : ∀ {b : Addr} {o : Obj} {es : Array DictEntry} {ep : Nat}, s₁.heap.get? b = some o → o.data = .dict es ep → H b = none := fun {b o es ep} e d => by
      cases q : H b with
      | none => rfl
      | some u =>
        have e' : b = a := hA b (by rw [q]; simp)
        subst e'
        rw [ha] at e; cases e
        have d' : Data.seq vs.toArray _ = Data.dict es ep := d
        cases d'
    have nsK : ∀ {b : Addr} {m : Str → Option Value}, s₁.heap.Ns b m → (hidT s₁.heap H).Ns b m := fun {b m} ⟨o, es, ep, e, d, r⟩ => ⟨o, es, ep, base_of e (noA e d), d, r⟩
    have hKb : K.In (hidT s₁.heap H) := fun b o e => base_of (KX b o e) (by
      cases q : H b with
      | none => rfl
      | some u =>
        have e' : b = a := hA b (by rw [q]; simp)
        subst e'
        rw [hK (by rw [q]; simp)] at e; cases e)
    have hM : Mod K mg (hidT s₁.heap H) := ⟨hKb, nsK hns, ⟨mb, nsK hb, hbb⟩, let ⟨mc, h1, h2⟩ := hlim; ⟨mc, nsK h1, h2⟩⟩
    have e0 : Env0 P w K mg (hidT s₁.heap H) callerA [] s₁ H := ⟨rfl, hM, fun b o e => of_hidT e, Nat.le_of_eq (hidT_size _ _), trivial, fun b hb => absurd (show b ∈ ([] : List Addr) from hb) (by simp), hok, .of_eq hg⟩
    refine codeAny_mono ((F _ hKb (nsK hns)).run callerA [] s₁ H ⟨[.ref a], []⟩ [.ref a] [.ref a] _ _ hr e0 (hbind s₁ (.ref a)) (.cons rfl .nil) (hsp H hO hS)) fun r s' h => ?_
    cases r with
    | error e => exact (hCX H e s' h).elim
    | ok fl =>
      cases fl with
      | next => exact False.elim h
      | brk => exact False.elim h
      | cont => exact False.elim h
      | ret u =>
        obtain ⟨v, H', os, bare, un, hok', r', q⟩ := h
        have q' : v = .bl true := q
        subst q'
        obtain rfl : u = Value.bool true := r'
        refine ⟨rfl, OldK.of_keep fun b o e => ?_, os, bare⟩
        cases q : H b with
        | none => exact un.keep b o e q (by intro z; exact absurd (show b ∈ ([] : List Addr) from z) (by simp)) (by simp)
        | some u =>
          rcases hO b with z | ⟨ob, xs, z⟩
          · rw [q] at z; cases z
          · have z2 := un.frzs b ob _ z
            obtain ⟨e1, _⟩ := hok b _ z
            obtain ⟨e2, _⟩ := hok' b _ z2
            rw [e] at e1; cases e1
            exact e2
  cases hk : K.lookup a with
  | some o =>
    have e := KX a o hk
    rw [ha] at e
    cases e
    refine core (fun _ => none) (fun _ => .inl rfl) (.inr ⟨_, vs.toArray, _, hk, rfl, rfl, rfl, by rw [List.size_toArray, lenV]; exact hl, by simpa using rv⟩) (fun b u z => by have z' : (none : Option HO) = some u := z; cases z') (fun b z => absurd rfl z) fun z => absurd rfl z
  | none =>
    refine core (fun b => if b = a then some (.frz { cls := .type "list", data := .seq vs.toArray } (.lst (ns.map V.int))) else none) (fun b => ?_) (.inl (.inr ⟨{ cls := .type "list", data := .seq vs.toArray }, if_pos rfl⟩)) (fun b u z => ?_) (fun b z => ?_) fun _ => hk
    · by_cases hb : b = a
      · exact .inr ⟨_, _, if_pos hb⟩
      · exact .inl (if_neg hb)
    · by_cases hb : b = a
      · have z' := (if_pos hb).symm.trans z
        cases z'
        subst hb
        exact ⟨ha, by rw [List.length_map]; exact hl, vs, _, rv, ha⟩
      · have z' := (if_neg hb).symm.trans z
        cases z'
    · by_cases hb : b = a
      · exact hb
      · exact absurd (if_neg hb) z
end L2
namespace L2
open PySem PySem.Spec PyProof.Rows
abbrev KOf {K : PySem.W.Frag} {h : Heap} (_ : K.In h) : PySem.W.Frag := K
theorem walk_of {l : PySem.W.OpenLaw} {n k : Nat} {q : Program} {loose : List Str} {XP : (Str → Option Value) → Heap → Prop} {YP : World → Heap → Prop} {d : DefRec} {K : Params → PySem.W.Frag} {CX : World → CXT} {sp : World → Sp} {x : Str}
    (hn : l.most = some n) (hn2 : n ≤ sizeLine) (hdf : d.params.defaults = []) (hr : Room k callerA)
    (hY : ∀ (w : World) (h : Heap), YP w h → (K w.params).In h)
    (F : ∀ (w : World) (mg : Str → Option Value) (fa : Addr) (h : Heap), (K w.params).In h → h.Ns mainGlobals mg → mg d.name = some (.ref fa) →
      ∃ fd : FuncData, (∀ (s : Shared) (u : Value), BindsTo s fd ⟨[u], []⟩ [(x, u)]) ∧
        ∀ base : Heap, (K w.params).In base → base.Ns mainGlobals mg → FnOk l.prog w (K w.params) mg base (CX w) k fa fd [x] (sp w))
    (hsp : ∀ (w : World) (H : Hp) (a : Addr) (ns : List Int), ns.length ≤ n → Only H → SqL (K w.params) H a (ns.map V.int) → sp w [.ref a] H (fun v _ => v = .bl true) fun _ _ _ => False)
    (hCX : ∀ (w : World) (H : Hp) (s : Shared) (e : Value) (s' : Shared), CX w [] H s (fun _ _ _ => False) e s' → False) :
    PySem.W.WalkO q loose XP YP l.row.toRowW d [] (fun f vs => PySem.call f vs) := by
  refine Att.attach_call hn hdf fun w s₀ s₁ mg mb fa o pm cd doc a vs ns G Y ho hd hcd hmg hobj hints hlen hg => ?_
  have KX := hY w _ Y
  obtain ⟨fd, hb, hF⟩ := F w mg fa _ KX G.T.g hmg
  exact law_call KX G.T.g G.T.b G.T.builtins G.T.nolimit hg hobj hints (Nat.le_trans hlen hn2) hr hF hb (fun H hO hS => hsp w H a ns hlen hO hS) fun H e s' => hCX w H s₁ e s'
end L2
/- THE LAST THEOREM (shape; LID, My.* are yours):
   My.Adr: a structure of the addresses that your layer names (classes, functions); My.Txt K t: a structure (Prop) of the equations over K;
   My.txt_mk : {K} {implicit addresses ..} (e1 : nsIn K mainGlobals "law" = some (some (.ref f))) (e2 : K.lookup f = some ⟨oc, od, .func (fnOf "law" "law" params body scope dV kV doc pm an cdv ct), sl⟩) (e3 : codeIn K cdv "law" = true) .. : ∃ t, My.Txt K t
set_option maxRecDepth 100000 in
set_option maxHeartbeats 0 in
theorem PySem.Challenge.cw_LID_holds : PySem.Challenge.rw_LID.Holds := by
  w_on; o_law; k_head; (case hw => w_witness2)
  k_fill
  refine L2.walk_of (l := PySem.Challenge.rw_LID) (n := 63) (k := 40) (x := "script") (CX := fun w => ..) (sp := fun _ => My.sp_law) rfl (by decide) rfl ⟨rfl, by decide, by decide⟩ (fun w h Y => PySem.W.kIn_of Y) ?F ?S ?C
  case F =>
    intro w mg fa h KX G hmg
    have T : ∃ t, My.Txt (L2.KOf KX) t := by
      dsimp only [L2.KOf]                          -- K must stand as «<heap const> w.params» for k_is
      refine' My.txt_mk ?e1 ?e2 ?e3 ..
      (case e1 => PySem.W.k_is)                    -- in the order: a name -> its address -> its object -> its parts
      (case e2 => PySem.W.k_is)
      ..
    obtain ⟨t, T⟩ := T
    have e0 := hmg.symm.trans (PySem.W.mg_of KX G T.law)
    cases e0                                       -- fa is the law's own address
    exact ⟨_, fun s u => .of_eq rfl, fun base kb nb => My.law_fn T kb nb⟩     -- if «.of_eq rfl» comes too early: refine' ⟨_, ?b, fun base kb nb => My.law_fn T kb nb⟩; exact fun s u => .of_eq rfl
  case S => exact fun w H a ns hl hO hS => ..
  case C => exact ..
(the tactic k_is has no namespace: write k_is) -/
namespace L2
open PySem PySem.Spec PyProof.Rows
def defArgs (s : Stmt) : Arguments := match s with
  | .FunctionDef _ a _ _ _ _ _ _ _ _ => a
  | _ => { posonlyargs := [], args := [], vararg := none, kwonlyargs := [], kw_defaults := [], kwarg := none, defaults := [] }
def defBody (s : Stmt) : List Stmt := match s with
  | .FunctionDef _ _ b _ _ _ _ _ _ _ => b
  | _ => []
def defScope (s : Stmt) : Scope := match s with
  | .FunctionDef _ _ _ _ _ _ sc _ _ _ => sc
  | _ => { kind := .function, names := [], isGenerator := false, isCoroutine := false }
abbrev CX0 : CXT := fun _ _ _ _ _ _ => False
abbrev E0 : XK := fun _ _ _ => False
theorem pass0 {X : Cx} : Passes CX0 X E0 := fun _ _ _ _ _ _ _ h => h.elim
structure Fun (K : PySem.W.Frag) (x qual : Str) (st : Stmt) (f : Addr) (fd : FuncData) : Prop where
  ex : ∃ (oc : Value) (od : Option Addr) (kV doc pm : Value) (an : Option Addr) (cdv ct : Value) (osl : Array (Option Value)),
    fd = PySem.W.fnOf x qual (defArgs st) (defBody st) (defScope st) .none kV doc pm an cdv ct ∧ K.lookup f = some ⟨oc, od, .func fd, osl⟩ ∧ PySem.W.codeIn K cdv qual = true
  kp : PySem.W.keepIn K (.ref f) = true
section
variable {P : Program} {w : World} {K : PySem.W.Frag} {mg : Str → Option Value} {base : Heap}
theorem Fun.ok {x qual : Str} {st : Stmt} {f : Addr} {fd : FuncData} {N ps : List Str} {k : Nat} {sp : Sp} (F : Fun K x qual st f fd) (S : FnScope N ps (defScope st)) (len : ∀ vs H Q E, sp vs H Q E → vs.length = ps.length)
    (hbody : ∀ (cdv : Value) (A : Around) (outer : List Env) (s : Shared) (H : Hp) (vs : List V) (Q : VK) (E : XK), Room k (A.deeper (envOfC qual (defScope st) s.heap.objs.size f cdv)) → sp vs H Q E →
      ∃ t, PSs (cxOf CX0 P w K mg base N qual (defScope st) f cdv A outer s H E).nox (defBody st) t ∧ t { nx := fun _ H' => Q .non H', rt := Q } (start N vs) H) : FnOk P w K mg base CX0 (k + 1) f fd ps sp := by
  obtain ⟨oc, od, kV, doc, pm, an, cdv, ct, osl, rfl, lk, hcd⟩ := F.ex
  refine fn_of lk hcd S len fun A outer s H vs Q E hr hsp => ?_
  obtain ⟨t, h, q⟩ := hbody cdv A outer s H vs Q E hr hsp
  exact ⟨t, h.nox, q⟩
theorem Fun.binds {x qual : Str} {st : Stmt} {f : Addr} {fd : FuncData} {ps : List Str} (F : Fun K x qual st f fd)
    (h : ∀ (kV doc pm : Value) (an : Option Addr) (cdv ct : Value) (us : List Value), us.length = ps.length → bindArgs (PySem.W.fnOf x qual (defArgs st) (defBody st) (defScope st) .none kV doc pm an cdv ct) ⟨us, []⟩ = pure (ps.zip us)) : Binds K fd ps [] := by
  obtain ⟨oc, od, kV, doc, pm, an, cdv, ct, osl, rfl, lk, hcd⟩ := F.ex
  exact .all (h kV doc pm an cdv ct)
theorem fun_mk {x qual : Str} {st : Stmt} {f : Addr} {oc : Value} {od an : Option Addr} {osl : Array (Option Value)} {kV doc pm cdv ct : Value} (l : K.lookup f = some ⟨oc, od, .func (PySem.W.fnOf x qual (defArgs st) (defBody st) (defScope st) .none kV doc pm an cdv ct), osl⟩)
    (c : PySem.W.codeIn K cdv qual = true) (k : PySem.W.keepIn K (.ref f) = true) : Fun K x qual st f (PySem.W.fnOf x qual (defArgs st) (defBody st) (defScope st) .none kV doc pm an cdv ct) := ⟨⟨oc, od, kV, doc, pm, an, cdv, ct, osl, rfl, l, c⟩, k⟩
end
theorem small1000 {n : Nat} (h : n ≤ 1000) : n < sizeLine := Nat.lt_of_le_of_lt h (by decide)
section
variable {X : Cx}
theorem pv (i : Nat) {x : Str} {pos : Pos} (hN : X.N[i]? = some x := by rfl) (hv : Vis X.env.scope x := by first | exact Or.inl rfl | exact Or.inr (Or.inl rfl) | exact Or.inr (Or.inr rfl)) (hd : (x == ("__debug__" : Str)) = false := by decide)
    (hcd : (x == ("__classdict__" : Str)) = false := by decide) : PE X (.Name x pos) (tVar i) := pe_var hN hv hd hcd
end
theorem iteF {A B : Prop} (h : B) : if false = true then A else B := by
  rw [if_neg Bool.false_ne_true]
  exact h
theorem iteT {A B : Prop} (h : A) : if true = true then A else B := by
  rw [if_pos rfl]
  exact h
theorem ite2 {c A B : Prop} [Decidable c] (h1 : c → A) (h2 : ¬ c → B) : if c then A else B := by
  by_cases h : c
  · rw [if_pos h]
    exact h1 h
  · rw [if_neg h]
    exact h2 h
def Same (H H' : Hp) : Prop := ∀ b o, H b = some o → H' b = some o
theorem Same.refl (H : Hp) : Same H H := fun _ _ h => h
theorem Same.trans {H H1 H2 : Hp} (a : Same H H1) (b : Same H1 H2) : Same H H2 := fun c o h => b c o (a c o h)
theorem Same.free {H H' : Hp} (e : Same H H') {l : Addr} (h : H' l = Option.none) : H l = Option.none := by
  cases q : H l with
  | none => rfl
  | some o =>
    rw [e l o q] at h
    cases h
theorem Same.seq {K : PySem.W.Frag} {H H' : Hp} {a : Addr} {xs : List V} (e : Same H H') (h : SqL K H a xs) : SqL K H' a xs := by
  rcases h with (h | ⟨o, h⟩) | h
  · exact .inl (.inl (e _ _ h))
  · exact .inl (.inr ⟨o, e _ _ h⟩)
  · exact .inr h
end L2
namespace L2
open PySem PySem.Spec
theorem bt_len : bootBuiltins "len" = some (.builtin "len") := by decide +kernel
theorem bt_isinstance : bootBuiltins "isinstance" = some (.builtin "isinstance") := by decide +kernel
theorem bt_max : bootBuiltins "max" = some (.builtin "max") := by decide +kernel
theorem bt_all : bootBuiltins "all" = some (.builtin "all") := by decide +kernel
theorem bt_int : bootBuiltins "int" = some (.type "int") := by decide +kernel
theorem bt_bool : bootBuiltins "bool" = some (.type "bool") := by decide +kernel
theorem bt_list : bootBuiltins "list" = some (.type "list") := by decide +kernel
theorem bt_tuple : bootBuiltins "tuple" = some (.type "tuple") := by decide +kernel
theorem bt_reversed : bootBuiltins "reversed" = some (.type "reversed") := by decide +kernel
end L2
namespace L2
open PySem PySem.Spec PyProof.Rows
theorem ifN {c A B : Prop} [Decidable c] (h : ¬ c) (b : B) : if decide c = true then A else B := by rw [decide_eq_false h]; exact iteF b
theorem ifY {c A B : Prop} [Decidable c] (h : c) (a : A) : if decide c = true then A else B := by rw [decide_eq_true h]; exact iteT a
theorem ifNn {c A B : Prop} [Decidable c] (h : c) (b : B) : if (!decide c) = true then A else B := by rw [decide_eq_true h]; exact iteF b
theorem ifYn {c A B : Prop} [Decidable c] (h : ¬ c) (a : A) : if (!decide c) = true then A else B := by rw [decide_eq_false h]; exact iteT a
theorem ifB {b : Bool} {A B : Prop} (h : b = true) (a : A) : if b = true then A else B := by rw [h]; exact iteT a
theorem ifC {b : Bool} {A B : Prop} (h : b = false) (a : B) : if b = true then A else B := by rw [h]; exact iteF a
structure Has (P : Program) (w : World) (K : PySem.W.Frag) (mg : Str → Option Value) (base : Heap) (CX : CXT) (x : Str) (k : Nat) (ps : List Str) (sp : Sp) : Prop where
  ex : ∃ (f : Addr) (fd : FuncData), FnOk P w K mg base CX k f fd ps sp ∧ Binds K fd ps [] ∧ PySem.W.keepIn K (.ref f) = true ∧ mg x = some (.ref f)
section
variable {X : Cx} {x : Str} {k : Nat} {ps : List Str} {sp : Sp} {e : Expr} {es : List Expr} {t : TA} {p pos : Pos}
theorem pe_ch (h : Has X.prog X.w X.K X.mg X.base CX0 x k ps sp) (hr : Room k X.A) (hg : Gl X x) (ha : PA X (e :: es) t) (hdb : (x == ("__debug__" : Str)) = false := by decide)
    (he : starEach (e :: es) X.env = (false, eval e X.env) :: starEach es X.env := by rfl) (hpl : (backTo pos (starEach es X.env)).any (·.1) = false := by rfl) :
    PE X (.Call (.Name x p) (e :: es) [] pos) (tCall sp [] E0 t) := by
  obtain ⟨f, fd, F, b, kp, m⟩ := h.ex
  exact pe_call F hr hg m kp b .nil pass0 ha hdb he hpl
theorem pe_ch0 (h : Has X.prog X.w X.K X.mg X.base CX0 x k ps sp) (hr : Room k X.A) (hg : Gl X x) (hdb : (x == ("__debug__" : Str)) = false := by decide) :
    PE X (.Call (.Name x p) [] [] pos) (tCall sp [] E0 tNil) := by
  obtain ⟨f, fd, F, b, kp, m⟩ := h.ex
  exact pe_call0 F hr hg m kp b .nil pass0 hdb
end
theorem Same.tup {K : PySem.W.Frag} {H H' : Hp} {a : Addr} {xs : List V} (e : Same H H') (h : SqT K H a xs) : SqT K H' a xs := by
  rcases h with (h | ⟨o, h⟩) | h
  · exact .inl (.inl (e _ _ h))
  · exact .inl (.inr ⟨o, e _ _ h⟩)
  · exact .inr h
inductive RdV (K : PySem.W.Frag) (H : Hp) : V → PyData → Prop
  | non : RdV K H .non .none
  | bl (b : Bool) : RdV K H (.bl b) (.bool b)
  | int (i : Int) : RdV K H (.int i) (.int i)
  | str (x : Str) : RdV K H (.str x) (.str x)
  | lst {a : Addr} {xs : List V} {ds : List PyData} (h : SqL K H a xs) (hl : xs.length = ds.length) (hi : ∀ (i : Nat) (x : V) (d : PyData), xs[i]? = some x → ds[i]? = some d → RdV K H x d) : RdV K H (.ref a) (.list ds)
  | tup {a : Addr} {xs : List V} {ds : List PyData} (h : SqT K H a xs) (hl : xs.length = ds.length) (hi : ∀ (i : Nat) (x : V) (d : PyData), xs[i]? = some x → ds[i]? = some d → RdV K H x d) : RdV K H (.ref a) (.tuple ds)
def RdAll (K : PySem.W.Frag) (H : Hp) (xs : List V) (ds : List PyData) : Prop := xs.length = ds.length ∧ ∀ (i : Nat) (x : V) (d : PyData), xs[i]? = some x → ds[i]? = some d → RdV K H x d
theorem RdAll.nil {K : PySem.W.Frag} {H : Hp} : RdAll K H [] [] := ⟨rfl, fun i x d h => by simp at h⟩
theorem RdAll.cons {K : PySem.W.Frag} {H : Hp} {x : V} {d : PyData} {xs : List V} {ds : List PyData} (h : RdV K H x d) (r : RdAll K H xs ds) : RdAll K H (x :: xs) (d :: ds) :=
  ⟨by simp [r.1], fun i y e h1 h2 => by
    cases i with
    | zero => simp at h1 h2; subst h1; subst h2; exact h
    | succ i => exact r.2 i y e (by simpa using h1) (by simpa using h2)⟩
theorem RdAll.snoc {K : PySem.W.Frag} {H : Hp} {x : V} {d : PyData} : ∀ {xs : List V} {ds : List PyData}, RdAll K H xs ds → RdV K H x d → RdAll K H (xs ++ [x]) (ds ++ [d])
  | [], [], _, h => RdAll.cons h .nil
  | [], _ :: _, r, _ => nomatch r.1
  | _ :: _, [], r, _ => nomatch r.1
  | y :: xs, e :: ds, r, h => by
    have q : RdAll K H xs ds := ⟨by simpa using r.1, fun i a b h1 h2 => r.2 (i + 1) a b (by simpa using h1) (by simpa using h2)⟩
    exact RdAll.cons (r.2 0 y e rfl rfl) (RdAll.snoc q h)
theorem RdV.lst' {K : PySem.W.Frag} {H : Hp} {a : Addr} {xs : List V} {ds : List PyData} (h : SqL K H a xs) (r : RdAll K H xs ds) : RdV K H (.ref a) (.list ds) := .lst h r.1 r.2
theorem RdV.tup' {K : PySem.W.Frag} {H : Hp} {a : Addr} {xs : List V} {ds : List PyData} (h : SqT K H a xs) (r : RdAll K H xs ds) : RdV K H (.ref a) (.tuple ds) := .tup h r.1 r.2
theorem RdV.same {K : PySem.W.Frag} {H H' : Hp} (e : Same H H') {v : V} {d : PyData} (h : RdV K H v d) : RdV K H' v d := by
  induction h with
  | non => exact .non
  | bl b => exact .bl b
  | int i => exact .int i
  | str x => exact .str x
  | lst h hl hi ih => exact .lst (e.seq h) hl ih
  | tup h hl hi ih => exact .tup (e.tup h) hl ih
theorem RdAll.same {K : PySem.W.Frag} {H H' : Hp} (e : Same H H') {xs : List V} {ds : List PyData} (h : RdAll K H xs ds) : RdAll K H' xs ds := ⟨h.1, fun i x d h1 h2 => (h.2 i x d h1 h2).same e⟩
theorem readsAll_of {h : Heap} : ∀ {xs : List V} {us : List Value} {ds : List PyData}, Vals xs us → xs.length = ds.length → (∀ (i : Nat) (x : V) (d : PyData) (u : Value), xs[i]? = some x → ds[i]? = some d → RelV x u → ∃ as, Reads h u d as) → ∃ as, ReadsAll h us ds as
  | [], _, [], .nil, _, _ => ⟨[], .nil⟩
  | [], _, _ :: _, _, hl, _ => nomatch hl
  | _ :: _, _, [], _, hl, _ => nomatch hl
  | x :: xs, u :: us, d :: ds, .cons r t, hl, hi => by
    obtain ⟨as, ha⟩ := hi 0 x d u rfl rfl r
    obtain ⟨bs, hb⟩ := readsAll_of t (by simpa using hl) fun i y e w h1 h2 => hi (i + 1) y e w (by simpa using h1) (by simpa using h2)
    exact ⟨as ++ bs, .cons ha hb⟩
section
variable {X : Cx} {pins : List (Addr × Obj)} {σ : St} {H : Hp} {s : Shared}
theorem RdV.reads (I : Inv X pins σ H s) {v : V} {d : PyData} (h : RdV X.K H v d) : ∀ {u : Value}, RelV v u → ∃ as, Reads s.heap u d as := by
  induction h with
  | non => intro u r; cases r; exact ⟨_, .none⟩
  | bl b => intro u r; cases r; exact ⟨_, .bool b⟩
  | int i => intro u r; obtain ⟨t, rfl⟩ := r; exact ⟨_, .int i t⟩
  | str x => intro u r; obtain ⟨t, rfl⟩ := r; exact ⟨_, .str x t⟩
  | lst h hl hi ih =>
    intro u r; cases r
    obtain ⟨its, rv, ⟨o, n, e, c, _, d⟩, hz⟩ := I.list h
    obtain ⟨as, ha⟩ := readsAll_of (h := s.heap) rv hl fun i x d u h1 h2 r => ih i x d h1 h2 r
    exact ⟨_, .list e c d ha⟩
  | tup h hl hi ih =>
    intro u r; cases r
    obtain ⟨its, rv, ⟨o, e, c, n, d⟩, hz⟩ := I.tuple h
    obtain ⟨as, ha⟩ := readsAll_of (h := s.heap) rv hl fun i x d u h1 h2 r => ih i x d h1 h2 r
    exact ⟨_, .tuple e c d ha⟩
end
section
variable {X : Cx}
def rEqD (K : PySem.W.Frag) : R2 := fun x y H Q => ∃ d d', RdV K H x d ∧ RdV K H y d' ∧ PySem.SeqAt.shaped d = true ∧ PySem.SeqAt.shaped d' = true ∧ Q (.bl (PyData.eqv d d')) H
def rNeD (K : PySem.W.Frag) : R2 := fun x y H Q => ∃ d d', RdV K H x d ∧ RdV K H y d' ∧ PySem.SeqAt.shaped d = true ∧ PySem.SeqAt.shaped d' = true ∧ Q (.bl (!PyData.eqv d d')) H
theorem op_eqD (hu : X.A.units + 64 < cLine) : OpR X (compareOp .Eq) (rEqD X.K) := by
  intro pins s σ H x y v u Q I rx ry h
  obtain ⟨d, d', h1, h2, s1, s2, q⟩ := h
  obtain ⟨as, r1⟩ := h1.reads I rx
  obtain ⟨bs, r2⟩ := h2.reads I ry
  exact eq_dataH r1 r2 s1 s2 hu ⟨.bl _, H, I, rfl, q⟩
theorem op_neD (hu : X.A.units + 64 < cLine) : OpR X (compareOp .NotEq) (rNeD X.K) := by
  intro pins s σ H x y v u Q I rx ry h
  obtain ⟨d, d', h1, h2, s1, s2, q⟩ := h
  obtain ⟨as, r1⟩ := h1.reads I rx
  obtain ⟨bs, r2⟩ := h2.reads I ry
  exact ne_dataH r1 r2 s1 s2 hu ⟨.bl _, H, I, rfl, q⟩
def DctAt (a : Addr) : Heap → Prop := fun h => ∃ o, h.get? a = some o ∧ o.cls = .type "dict"
inductive TyV (K : PySem.W.Frag) (H : Hp) : V → String → Prop
  | non : TyV K H .non "NoneType"
  | bl (b : Bool) : TyV K H (.bl b) "bool"
  | int (i : Int) : TyV K H (.int i) "int"
  | str (x : Str) : TyV K H (.str x) "str"
  | lst {a : Addr} {xs : List V} (h : SqL K H a xs) : TyV K H (.ref a) "list"
  | tup {a : Addr} {xs : List V} (h : SqT K H a xs) : TyV K H (.ref a) "tuple"
  | dct {a : Addr} (h : H a = some (.ext (DctAt a))) : TyV K H (.ref a) "dict"
def rIsi (K : PySem.W.Frag) : List V → Hp → VK → Prop := fun vs H Q => ∃ x n t b, vs = [x, .ty n] ∧ TyV K H x t ∧ PySem.W.kitOne K (.type t) (.type n) = some b ∧ Q (.bl b) H
theorem call_isi : CallR X (.builtin "isinstance") (rIsi X.K) := by
  intro pins s σ H xs us Q I r h
  obtain ⟨x, n, t, b, rfl, ty, e, q⟩ := h
  obtain ⟨u, w', rfl, rx, rw'⟩ := vals2 r
  cases rw'
  have fin : ∀ tk, EP X pins σ Q (.bool b) { s with toks := tk } := fun tk => ⟨.bl b, H, I.tok tk, rfl, q⟩
  cases ty with
  | non => cases rx; exact PySem.W.kia_one PySem.W.kitx_none I.kIn True.intro e (fun z => nomatch z) fin
  | bl y => cases rx; exact PySem.W.kia_one PySem.W.kitx_bool I.kIn True.intro e (fun z => nomatch z) fin
  | int i => obtain ⟨t, rfl⟩ := rx; exact PySem.W.kia_one PySem.W.kitx_int I.kIn True.intro e (fun z => nomatch z) fin
  | str y => obtain ⟨t, rfl⟩ := rx; exact PySem.W.kia_one PySem.W.kitx_str I.kIn True.intro e (fun z => nomatch z) fin
  | lst h =>
    cases rx
    obtain ⟨its, rv, ⟨o, n, e1, c, _, d⟩, hz⟩ := I.list h
    exact PySem.W.kia_one PySem.W.kitx_list I.kIn ⟨o, e1, c⟩ e (fun z => nomatch z) fin
  | dct h =>
    cases rx
    obtain ⟨⟨o, e1, c⟩, _⟩ := I.hok _ _ h
    exact PySem.W.kia_one PySem.W.kitx_dict I.kIn ⟨o, e1, c⟩ e (fun z => nomatch z) fin
  | tup h =>
    cases rx
    obtain ⟨its, rv, ⟨o, e1, c, n, d⟩, hz⟩ := I.tuple h
    exact PySem.W.kia_one PySem.W.kitx_tuple I.kIn ⟨o, e1, c⟩ e (fun z => nomatch z) fin
def rLen (K : PySem.W.Frag) : List V → Hp → VK → Prop := fun xs H Q => ∃ p ys, xs = [.ref p] ∧ (SqL K H p ys ∨ SqT K H p ys) ∧ Q (.int ys.length) H
def rListOf (K : PySem.W.Frag) : List V → Hp → VK → Prop := fun xs H Q => ∃ p ys, xs = [.ref p] ∧ (SqL K H p ys ∨ SqT K H p ys) ∧ ∀ l, H l = none → Q (.ref l) (upd H l (.lst ys))
def CMulB (i j : Int) : Prop := (-340282366920938463463374607431768211456 < i ∧ i < 340282366920938463463374607431768211456) ∧ (-340282366920938463463374607431768211456 < j ∧ j < 340282366920938463463374607431768211456)
theorem CMulB.ok {i j : Int} (h : CMulB i j) : IntMulOk i j := by
  have e : (2 : Nat) ^ 128 = 340282366920938463463374607431768211456 := by decide
  obtain ⟨⟨h1, h2⟩, h3, h4⟩ := h
  have a : i.natAbs < 2 ^ 128 := by rw [e]; omega
  have b : j.natAbs < 2 ^ 128 := by rw [e]; omega
  exact IntMulOk.of_bits (Nat.le_trans (PyProof.Rows.intBits_le a) (by decide)) (Nat.le_trans (PyProof.Rows.intBits_le b) (by decide))
end
end L2
namespace L2
open PySem PySem.Spec PyProof.Rows
def clGo (cells : List (Str × Addr)) : List (Str × NameKind) → List (Str × Addr) → List (Str × Addr)
  | [], cs => cs
  | (n, k) :: r, cs => clGo cells r (if k == .free then (match cells.lookup n with | some c => (n, c) :: cs | none => cs) else cs)
theorem clGo_sub {cells : List (Str × Addr)} : ∀ (names : List (Str × NameKind)) (cs : List (Str × Addr)), (∀ x c, cs.lookup x = some c → cells.lookup x = some c) → ∀ x c, (clGo cells names cs).lookup x = some c → cells.lookup x = some c
  | [], _, h => h
  | (n, k) :: r, cs, h => by
    refine clGo_sub r _ fun x c e => ?_
    split at e
    · split at e
      · rename_i c' hc
        rw [List.lookup_cons] at e
        by_cases z : (x == n) = true
        · rw [z] at e
          have z' : x = n := by simpa using z
          rw [z']
          exact hc.trans e
        · rw [Bool.not_eq_true] at z
          rw [z] at e
          exact h x c e
      · exact h x c e
    · exact h x c e
theorem clGo_keep {cells : List (Str × Addr)} {x : Str} {c : Addr} (hx : cells.lookup x = some c) : ∀ (names : List (Str × NameKind)) (cs : List (Str × Addr)), cs.lookup x = some c → (clGo cells names cs).lookup x = some c
  | [], _, h => h
  | (n, k) :: r, cs, h => by
    refine clGo_keep hx r _ ?_
    split
    · split
      · rename_i c' hc
        rw [List.lookup_cons]
        by_cases z : (x == n) = true
        · rw [z]
          have z' : x = n := by simpa using z
          rw [z'] at hx
          exact hc.symm.trans hx
        · rw [Bool.not_eq_true] at z
          rw [z]
          exact h
      · exact h
    · exact h
theorem clGo_has {cells : List (Str × Addr)} {x : Str} {c : Addr} (hx : cells.lookup x = some c) : ∀ (names : List (Str × NameKind)) (cs : List (Str × Addr)), (x, NameKind.free) ∈ names → (clGo cells names cs).lookup x = some c
  | [], _, h => nomatch h
  | (n, k) :: r, cs, h => by
    rcases List.mem_cons.mp h with e | h
    · cases e
      refine clGo_keep hx r _ ?_
      simp [hx, List.lookup_cons]
    · exact clGo_has hx r _ h
theorem closureFor_go {env : Env} {scope : Scope} (h : ∀ y ∈ scope.names, y.2 = NameKind.free → ∃ c, env.cells.lookup y.1 = some c) : closureFor scope env = pure (clGo env.cells scope.names []) := by
  have go : ∀ (names : List (Str × NameKind)) (cs : List (Str × Addr)), (∀ y ∈ names, y.2 = NameKind.free → ∃ c, env.cells.lookup y.1 = some c) →
      (forIn names cs fun x (r : List (Str × Addr)) => if (x.2 == NameKind.free) = true then do let c ← cellOf env x.1; pure (ForInStep.yield ((x.1, c) :: r)) else pure (ForInStep.yield r) : Sem (List (Str × Addr))) = pure (clGo env.cells names cs) := by
    intro names
    induction names with
    | nil => intro cs _; rfl
    | cons y r ih =>
      intro cs hy
      obtain ⟨n, k⟩ := y
      rw [List.forIn_cons]
      by_cases hk : k = NameKind.free
      · subst hk
        obtain ⟨c, hc⟩ := hy _ List.mem_cons_self rfl
        have hc' : env.cells.lookup n = some c := hc
        have hcell : cellOf env n = pure c := by simp only [cellOf, hc']
        simp only [hcell, beq_self_eq_true, if_true, pure_bind]
        rw [ih _ fun y hm => hy y (List.mem_cons_of_mem _ hm)]
        simp only [clGo, beq_self_eq_true, if_true, hc']
      · have hb : (k == NameKind.free) = false := by simpa using hk
        simp only [hb, Bool.false_eq_true, if_false, pure_bind]
        rw [ih _ fun y hm => hy y (List.mem_cons_of_mem _ hm)]
        simp only [clGo, hb, Bool.false_eq_true, if_false]
  have e := go scope.names [] h
  unfold closureFor
  simp only [bind_pure] at e ⊢
  exact e
theorem relab_look {scope : Scope} {env : Env} (x : Str) : (relabel scope env).names.lookup x = (scope.names.lookup x).map fun k => if (k == NameKind.free && env.scope.kind == .function && env.kindOf x == some .cell) = true then .cell else k := by
  show (scope.names.map fun (n, k) => if (k == NameKind.free && env.scope.kind == .function && env.kindOf n == some .cell) = true then (n, NameKind.cell) else (n, k)).lookup x = _
  induction scope.names with
  | nil => rfl
  | cons y r ih =>
    obtain ⟨n, k⟩ := y
    rw [List.map_cons]
    by_cases z : (x == n) = true
    · have z' : x = n := by simpa using z
      subst z'
      by_cases hc : (k == NameKind.free && env.scope.kind == .function && env.kindOf x == some .cell) = true
      · simp only [hc, if_true, List.lookup_cons, beq_self_eq_true, Option.map_some]
      · simp only [hc, if_false, List.lookup_cons, beq_self_eq_true, Option.map_some, Bool.false_eq_true]
    · rw [Bool.not_eq_true] at z
      by_cases hc : (k == NameKind.free && env.scope.kind == .function && env.kindOf n == some .cell) = true
      · simp only [hc, if_true, List.lookup_cons, z]; exact ih
      · simp only [hc, if_false, List.lookup_cons, z, Bool.false_eq_true]; exact ih
theorem mem_of_look {α β : Type} [BEq α] [LawfulBEq α] {x : α} {b : β} : ∀ {l : List (α × β)}, l.lookup x = some b → (x, b) ∈ l
  | [], h => by simp at h
  | (n, k) :: r, h => by
    rw [List.lookup_cons] at h
    by_cases z : (x == n) = true
    · rw [z] at h
      have z' : x = n := by simpa using z
      cases h
      rw [z']
      exact List.mem_cons_self
    · rw [Bool.not_eq_true] at z
      rw [z] at h
      exact List.mem_cons_of_mem _ (mem_of_look h)
def Cx.blk (X : Cx) (N : List Str) (scope : Scope) (C : Addr) (ex : List Addr) (s : Shared) (H : Hp) : Cx where
  prog := X.prog
  w := X.w
  K := X.K
  mg := X.mg
  base := X.base
  A := X.A
  N := N
  s₀ := s
  H₀ := H
  env := compEnvC scope (clGo X.env.cells scope.names []) C X.env
  outer := X.stack
  stack := X.stack
  ex := ex
  fn := fun _ => false
  calm := X.calm
  pn := []
  xe := fun _ _ => False
structure BlkOk (X : Cx) (own : Nat) (N : List Str) (ix : List Nat) (scope : Scope) : Prop where
  kind : scope.kind = .function
  calm : X.calm = true
  free : scope.names.all (fun y => y.2 != .free || X.env.kindOf y.1 == some .cell) = true
  cell : scope.names.all (fun y => y.2 != .cell) = true
  loc : scope.names.all (fun y => y.2 != .local || scope.names.lookup y.1 == some .local) = true
  ixs : (ix.map fun i => X.N[i]?) = (N.drop own).map some
  fr : (N.drop own).all (fun x => scope.names.lookup x == some .free) = true
  len : N.length = own + ix.length
def blkSt (own : Nat) (ix : List Nat) (σ : St) : St := List.replicate own none ++ ix.map fun i => (σ[i]?).getD none
theorem blkSt_drop (own : Nat) (ix : List Nat) (σ : St) : (blkSt own ix σ).drop own = ix.map fun i => (σ[i]?).getD none := by
  unfold blkSt
  rw [List.drop_left' (by simp)]
theorem blkSt_get {own : Nat} {ix : List Nat} {σ : St} {j : Nat} {v : V} (h : (blkSt own ix σ)[j]? = some (some v)) : ∃ i, own ≤ j ∧ ix[j - own]? = some i ∧ σ[i]? = some (some v) := by
  unfold blkSt at h
  by_cases hj : j < own
  · rw [List.getElem?_append_left (by simpa using hj)] at h
    rw [List.getElem?_replicate] at h
    simp [hj] at h
  · rw [List.getElem?_append_right (by simpa using hj)] at h
    rw [List.length_replicate, List.getElem?_map] at h
    cases e : ix[j - own]? with
    | none => rw [e] at h; simp at h
    | some i =>
      rw [e] at h
      refine ⟨i, by omega, rfl, ?_⟩
      have h' : (σ[i]?).getD none = some v := by simpa using h
      cases q : σ[i]? with
      | none => rw [q] at h'; simp at h'
      | some o => rw [q] at h'; simp at h'; rw [h']
theorem blkSt_weak {own : Nat} {ix : List Nat} {σ σ2 : St} (hd : σ2.drop own = ix.map fun i => (σ[i]?).getD none) : ∀ (j : Nat) v, (blkSt own ix σ)[j]? = some (some v) → σ2[j]? = some (some v) := fun j v h => by
  by_cases hj : j < own
  · obtain ⟨i, h1, _⟩ := blkSt_get h
    omega
  · have e : (blkSt own ix σ)[j]? = ((blkSt own ix σ).drop own)[j - own]? := by rw [List.getElem?_drop]; congr 1; omega
    have e2 : σ2[j]? = (σ2.drop own)[j - own]? := by rw [List.getElem?_drop]; congr 1; omega
    rw [e, blkSt_drop, ← hd, ← e2] at h
    exact h
section
variable {X : Cx} {pins : List (Addr × Obj)} {σ : St} {H : Hp} {s : Shared} {own : Nat} {N : List Str} {ix : List Nat} {scope : Scope}
theorem BlkOk.has (B : BlkOk X own N ix scope) (I : Inv X pins σ H s) : ∀ y ∈ scope.names, y.2 = NameKind.free → X.env.kindOf y.1 = some .cell ∧ ∃ c, X.env.cells.lookup y.1 = some c := fun y hy e => by
  have z := List.all_eq_true.mp B.free y hy
  rw [e] at z
  have z' : X.env.kindOf y.1 = some .cell := by simpa using z
  exact ⟨z', I.ok.has y.1 (.inl z')⟩
theorem blk_start {C : Addr} {ex : List Addr} {h' : Heap} {tk : Nat} (B : BlkOk X own N ix scope) (I : Inv X pins σ H s) (hC : C = s.heap.objs.size) (hx : ∀ b ∈ ex, FpOk X pins H b) (hlt : ∀ b ∈ ex, b < s.heap.objs.size)
    (hn : h'.Ns C (fun _ => none)) (hk : ∀ b o, s.heap.get? b = some o → h'.get? b = some o) : Inv (X.blk N scope C ex s H) [] (blkSt own ix σ) H { s with heap := h', toks := tk } := by
  have sub : ∀ x c, (clGo X.env.cells scope.names []).lookup x = some c → X.env.cells.lookup x = some c := clGo_sub scope.names [] fun x c e => by simp at e
  have nb : ∀ b o, X.base.get? b = some o → b ∉ ex := fun b o e hb => by
    rcases (hx b hb).2.2.2.1 with z | z
    · exact I.ok.noex b o e z
    · exact absurd (Nat.lt_of_lt_of_le (Heap.lt_size e) (Nat.le_trans I.ok.bsz z)) (Nat.lt_irrefl _)
  have nstk : ∀ b ∈ ex, b ∉ frs X.stack := fun b hb z => by
    rcases List.mem_cons.mp (I.stkSub b z) with e | e
    · exact (hx b hb).2.1 e
    · exact (hx b hb).2.2.1 e
  refine ⟨⟨I.ok.mod, B.kind, I.ok.glob, I.ok.blt, ?_, fun x y c e1 e2 => I.ok.inj x y c (sub x c e1) (sub y c e2), fun x hk' => ?_, (fun _ _ z => absurd (show false = true from z) (by decide)), I.ok.hd, I.ok.frames, .inl rfl, fun b hb => ⟨?_, fun x c e => (hx b hb).2.2.2.2.1 x c (sub x c e)⟩,
    fun b o e => I.bs b o e, Nat.le_trans I.ok.bsz I.sz, nb, nstk, I.stack, I.stkFree⟩, rfl, I.bare, Un.kept hk, ⟨_, hn, fun j x v e1 e2 e3 => ?_⟩, fun x c e => ?_, ?_, fun x c e => I.freeC x c (sub x c e), (fun p hp => nomatch hp), I.hok.kept hk, ?_⟩
  · show s.heap.objs.size ≤ C
    exact Nat.le_of_eq hC.symm
  · have hk'' : (relabel scope X.env).names.lookup x = some .cell ∨ (relabel scope X.env).names.lookup x = some .free := hk'
    rw [relab_look] at hk''
    have hf : scope.names.lookup x = some .free := by
      cases q : scope.names.lookup x with
      | none => rw [q] at hk''; rcases hk'' with z | z <;> cases z
      | some k =>
        rw [q] at hk''
        by_cases hkf : k = .free
        · rw [hkf]
        · exfalso
          have hb : (k == NameKind.free) = false := by simpa using hkf
          have hm := List.all_eq_true.mp B.cell (x, k) (mem_of_look q)
          simp only [Option.map_some, hb, Bool.false_and, Bool.false_eq_true, if_false] at hk''
          rcases hk'' with z | z
          · rw [Option.some.inj z] at hm; exact absurd hm (by simp)
          · exact hkf (Option.some.inj z)
    obtain ⟨_, c, hc⟩ := B.has I (x, .free) (mem_of_look hf) rfl
    exact ⟨c, clGo_has hc scope.names [] (mem_of_look hf)⟩
  · show b ≠ C
    rw [hC]
    exact Nat.ne_of_lt (hlt b hb)
  · obtain ⟨i, h1, h2, h3⟩ := blkSt_get e2
    have hN : N[j]? = some x := e1
    have hxN : X.N[i]? = some x := by
      have e : (ix.map fun i => X.N[i]?)[j - own]? = ((N.drop own).map some)[j - own]? := by rw [B.ixs]
      rw [List.getElem?_map, h2, List.getElem?_map, List.getElem?_drop] at e
      have hj : own + (j - own) = j := by omega
      rw [hj, hN] at e
      simpa using e
    have hfr : scope.names.lookup x = some .free := by
      have hm : x ∈ N.drop own := by
        refine List.mem_of_getElem? (i := j - own) ?_
        rw [List.getElem?_drop, show own + (j - own) = j by omega]
        exact hN
      have := List.all_eq_true.mp B.fr x hm
      simpa using this
    obtain ⟨hkc, c, hc⟩ := B.has I (x, .free) (mem_of_look hfr) rfl
    obtain ⟨m, hm, hl⟩ := I.loc
    obtain ⟨u, r, l⟩ := hl i x v hxN h3 (.inr (.inl hkc))
    refine ⟨u, r, ?_⟩
    rcases l with ⟨z, _⟩ | ⟨_, c', hc', hz⟩
    · have z' : X.env.kindOf x = some .local := z
      have hkc' : X.env.kindOf x = some .cell := hkc
      rw [hkc'] at z'
      cases z'
    · rw [hc] at hc'
      cases hc'
      refine .inr ⟨.inl ?_, c, clGo_has hc scope.names [] (mem_of_look hfr), ?_⟩
      · show (relabel scope X.env).names.lookup x = some .cell
        rw [relab_look, hfr]
        have hkc' : X.env.kindOf x = some .cell := hkc
        have hkf : X.env.scope.kind = .function := I.ok.kind
        simp [hkc', hkf]
      · obtain ⟨o, ho, hd⟩ := hz
        exact ⟨o, hk _ _ ho, hd⟩
  · obtain ⟨v, o, ho, hd⟩ := I.cell x c (sub x c e)
    exact ⟨v, o, hk _ _ ho, hd⟩
  · show H C = none
    exact I.hok.fresh (Nat.le_of_eq hC.symm)
  · show (blkSt own ix σ).length = N.length
    rw [B.len]
    simp [blkSt]
theorem blk_end {C : Addr} {ex : List Addr} {σ' : St} {H' : Hp} {s' : Shared} (I : Inv X pins σ H s) (hx : ∀ b ∈ ex, FpOk X pins H b) (I' : Inv (X.blk N scope C ex s H) [] σ' H' s') : Inv X pins σ H' s' :=
  I.call' (ch := ex) I'.os I'.base I'.hok I'.bare fun b hb => ⟨(hx b hb).2.2.2.1, (hx b hb).2.1, (hx b hb).2.2.2.2.1, (hx b hb).2.2.2.2.2⟩
def PIf (X : Cx) (ifs : List Expr) (tt : TT) : Prop := ∀ (pins : List (Addr × Obj)) (s : Shared) (σ : St) (H : Hp) (Q : Bool → Hp → Prop), Inv X pins σ H s → tt σ H Q →
  wpAny (model X.prog X.w) X.A (forIn ifs true fun c r => if r = true then do let ok ← isTrue c X.env (eval c X.env); pure (ForInStep.yield ok) else pure (ForInStep.yield r)) (TP X pins σ Q) X.xe s
def tYes : TT := fun _ H Q => Q true H
theorem pif_nil {X : Cx} : PIf X [] tYes := fun _ _ _ H _ I h => wpAny_tests_nil ⟨H, I, h⟩
theorem pif_one {X : Cx} {c : Expr} {t : TT} (h : PT X c t) : PIf X [c] t := fun pins s σ H Q I q => wpAny_tests_one (h pins s σ H Q I q)
def LcW (J : It) (own : Nat) (ix : List Nat) (σ : St) (g : TG) (tt : TT) (te : TE) (D : Addr) (H1 : Hp) (Q : VK) : Prop := ∃ W : Nat → Nat → List V → Hp → Prop,
  (∃ m, W 0 m [] (upd H1 D (.lst []))) ∧ ∀ i m ys H2, W i m ys H2 → H2 D = some (.lst ys) ∧ ((J.stop i H2 ∧ Q (.ref D) H2) ∨ (J.go i H2 ∧ ys.length < sizeLine ∧ ∃ Nx : List V → Hp → Prop, (∀ ys' H', Nx ys' H' → ∃ m', m' < m ∧ W (i + 1) m' ys' H') ∧ ∀ x H3, J.yld i H2 x H3 →
    g x (blkSt own ix σ) H3 fun σ2 H4 => σ2.drop own = (ix.map fun i => (σ[i]?).getD none) ∧ tt σ2 H4 fun b H5 => if b = true then te σ2 H5 fun v H6 => H6 D = some (.lst ys) ∧ Nx (ys ++ [v]) (upd H6 D (.lst (ys ++ [v]))) else Nx ys H5))
def tLc (own : Nat) (ix : List Nat) (wi : TI) (g : TG) (tt : TT) (te : TE) : TE := fun σ H Q => wi σ H fun J H1 => ∀ D, H1 D = none → LcW J own ix σ g tt te D H1 Q
theorem compLoop_go {prog : Program} {w : World} {A : Around} {R : Result → Shared → Prop} {s : Shared} {elt target iter : Expr} {ifs : List Expr} {scope : Scope} {pos : Pos} {it acc : Value} {env : Env} (I : Nat → Shared → Prop)
    (turn : ∀ n s, I n s → wpAny (model prog w) A (pyNext it) (fun r s1 => match r with
      | none => R (.ok .next) s1
      | some v => wpAny (model prog w) A (letOwnedTupleGo target it v) (fun _ s1' => wpAny (model prog w) A (assign target env v) (fun _ s2 =>
          wpAny (model prog w) A (forIn ifs true fun c r => if r = true then do let ok ← isTrue c env (eval c env); pure (ForInStep.yield ok) else pure (ForInStep.yield r)) (fun ok s3 =>
            if ok = true then wpAny (model prog w) A (eval elt env) (fun x s4 => wpAny (model prog w) A (call (.builtin "list.append") [acc, x]) (fun _ s5 => ∃ m, m < n ∧ I m s5) (fun _ _ => False) s4) (fun _ _ => False) s3
            else ∃ m, m < n ∧ I m s3) (fun _ _ => False) s2) (fun _ _ => False) s1') (fun _ _ => False) s1) (fun _ _ => False) s)
    (n : Nat) (h : I n s) : codeAny (model prog w) A (.compLoop (.ListComp elt [⟨target, iter, ifs, 0⟩] scope pos) 0 it acc env) R s := by
  refine codeAny_loop rfl I (fun n s hI => ?_) n h
  show wpAny _ A ((compTurn (.ListComp elt [⟨target, iter, ifs, 0⟩] scope pos) 0 it acc env).onRaise (fun x => do noteFrame x env; theTreesLotGoes x)) _ _ s
  refine wpAny_noted ?_
  rw [compTurn_list]
  refine wpAny_bind (wpAny_standAt (wpAny_bind (wpAny_mono (turn n s hI) (fun r s1 h1 => ?_) fun _ _ z => z.elim)))
  cases r with
  | none => exact wpAny_pure h1
  | some v =>
    refine wpAny_bind (wpAny_mono h1 (fun _ s1' h1' => ?_) fun _ _ z => z.elim)
    refine wpAny_bind (wpAny_mono h1' (fun _ s2 h2 => wpAny_bind (wpAny_mono h2 (fun ok s3 h3 => ?_) fun _ _ z => z.elim)) fun _ _ z => z.elim)
    cases ok with
    | false => exact wpAny_pure ⟨rfl, h3⟩
    | true => exact wpAny_bind (wpAny_bind (wpAny_mono h3 (fun x s4 h4 => wpAny_bind (wpAny_mono h4 (fun _ s5 h5 => wpAny_pure (wpAny_pure ⟨rfl, h5⟩)) fun _ _ z => z.elim)) fun _ _ z => z.elim))
theorem blk_run {elt tg iter : Expr} {ifs : List Expr} {pos : Pos} {g : TG} {tt : TT} {te : TE} {it : Addr} {fp : List Addr} {tn : Nat → Heap → Prop} {J : It} {Q : VK} {E : Value → Shared → Prop} {RR : Value → Addr → Result → Shared → Prop} (B : BlkOk X own N ix scope)
    (hin : ∀ (C : Addr) (s : Shared) (H : Hp), PG (X.blk N scope C fp s H) tg g ∧ PIf (X.blk N scope C fp s H) ifs tt ∧ PE (X.blk N scope C fp s H) elt te)
    (I : Inv X pins σ H s) (T : Turn X.prog X.w X.K tg J fp it tn) (st : tn 0 s.heap) (hf : ∀ b ∈ fp, FpOk X pins H b)
    (h : ∀ D, H D = none → LcW J own ix σ g tt te D H Q)
    (fin : ∀ (D C : Addr) (H' : Hp) (s' : Shared) (m : Str → Option Value), Inv X pins σ H' s' → s'.heap.Ns C m → H' C = none → C ≠ X.env.locals → (X.s₀.heap.objs.size ≤ C) → (∀ x c, X.env.cells.lookup x = some c → c ≠ C) → (∀ p ∈ X.pn ++ pins, p.1 ≠ C) → Q (.ref D) H' → RR (.ref D) C (.ok .next) s') :
    wpAny (model X.prog X.w) X.A (newList []) (fun acc s3 => wpAny (model X.prog X.w) X.A (newFunctionEnv scope X.env.globals (clGo X.env.cells scope.names []) [] X.env.qual none .none (some X.env)) (fun cenv s4 =>
      codeAny (model X.prog X.w) X.A (.compStart (.ListComp elt [⟨tg, iter, ifs, 0⟩] scope pos) 0 (.ref it) acc { cenv with scope := relabel scope X.env }) (RR acc cenv.locals) s4) E s3) E s := by
  obtain ⟨W, ⟨m0, w0⟩, turn⟩ := h s.heap.objs.size I.fresh
  refine wpAny_newObj_type ?_
  have I3 := I.lnew (its := []) (ys := []) (t' := s.toks) .nil (Nat.zero_le _)
  have hcell : ∀ y ∈ scope.names, y.2 ≠ NameKind.cell := fun y hy e => by
    have := List.all_eq_true.mp B.cell y hy
    rw [e] at this
    exact absurd this (by decide)
  refine wpAny_newFunctionEnv hcell (by intro y hy; simp at hy) (fun h1 hns1 hsb1 => ?_) B.kind
  dsimp only at hns1 hsb1 ⊢
  generalize hH2 : s.heap.push { cls := .type "list", dict := none, data := .seq ([] : List Value).toArray } = h2 at hns1 hsb1 ⊢
  have I3' : Inv X pins σ (upd H s.heap.objs.size (.lst [])) { s with heap := h2 } := by
    have z : ({ s with heap := s.heap.push { cls := .type "list", data := .seq ([] : List Value).toArray }, toks := s.toks } : Shared) = { s with heap := h2 } := by rw [← hH2]
    rw [← z]
    exact I3
  have sz : h2.objs.size = s.heap.objs.size + 1 := by rw [← hH2, Heap.size_push]
  have old2 : ∀ b o, s.heap.get? b = some o → h2.get? b = some o := fun b o e => by rw [← hH2]; exact Heap.get?_push_of_some _ e
  have keep1 : ∀ b o, h2.get? b = some o → h1.get? b = some o := fun b o e => hsb1.extBut b o (Nat.ne_of_lt (Heap.lt_size e)) (Heap.get?_push_of_some _ e)
  have there : ∀ b ∈ fp, b < s.heap.objs.size := fun b hb => by obtain ⟨o, e, _⟩ := T.obj _ _ st b hb; exact Heap.lt_size e
  have hf3 : ∀ b ∈ fp, FpOk X pins (upd H s.heap.objs.size (.lst [])) b := fun b hb => ⟨by rw [upd_ne (Nat.ne_of_lt (there b hb))]; exact (hf b hb).1, (hf b hb).2⟩
  have hn1 : h1.Ns h2.objs.size (fun _ => none) := by simpa using hns1
  have I4 := blk_start (tk := s.toks + ([] : List (Str × Value)).length) (own := own) (N := N) (ix := ix) B I3' rfl hf3 (fun b hb => Nat.lt_of_lt_of_le (there b hb) (by show s.heap.objs.size ≤ h2.objs.size; rw [sz]; exact Nat.le_succ _)) hn1 keep1
  have st4 : tn 0 h1 := T.keep _ _ _ st fun b _ o e => keep1 b o (old2 b o e)
  have Bc : (X.blk N scope h2.objs.size fp { s with heap := h2 } (upd H s.heap.objs.size (.lst []))).calm = true := B.calm
  obtain ⟨pg, pif, pe⟩ := hin h2.objs.size { s with heap := h2 } (upd H s.heap.objs.size (.lst []))
  have fpb : ∀ {H' : Hp}, (∀ b ∈ fp, H' b = none) → ∀ b ∈ fp, FpOk (X.blk N scope h2.objs.size fp { s with heap := h2 } (upd H s.heap.objs.size (.lst []))) [] H' b := fun hz b hb =>
    ⟨hz b hb, Nat.ne_of_lt (Nat.lt_of_lt_of_le (there b hb) (by show s.heap.objs.size ≤ h2.objs.size; rw [sz]; exact Nat.le_succ _)), I4.ok.exfs b hb, .inl hb, fun x c e => (I4.ok.exf b hb).2 x c e, (fun p hp => nomatch hp)⟩
  have loop : ∀ s3 : Shared, s3 = { s with heap := h1, toks := s.toks + ([] : List (Str × Value)).length } →
      codeAny (model X.prog X.w) X.A (.compLoop (.ListComp elt [⟨tg, iter, ifs, 0⟩] scope pos) 0 (.ref it) (.ref s.heap.objs.size) (compEnvC scope (clGo X.env.cells scope.names []) h2.objs.size X.env)) (RR (.ref s.heap.objs.size) h2.objs.size) s3 := by
    rintro s3 rfl
    refine compLoop_go (fun n s' => ∃ i ys H', Inv (X.blk N scope h2.objs.size fp { s with heap := h2 } (upd H s.heap.objs.size (.lst []))) [] (blkSt own ix σ) H' s' ∧ tn i s'.heap ∧ (∀ b ∈ fp, H' b = none) ∧ W i n ys H') ?_ m0
      ⟨0, [], _, I4, st4, fun b hb => (hf3 b hb).1, w0⟩
    rintro n s5 ⟨i, ys, H5, I5, st5, fr5, w5⟩
    obtain ⟨hD, t5⟩ := turn i n ys H5 w5
    rcases t5 with ⟨stop, qn⟩ | ⟨go, hz, Nx, hNx, step⟩
    · refine thn (T.done (X.blk N scope h2.objs.size fp { s with heap := h2 } (upd H s.heap.objs.size (.lst []))) rfl rfl rfl Bc i [] s5 _ H5 (fun _ _ => False) I5 (fpb fr5) st5 stop) fun r s6 ⟨hr, I6⟩ => ?_
      subst hr
      obtain ⟨m, hm, _⟩ := I6.loc
      refine fin _ _ H5 s6 m (blk_end I3' hf3 I6) hm I6.free ?_ ?_ (fun x c e z => ?_) (fun p hp z => ?_) qn
      · have := I3'.lt
        exact Nat.ne_of_gt this
      · exact I3'.sz
      · obtain ⟨v, q⟩ := I3'.cell x c e
        have := q.lt
        rw [z] at this
        exact absurd this (Nat.lt_irrefl _)
      · have := Heap.lt_size (I3'.pin p hp).1
        rw [z] at this
        exact absurd this (Nat.lt_irrefl _)
    · refine thn (T.item (X.blk N scope h2.objs.size fp { s with heap := h2 } (upd H s.heap.objs.size (.lst []))) rfl rfl rfl Bc i [] s5 _ H5 (fun _ _ => False) I5 (fpb fr5) st5 go) fun r s6 ⟨u, hr, h6⟩ => ?_
      subst hr
      refine thn h6 fun _ s7 ⟨x, H7, I7, r7, y7, st7, fr7⟩ => ?_
      have I7' := I7.pinned (fpb fr7) (T.obj _ _ st7)
      refine thn (pg _ s7 _ H7 x u _ I7' r7 (step x H7 y7)) fun _ s8 ⟨σ8, H8, I8, hd8, q8⟩ => ?_
      refine thn (pif _ s8 σ8 H8 _ I8 q8) fun b s9 ⟨H9, I9, q9⟩ => ?_
      have again : ∀ {ys' : List V} {H' : Hp} {s' : Shared}, Inv (X.blk N scope h2.objs.size fp { s with heap := h2 } (upd H s.heap.objs.size (.lst []))) ([] ++ pinsAt fp s7.heap) σ8 H' s' → Nx ys' H' →
          ∃ m, m < n ∧ ∃ i ys H', Inv (X.blk N scope h2.objs.size fp { s with heap := h2 } (upd H s.heap.objs.size (.lst []))) [] (blkSt own ix σ) H' s' ∧ tn i s'.heap ∧ (∀ b ∈ fp, H' b = none) ∧ W i m ys H' := by
        intro ys' H' s' I' w'
        obtain ⟨m', hm, w'⟩ := hNx _ _ w'
        refine ⟨m', hm, i + 1, ys', H', (I'.unpinned).weak ?_ (blkSt_weak hd8), T.keep _ _ _ st7 fun b hb o e => (I'.pin (b, o) (List.mem_append_right _ (List.mem_append_right _ (mem_pinsAt hb e)))).1, fun b hb => ?_, w'⟩
        · rw [I'.len, ← I4.len]
        · obtain ⟨o, e, d⟩ := T.obj _ _ st7 b hb
          exact (I'.pin (b, o) (List.mem_append_right _ (List.mem_append_right _ (mem_pinsAt hb e)))).2.1
      cases b with
      | true =>
        simp only [if_true] at q9 ⊢
        refine thn (pe _ s9 σ8 H9 _ I9 q9) fun v s10 ⟨y, H10, I10, r10, hD10, q10⟩ => ?_
        refine thn (mt_append _ s10 σ8 H10 (.ref _) [y] (.ref _) [v] (fun _ H' => Nx (ys ++ [y]) H') I10 rfl (.cons r10 .nil) ⟨_, ys, y, rfl, rfl, hD10, hz, q10⟩) fun _ s11 ⟨_, H11, I11, _, q11⟩ => ?_
        exact again I11 q11
      | false =>
        simp only [Bool.false_eq_true, if_false] at q9 ⊢
        exact again I9 q9
  exact codeAny_compStart_list (loop _ rfl) (T.self _ 0 _ _ _ st4 (loop _ rfl))
theorem lc_range {lo : Int} {n : Nat} {g : TG} {tt : TT} {te : TE} {H1 : Hp} {Q : VK} {D : Addr} (Pv : Nat → List V → Hp → Prop) (hn : n ≤ sizeLine) (h0 : Pv 0 [] (upd H1 D (.lst []))) (hD : ∀ i ys H, Pv i ys H → H D = some (.lst ys) ∧ ys.length ≤ i)
    (hs : ∀ i ys H2, i < n → Pv i ys H2 → g (.int (lo + i)) (blkSt own ix σ) H2 fun σ2 H4 => σ2.drop own = (ix.map fun i => (σ[i]?).getD none) ∧ tt σ2 H4 fun b H5 => if b = true then te σ2 H5 fun v H6 => H6 D = some (.lst ys) ∧ Pv (i + 1) (ys ++ [v]) (upd H6 D (.lst (ys ++ [v]))) else Pv (i + 1) ys H5)
    (hd : ∀ ys H2, Pv n ys H2 → Q (.ref D) H2) :
    LcW (Itr lo n) own ix σ g tt te D H1 Q := by
  refine ⟨fun i m ys H => m = n - i ∧ i ≤ n ∧ Pv i ys H, ⟨n, by simp, Nat.zero_le _, h0⟩, ?_⟩
  rintro i m ys H2 ⟨rfl, hi, p⟩
  obtain ⟨q1, q2⟩ := hD i ys H2 p
  refine ⟨q1, ?_⟩
  by_cases hlt : i < n
  · refine .inr ⟨hlt, by omega, Pv (i + 1), fun ys' H' p' => ⟨n - (i + 1), by omega, rfl, hlt, p'⟩, fun x H3 y => ?_⟩
    obtain ⟨e1, e2⟩ := y
    subst e1 e2
    exact hs i ys _ hlt p
  · have e : i = n := by omega
    subst e
    exact .inl ⟨Nat.le_refl _, hd ys H2 p⟩
theorem lc_list {K : PySem.W.Frag} {a : Addr} {xs : List V} {g : TG} {tt : TT} {te : TE} {H1 : Hp} {Q : VK} {D : Addr} (Pv : Nat → List V → Hp → Prop) (hn : xs.length ≤ sizeLine) (h0 : Pv 0 [] (upd H1 D (.lst []))) (hD : ∀ i ys H, i ≤ xs.length → Pv i ys H → H D = some (.lst ys) ∧ ys.length ≤ i ∧ SqL K H a xs)
    (hs : ∀ i x ys H2, xs[i]? = some x → Pv i ys H2 → g x (blkSt own ix σ) H2 fun σ2 H4 => σ2.drop own = (ix.map fun i => (σ[i]?).getD none) ∧ tt σ2 H4 fun b H5 => if b = true then te σ2 H5 fun v H6 => H6 D = some (.lst ys) ∧ Pv (i + 1) (ys ++ [v]) (upd H6 D (.lst (ys ++ [v]))) else Pv (i + 1) ys H5)
    (hd : ∀ ys H2, Pv xs.length ys H2 → Q (.ref D) H2) :
    LcW (Itl K a) own ix σ g tt te D H1 Q := by
  refine ⟨fun i m ys H => m = xs.length - i ∧ i ≤ xs.length ∧ Pv i ys H, ⟨xs.length, by simp, Nat.zero_le _, h0⟩, ?_⟩
  rintro i m ys H2 ⟨rfl, hi, p⟩
  obtain ⟨q1, q2, q3⟩ := hD i ys H2 hi p
  refine ⟨q1, ?_⟩
  by_cases hlt : i < xs.length
  · refine .inr ⟨⟨xs, xs[i], q3, by simp [hlt]⟩, by omega, Pv (i + 1), fun ys' H' p' => ⟨xs.length - (i + 1), by omega, rfl, hlt, p'⟩, fun x H3 y => ?_⟩
    obtain ⟨e1, e2⟩ := y
    subst e1
    exact hs i x ys _ (e2 xs q3) p
  · have e : i = xs.length := by omega
    subst e
    exact .inl ⟨⟨xs, q3, Nat.le_refl _⟩, hd ys H2 p⟩
theorem lc_tup {K : PySem.W.Frag} {a : Addr} {xs : List V} {g : TG} {tt : TT} {te : TE} {H1 : Hp} {Q : VK} {D : Addr} (Pv : Nat → List V → Hp → Prop) (hn : xs.length ≤ sizeLine) (h0 : Pv 0 [] (upd H1 D (.lst []))) (hD : ∀ i ys H, i ≤ xs.length → Pv i ys H → H D = some (.lst ys) ∧ ys.length ≤ i ∧ SqT K H a xs)
    (hs : ∀ i x ys H2, xs[i]? = some x → Pv i ys H2 → g x (blkSt own ix σ) H2 fun σ2 H4 => σ2.drop own = (ix.map fun i => (σ[i]?).getD none) ∧ tt σ2 H4 fun b H5 => if b = true then te σ2 H5 fun v H6 => H6 D = some (.lst ys) ∧ Pv (i + 1) (ys ++ [v]) (upd H6 D (.lst (ys ++ [v]))) else Pv (i + 1) ys H5)
    (hd : ∀ ys H2, Pv xs.length ys H2 → Q (.ref D) H2) :
    LcW (Itt K a) own ix σ g tt te D H1 Q := by
  refine ⟨fun i m ys H => m = xs.length - i ∧ i ≤ xs.length ∧ Pv i ys H, ⟨xs.length, by simp, Nat.zero_le _, h0⟩, ?_⟩
  rintro i m ys H2 ⟨rfl, hi, p⟩
  obtain ⟨q1, q2, q3⟩ := hD i ys H2 hi p
  refine ⟨q1, ?_⟩
  by_cases hlt : i < xs.length
  · refine .inr ⟨⟨xs, xs[i], q3, by simp [hlt]⟩, by omega, Pv (i + 1), fun ys' H' p' => ⟨xs.length - (i + 1), by omega, rfl, hlt, p'⟩, fun x H3 y => ?_⟩
    obtain ⟨e1, e2⟩ := y
    subst e1
    exact hs i x ys _ (e2 xs q3) p
  · have e : i = xs.length := by omega
    subst e
    exact .inl ⟨⟨xs, q3, Nat.le_refl _⟩, hd ys H2 p⟩
theorem pe_lc {elt tg iter : Expr} {ifs : List Expr} {pos : Pos} {wi : TI} {g : TG} {tt : TT} {te : TE} (own : Nat) (N : List Str) (ix : List Nat) (B : BlkOk X own N ix scope) (hi : PI X tg iter wi)
    (hin : ∀ (C : Addr) (fp : List Addr) (s : Shared) (H : Hp), PG (X.blk N scope C fp s H) tg g ∧ PIf (X.blk N scope C fp s H) ifs tt ∧ PE (X.blk N scope C fp s H) elt te)
    (hs : ∀ x, foldedSetIterable iter X.env x = pure x := by intro _; rfl) : PE X (.ListComp elt [⟨tg, iter, ifs, 0⟩] scope pos) (tLc own ix wi g tt te) := by
  intro pins s σ H Q I h
  have hnames : ∀ y ∈ scope.names, y.2 = NameKind.local → scope.names.lookup y.1 = some .local := fun y hy e => by
    have := List.all_eq_true.mp B.loc y hy
    rw [e] at this
    simpa using this
  rw [eval_ListComp]
  refine wpAny_comprehension_free (use := none) rfl hs (closureFor_go fun y hy e => (B.has I y hy e).2) B.kind hnames (thn (hi pins s σ H _ I h) fun v s1 h1 => thn h1 fun itv s2 h2 => ?_)
  obtain ⟨it, fp, tn, J, H2, e, I2, T, st2, f2, rd⟩ := h2
  subst e
  refine blk_run (Q := Q) (RR := fun acc C => compPost (model X.prog X.w) X.A X.xe none (EP X pins σ Q) acc C) B (fun C s H => hin C fp s H) I2 T st2 f2 rd ?_
  intro D C H' s' m I' hn hC hL hsz hce hpi q
  exact ⟨m, hn, fun h' sb => ⟨.ref D, H', I'.turned (t' := s'.toks) (fun b o hb e => (sb.2 b hb).trans e) hC hL (.inr hsz) hce hpi, rfl, q⟩⟩
theorem ps_setLC {i : Nat} {x : Str} {elt tg iter : Expr} {ifs : List Expr} {pos pos' spos : Pos} {wi : TI} {g : TG} {tt : TT} {te : TE} (hN : X.N.Nodup) (hxi : X.N[i]? = some x) (hx : Loc X.env.scope x) (own : Nat) (N : List Str) (ix : List Nat) (B : BlkOk X own N ix scope) (hi : PI X tg iter wi)
    (hin : ∀ (C : Addr) (fp : List Addr) (s : Shared) (H : Hp), PG (X.blk N scope C fp s H) tg g ∧ PIf (X.blk N scope C fp s H) ifs tt ∧ PE (X.blk N scope C fp s H) elt te)
    (hsw : swapsWith (.ListComp elt [⟨tg, iter, ifs, 0⟩] scope pos) (some (.Name x pos')) spos.line X.env = pure true := by rfl) (hs : ∀ x, foldedSetIterable iter X.env x = pure x := by intro _; rfl)
    (hfn : X.fn x = true ∨ X.env.scope.names.lookup x = some .local := by first | exact .inl rfl | exact .inr rfl) : PS X (.Assign [.Name x pos'] (.ListComp elt [⟨tg, iter, ifs, 0⟩] scope pos) spos) (tAsg (tLc own ix wi g tt te) (gName i)) := by
  intro pins s σ H D0 I h
  have hnames : ∀ y ∈ scope.names, y.2 = NameKind.local → scope.names.lookup y.1 = some .local := fun y hy e => by
    have := List.all_eq_true.mp B.loc y hy
    rw [e] at this
    simpa using this
  rw [exec_Assign_Name_used _ _ _ _ hsw]
  refine wpAny_bind (wpAny_standAt (wpAny_bind ?_))
  show wpAny _ X.A (do let _ ← comprehension (.ListComp elt [⟨tg, iter, ifs, 0⟩] scope pos) scope X.env _ (newList []) false (eval iter X.env) (some (assign (.Name x pos') X.env))) _ _ s
  refine wpAny_bind (thn (wpAny_comprehension_free (use := some (assign (.Name x pos') X.env)) (Q := fun _ s' => SP X pins D0 .next s') rfl hs (closureFor_go fun y hy e => (B.has I y hy e).2) B.kind hnames (thn (hi pins s σ H _ I h) fun v s1 h1 => thn h1 fun itv s2 h2 => ?_)) fun _ s' hq => wpAny_pure (wpAny_pure hq))
  obtain ⟨it, fp, tn, J, H2, e, I2, T, st2, f2, rd⟩ := h2
  subst e
  refine blk_run (Q := fun v H' => gName i v σ H' D0.nx) (RR := fun acc C => compPost (model X.prog X.w) X.A X.xe (some (assign (.Name x pos') X.env)) (fun _ s' => SP X pins D0 .next s') acc C) B (fun C s H => hin C fp s H) I2 T st2 f2 rd ?_
  intro D C H' s' m I' hn hC hL hsz hce hpi q
  show wpAny _ X.A (assign (.Name x pos') X.env (.ref D)) _ _ s'
  refine wpAny_assign_Name (store_ok2 I' hN hxi hx (v := .ref D) rfl (fun s'' I'' ⟨a, sb, ha⟩ => ?_) hfn)
  refine ⟨m, hn.sameBut sb ?_, fun h' sb' => ⟨_, H', I''.turned (t' := s''.toks) (fun b o hb e => (sb'.2 b hb).trans e) hC hL (.inr hsz) hce hpi, q⟩⟩
  rcases ha with e | e
  · rw [e]; exact hL
  · exact Ne.symm (hce x a e)
end
end L2
namespace L2
open PySem PySem.Spec PyProof.Rows
theorem range_all (bs : List Bool) : (List.range bs.length).all (fun i => (bs[i]?).getD true) = bs.all id := by
  rw [Bool.eq_iff_iff, List.all_eq_true, List.all_eq_true]
  constructor
  · intro h b hb
    obtain ⟨i, hi, e⟩ := List.mem_iff_getElem.mp hb
    have z := h i (List.mem_range.mpr hi)
    rw [List.getElem?_eq_getElem hi, e] at z
    exact z
  · intro h i hi
    have hi' := List.mem_range.mp hi
    rw [List.getElem?_eq_getElem hi']
    exact h _ (List.getElem_mem hi')
section
variable {X : Cx}
def rAll (K : PySem.W.Frag) : List V → Hp → VK → Prop := fun xs H Q => ∃ (p : Addr) (bs : List Bool), xs = [.ref p] ∧ SqL K H p (bs.map V.bl) ∧ Q (.bl (bs.all id)) H
theorem call_all (hc : X.calm = true) : CallR X (.builtin "all") (rAll X.K) := by
  intro pins s σ H xs us Q I r h
  obtain ⟨p, bs, rfl, hS, q⟩ := h
  obtain ⟨u, rfl, ru⟩ := vals1 r
  cases ru
  obtain ⟨its, rv, pl, hz⟩ := I.list hS
  have hlen : its.toArray.size = bs.length := by
    have := rv.length
    simp at this
    simp [this]
  have hlt : p < s.heap.objs.size := by obtain ⟨o, n, e, _⟩ := pl; exact Heap.lt_size e
  refine call_all_walk (wpAny_pyIter_list pl.isList ?_)
  refine ⟨s.heap.objs.size, _, _, its.toArray.size, _, _, fun i => (bs[i]?).getD true, rfl, Walks.list (show X.A.in1.handled = none from I.ok.hd hc) _ _ (Nat.ne_of_lt hlt) its.toArray, ⟨⟨_, Heap.get?_push_size _ rfl, rfl, rfl⟩, pl.isList.push _⟩, ?_, fun h' tk k => ?_⟩
  · intro i v s' Q' E' hv hq
    have hi : i < bs.length := by
      rw [← hlen]
      exact (Array.getElem?_eq_some_iff.mp hv).1
    obtain ⟨u', hu', ru'⟩ := rv.get (i := i) (x := .bl bs[i]) (by rw [List.getElem?_map, List.getElem?_eq_getElem hi]; rfl)
    have e : its[i]? = some v := by simpa using hv
    rw [hu'] at e
    cases e
    cases ru'
    have hq' : Q' ((bs[i]?).getD true) s' := hq
    rw [List.getElem?_eq_getElem hi] at hq'
    exact wpAny_truthy_bool hq'
  · rw [hlen, range_all]
    exact ⟨.bl _, H, I.kept (t' := tk) fun b o e => k b o (by simpa using Nat.ne_of_lt (Heap.lt_size e)) (Heap.get?_push_of_some _ e), rfl, q⟩
def rCatS (K : PySem.W.Frag) : R2 := fun x y H Q => ∃ l b xs zs, x = .ref l ∧ y = .ref b ∧ SqL K H l xs ∧ SqL K H b zs ∧ xs.length + zs.length ≤ sizeLine ∧ ∀ p, H p = none → Q (.ref p) (upd H p (.lst (xs ++ zs)))
theorem op_catS : OpR X (binaryOp .Add) (rCatS X.K) := by
  intro pins s σ H x y v u Q I rx ry h
  obtain ⟨l, b, xs, zs, rfl, rfl, hH, hB, hz, q⟩ := h
  cases rx
  cases ry
  obtain ⟨its, r, ⟨⟨c1, d1, a1, sl1⟩, n, e, rfl, rfl, rfl⟩, z⟩ := I.list hH
  obtain ⟨its2, r2, ⟨⟨c2, d2, a2, sl2⟩, n2, e2, rfl, rfl, rfl⟩, z2⟩ := I.list hB
  have hl := r.length
  have hl2 := r2.length
  refine concat_meets ⟨_, e, rfl⟩ ⟨_, e2, rfl⟩ noFill_list_add seq_list_add PySem.F.slot_list_add PySem.F.entry_list_add (PySem.F.args_list_add_2 _ _)
    (list_addW l b its.toArray its2.toArray n n2 none none sl1 sl2 (by rw [List.size_toArray, List.size_toArray]; omega)) ⟨e, e2, ?_⟩
  rw [show its.toArray ++ its2.toArray = (its ++ its2).toArray by simp]
  exact ⟨.ref _, _, I.lnew (t' := s.toks) (r.append r2) (by rw [List.length_append]; omega), rfl, q _ I.fresh⟩
end
def Itv (K : PySem.W.Frag) (a : Addr) (xs : List V) : It :=
  ⟨fun i H => i < xs.length ∧ SqL K H a xs, fun i H x H' => H' = H ∧ xs[xs.length - 1 - i]? = some x, fun i _ => i = xs.length⟩
theorem turn_rev {P : Program} {w : World} {K : PySem.W.Frag} {tg : Expr} (a it : Addr) (xs : List V) : Turn P w K tg (Itv K a xs) [it] it (fun i h => i ≤ xs.length ∧ h.IsRevIter it a ((xs.length : Int) - 1 - (i : Int))) where
  mem := by simp
  obj := fun i h st b hb => by
    have e : b = it := by simpa using hb
    subst e
    obtain ⟨_, o, e, c, d⟩ := st
    exact ⟨o, e, fun v z => by rw [d] at z; cases z⟩
  keep := fun i h h' st k => ⟨st.1, st.2.at fun o e => k it (by simp) o e⟩
  item := by
    intro X hP hw hK hc i pins s σ H E I hf st hg
    subst hP hw hK
    obtain ⟨hi, hq⟩ := hg
    obtain ⟨its, rv, p, hz⟩ := I.list hq
    have hx : xs[xs.length - 1 - i]? = some (xs[xs.length - 1 - i]'(by omega)) := List.getElem?_eq_getElem (by omega)
    obtain ⟨u, hu, ru⟩ := rv.get hx
    obtain ⟨f0, f1, f2, f3, f4, f5⟩ := hf it (by simp)
    have e : (xs.length : Int) - 1 - (i : Int) = ((xs.length - 1 - i : Nat) : Int) := by omega
    have st2 := st.2
    rw [e] at st2
    refine wpAny_pyNext_rev_item st2 p.isList (x := u) (by simpa using hu) fun h' st' sb => ?_
    have I1 : Inv X pins σ H { s with heap := h' } := I.turned (t' := s.toks) (fun b o hb e => (sb.2 b hb).trans e) f0 f1 f3 f4 f5
    obtain ⟨o, e1, c, d⟩ := id st'
    have e2 : ((xs.length - 1 - i : Nat) : Int) - 1 = (xs.length : Int) - 1 - ((i + 1 : Nat) : Int) := by omega
    rw [e2] at st'
    exact ⟨u, rfl, go_of (s := { s with heap := h' }) e1 c d (by decide) ⟨_, H, I1, ru, ⟨rfl, hx⟩, ⟨hi, st'⟩, fun b hb => (hf b hb).1⟩⟩
  done := by
    intro X hP hw hK hc i pins s σ H E I hf st hg
    subst hP hw hK
    have hi : i = xs.length := hg
    obtain ⟨f0, f1, f2, f3, f4, f5⟩ := hf it (by simp)
    have e : (xs.length : Int) - 1 - (i : Int) = -1 := by omega
    have st2 := st.2
    rw [e] at st2
    exact wpAny_pyNext_rev_end (I.ok.hd hc) st2 fun h' eb => ⟨rfl, I.turned (t' := s.toks) (fun b o hb e => eb b o hb e) f0 f1 f3 f4 f5⟩
  self := fun _ _ _ _ _ st h => wpAny_pyIter_revIter st.2 h
section
variable {X : Cx} {tg : Expr}
def iRev (K : PySem.W.Frag) (ta : TA) : TI := fun σ H R => ta σ H fun vs H1 => ∃ a xs, vs = [.ref a] ∧ SqL K H1 a xs ∧ R (Itv K a xs) H1
theorem pi_rev {a : Expr} {ta : TA} {p pos : Pos} (hg : Gl X "reversed") (hm : X.mg "reversed" = none) (ha : PA X [a] ta) (hs : starEach [a] X.env = [(false, eval a X.env)] := by rfl) : PI X tg (.Call (.Name "reversed" p) [a] [] pos) (iRev X.K ta) := by
  intro pins s σ H R I h
  refine Call_ (ld_blt I hg hm bt_reversed (PyProof.Rows.callWith_type1 (thn (ha pos pins s σ H _ I h) fun us s1 ⟨vs, H1, I1, r1, q1⟩ => ?_) hs rfl))
  obtain ⟨b, xs, rfl, hq, q⟩ := q1
  obtain ⟨u, rfl, ru⟩ := vals1 r1
  cases ru
  obtain ⟨its, rv, pl, hz⟩ := I1.list hq
  refine call_reversed_list pl.isList ?_
  have hit : (s1.heap.push (revObj b ((its.toArray.size : Int) - 1))).IsRevIter s1.heap.objs.size b ((its.toArray.size : Int) - 1) := ⟨_, Heap.get?_push_size _ rfl, rfl, rfl⟩
  refine wpAny_pyIter_revIter hit ?_
  have hl : its.toArray.size = xs.length := by have := rv.length; simp [this]
  refine ⟨s1.heap.objs.size, [s1.heap.objs.size], _, _, H1, rfl, I1.kept (t' := s1.toks) fun b o e => Heap.get?_push_of_some _ e, turn_rev b _ xs, ⟨Nat.zero_le _, ?_⟩, fun c hb => ?_, q⟩
  · have e : (xs.length : Int) - 1 - ((0 : Nat) : Int) = (its.toArray.size : Int) - 1 := by omega
    rw [e]
    exact hit
  · have e : c = s1.heap.objs.size := by simpa using hb
    subst e
    exact I1.fpOk (Nat.le_refl _) (I1.hok.fresh (Nat.le_refl _))
end
theorem for_rev {K : PySem.W.Frag} {a : Addr} {xs : List V} {g : TG} {tb : TS} {D : Ends} {σ : St} {H : Hp} (Pv : Nat → St → Hp → Prop) (h0 : Pv 0 σ H) (hl : ∀ i σ H, i ≤ xs.length → Pv i σ H → SqL K H a xs)
    (hs : ∀ i x σ H, xs.reverse[i]? = some x → Pv i σ H → g x σ H fun σ2 H2 => tb { D with nx := Pv (i + 1), ct := Pv (i + 1), bk := D.nx } σ2 H2) (hd : ∀ σ H, Pv xs.length σ H → D.nx σ H) :
    ∃ W : Nat → Nat → St → Hp → Prop, (∃ m, W 0 m σ H) ∧ ∀ i m σ H, W i m σ H →
      ((Itv K a xs).stop i H ∧ D.nx σ H) ∨ ((Itv K a xs).go i H ∧ ∃ N : St → Hp → Prop, (∀ σ' H', N σ' H' → ∃ m', m' < m ∧ W (i + 1) m' σ' H') ∧ ∀ x H', (Itv K a xs).yld i H x H' → g x σ H' fun σ2 H2 => tb { D with nx := N, ct := N, bk := D.nx } σ2 H2) := by
  refine ⟨fun i m σ H => m = xs.length - i ∧ i ≤ xs.length ∧ Pv i σ H, ⟨xs.length, by simp, Nat.zero_le _, h0⟩, ?_⟩
  rintro i m σ H ⟨rfl, hi, p⟩
  by_cases hlt : i < xs.length
  · refine .inr ⟨⟨hlt, hl i σ H hi p⟩, Pv (i + 1), fun σ' H' p' => ⟨xs.length - (i + 1), by omega, rfl, hlt, p'⟩, fun x H' y => ?_⟩
    obtain ⟨e, y⟩ := y
    subst e
    exact hs i x σ _ (by rw [List.getElem?_reverse hlt]; exact y) p
  · have e : i = xs.length := by omega
    subst e
    exact .inl ⟨rfl, hd σ H p⟩
end L2
namespace L2
open PySem PySem.Spec PyProof.Rows
def DiD (K : PySem.W.Frag) (w : World) (d : Addr) (kds : List (Str × PyData)) : Prop :=
  (d == sysModules) = false ∧ ∃ (o : Obj) (vs : List (Str × Value)), K.lookup d = some o ∧ (∀ P : Program, o.IsDictOf (strKind P w) vs) ∧
    Paired (fun a b => a.1 = b.1 ∧ ∃ v, RelV v a.2 ∧ ∀ H : Hp, RdV K H v b.2) vs kds
def getP (kds : List (Str × PyData)) (k : Str) : Option PyData := (kds.find? fun kv => decide (kv.1 = k)).map (·.2)
theorem paired_get {K : PySem.W.Frag} {vs : List (Str × Value)} {kds : List (Str × PyData)} (k : Str) (h : Paired (fun a b => a.1 = b.1 ∧ ∃ v, RelV v a.2 ∧ ∀ H : Hp, RdV K H v b.2) vs kds) :
    (valueAt vs k = none ∧ getP kds k = none) ∨ ∃ u d v, valueAt vs k = some u ∧ getP kds k = some d ∧ RelV v u ∧ ∀ H : Hp, RdV K H v d := by
  induction h with
  | nil => exact .inl ⟨rfl, rfl⟩
  | @cons a b as bs hab t ih =>
    obtain ⟨e, v, h1, h2⟩ := hab
    by_cases q : a.1 = k
    · refine .inr ⟨a.2, b.2, v, ?_, ?_, h1, h2⟩
      · unfold valueAt; rw [List.find?_cons_of_pos (by simpa using q)]; rfl
      · unfold getP; rw [List.find?_cons_of_pos (by simpa [← e] using q)]; rfl
    · have e1 : valueAt (a :: as) k = valueAt as k := by unfold valueAt; rw [List.find?_cons_of_neg (by simpa using q)]
      have e2 : getP (b :: bs) k = getP bs k := by unfold getP; rw [List.find?_cons_of_neg (by simpa [← e] using q)]
      rw [e1, e2]
      exact ih
def entC (w : World) (e : Str × Tok × Value) : DictEntry := { hash := PyData.keyHash w.params e.1, key := .str e.1 e.2.1, val := e.2.2 }
theorem diD_of {K : PySem.W.Frag} {w : World} {d : Addr} {ep : Nat} {ent : List (Str × Tok × Value)} {kds : List (Str × PyData)} (hd : (d == sysModules) = false)
    (lk : K.lookup d = some { cls := .type "dict", data := .dict (ent.map (entC w)).toArray ep }) (nd : (ent.map (·.1)).Nodup)
    (h : Paired (fun (e : Str × Tok × Value) (kd : Str × PyData) => e.1 = kd.1 ∧ ∃ v, RelV v e.2.2 ∧ ∀ H : Hp, RdV K H v kd.2) ent kds) : DiD K w d kds := by
  refine ⟨hd, _, ent.map (fun e => (e.1, e.2.2)), lk, fun P => ⟨_, ep, ⟨rfl, rfl, rfl⟩, rfl, ?_, ?_, ?_⟩, ?_⟩
  · intro e he
    simp at he
    obtain ⟨a, b, c, _, rfl⟩ := he
    exact ⟨a, strKind_is _ _ _ _, rfl⟩
  · show Pairs _ (ent.map (entC w)) _
    clear h nd lk
    induction ent with
    | nil => exact .nil
    | cons e r ih => exact .cons (strKind_is _ _ _ _) rfl ih
  · rw [List.map_map]
    exact nd
  · clear lk nd
    induction h with
    | nil => exact .nil
    | cons a t ih => exact .cons a ih
theorem rdK_tup {K : PySem.W.Frag} {r : Addr} {its : List Value} {ds : List PyData} (lk : K.lookup r = some { cls := .type "tuple", data := .seq its.toArray 0 }) (hz : its.length ≤ sizeLine)
    (h : Paired (fun u d => ∃ v, RelV v u ∧ ∀ H : Hp, RdV K H v d) its ds) : ∃ v, RelV v (.ref r) ∧ ∀ H : Hp, RdV K H v (.tuple ds) := by
  have key : ∃ xs : List V, Vals xs its ∧ ∀ H : Hp, RdAll K H xs ds := by
    clear lk hz
    induction h with
    | nil => exact ⟨[], .nil, fun H => RdAll.nil⟩
    | cons a t ih =>
      obtain ⟨v, h1, h2⟩ := a
      obtain ⟨xs, g1, g2⟩ := ih
      exact ⟨v :: xs, .cons h1 g1, fun H => RdAll.cons (h2 H) (g2 H)⟩
  obtain ⟨xs, h1, h2⟩ := key
  exact ⟨.ref r, rfl, fun H => .tup' (.inr ⟨_, its.toArray, 0, lk, rfl, rfl, by simpa using hz, h1⟩) (h2 H)⟩
theorem rdK_ref {K : PySem.W.Frag} {r : Addr} {d : PyData} (h : ∃ v, RelV v (.ref r) ∧ ∀ H : Hp, RdV K H v d) : ∀ H : Hp, RdV K H (.ref r) d := by
  obtain ⟨v, h1, h2⟩ := h
  intro H
  cases v <;> simp [RelV] at h1
  subst h1
  exact h2 H
theorem rdK_str {K : PySem.W.Frag} {x : Str} {t : Tok} : ∃ v, RelV v (.str x t) ∧ ∀ H : Hp, RdV K H v (.str x) := ⟨.str x, ⟨t, rfl⟩, fun _ => .str x⟩
theorem rdK_int {K : PySem.W.Frag} {i : Int} {t : Tok} : ∃ v, RelV v (.int i t) ∧ ∀ H : Hp, RdV K H v (.int i) := ⟨.int i, ⟨t, rfl⟩, fun _ => .int i⟩
section
variable {X : Cx}
theorem DiD.at {K : PySem.W.Frag} {pins : List (Addr × Obj)} {σ : St} {H : Hp} {s : Shared} {w : World} {d : Addr} {kds : List (Str × PyData)} (hK : X.K = K) (I : Inv X pins σ H s) (h : DiD K w d kds) :
    (d == sysModules) = false ∧ ∃ vs, (∀ P, s.heap.DictOf (strKind P w) d vs) ∧ Paired (fun a b => a.1 = b.1 ∧ ∃ v, RelV v a.2 ∧ ∀ H : Hp, RdV K H v b.2) vs kds := by
  obtain ⟨h0, o, vs, lk, hd, hp⟩ := h
  subst hK
  exact ⟨h0, vs, fun P => Heap.dictOf_iff.mpr ⟨o, I.kIn d o lk, hd P⟩, hp⟩
def rInK (K : PySem.W.Frag) (w : World) (neg : Bool) : R2 := fun x y H Q => ∃ d kds k, y = .ref d ∧ x = .str k ∧ DiD K w d kds ∧ Q (.bl (if neg then !(getP kds k).isSome else (getP kds k).isSome)) H
theorem op_inK : OpR X (compareOp .In) (rInK X.K X.w false) := by
  intro pins s σ H x y v u Q I rx ry h
  obtain ⟨d, kds, k, rfl, rfl, hd, q⟩ := h
  cases ry
  obtain ⟨t, rfl⟩ := rx
  obtain ⟨h0, vs, hm, hp⟩ := hd.at rfl I
  refine wpAny_in_of (strKind_is X.prog X.w k t) h0 (hm X.prog).mapOf ⟨.bl _, H, I.tok _, rfl, ?_⟩
  have e : (valueAt vs k).isSome = (getP kds k).isSome := by
    rcases paired_get k hp with ⟨a, b⟩ | ⟨_, _, _, a, b, _⟩ <;> rw [a, b] <;> rfl
  rw [e]
  exact q
def rIxK (K : PySem.W.Frag) (w : World) : R2 := fun x y H Q => ∃ d kds k dt, x = .ref d ∧ y = .str k ∧ DiD K w d kds ∧ getP kds k = some dt ∧ ∀ v : V, (∀ H : Hp, RdV K H v dt) → Q v H
theorem ix_dictK : IxR X (rIxK X.K X.w) := by
  intro value slice pins s σ H x y v u Q I rx ry h hs
  obtain ⟨d, kds, k, dt, rfl, rfl, hd, hg, q⟩ := h
  cases rx
  obtain ⟨t, rfl⟩ := ry
  obtain ⟨h0, vs, hm, hp⟩ := hd.at rfl I
  rcases paired_get k hp with ⟨a, b⟩ | ⟨u, e, z, a, b, c1, c2⟩
  · rw [b] at hg; cases hg
  · rw [b] at hg
    cases hg
    exact subscriptTail_builtinR (x := u) (hm X.prog).mapOf.typeIs slot_dict_getitem.lookup
      (wpAny_getItem_of (Q := fun r s' => r = u ∧ EP X pins σ Q r s') (strKind_is X.prog X.w k t) (hm X.prog).mapOf a ⟨rfl, ⟨z, H, I.tok _, c1, q z c2⟩⟩) hs
def tGetK (K : PySem.W.Frag) (w : World) (to : TE) (t : TA) : TE := fun σ H Q => to σ H fun x H1 => ∃ d kds, x = .ref d ∧ DiD K w d kds ∧ t σ H1 fun xs H2 => ∃ k z, xs = [.str k, z] ∧ (getP kds k = none → Q z H2) ∧
  ∀ dt, getP kds k = some dt → ∀ v : V, (∀ H : Hp, RdV K H v dt) → Q v H2
variable {o e : Expr} {es : List Expr} {to : TE} {t : TA} {apos cpos : Pos}
theorem pe_getK (ho : PE X o to) (ha : PA X (e :: es) t)
    (hbase : attributeBase o "get" X.env (eval o X.env) = eval o X.env := by rfl)
    (hfew : ((backTo cpos (starEach (e :: es) X.env)).all (fun x => !x.1) && (backToKw cpos (keywordEach [] X.env)).all (fun x => x.1.isSome)
      && decide ((e :: es).length + ([] : List Keyword).length + (if ([] : List Keyword).isEmpty then 0 else 1) < 30)) = true := by rfl)
    (hline : (apos.endLine == cpos.line) = true := by rfl) (hs : starEach (e :: es) X.env = (false, eval e X.env) :: starEach es X.env := by rfl) (hplain : (backTo cpos (starEach es X.env)).any (·.1) = false := by rfl) :
    PE X (.Call (.Attribute o "get" apos) (e :: es) [] cpos) (tGetK X.K X.w to t) := by
  intro pins s σ H Q I h
  refine wpAny_Call_method_late hbase hfew hline rfl (thn (ho pins s σ H _ I h) fun v s1 ⟨x, H1, I1, r1, d, kds, ex, hd, q1⟩ => ?_)
  subst ex
  cases r1
  obtain ⟨h0, vs, hm, hp⟩ := hd.at rfl I1
  refine ⟨"dict", "dict.get", PySem.F.plainAttrs_dict, PySem.F.slot_dict_get, PySem.F.type_dict_get, (hm X.prog).mapOf.typeIs, fun b eb => ?_, ?_⟩
  · cases eb
    obtain ⟨ob, _, _, g1, g2, _⟩ := hm X.prog
    exact ⟨ob, g1, g2.2.1⟩
  have hA := ha cpos pins s1 σ H1 _ I1 q1
  rw [hs] at hA ⊢
  refine Calls.callWith_builtin (by show (false || (backTo cpos (starEach es X.env)).any (·.1)) = false; rw [hplain] <;> rfl) (Calls.evalArgs_plain ?_)
  refine thn hA fun us s2 ⟨ws, H2, I2, r2, k, z, ez, q2, q3⟩ => ?_
  subst ez
  obtain ⟨u1, u2, rfl, ru1, ru2⟩ := vals2 r2
  obtain ⟨tk, rfl⟩ := ru1
  obtain ⟨h0, vs, hm, hp⟩ := hd.at rfl I2
  refine call_meetsIn PySem.F.slot_dict_get (hm X.prog).mapOf.typeIs PySem.F.entry_dict_get (PySem.F.args_dict_get_3 _ _ _) (meets_dict_get_default (strKind X.prog X.w) d (strKind_is X.prog X.w k tk) h0 u2) ⟨_, (hm X.prog).mapOf, ?_⟩
  rcases paired_get k hp with ⟨a, b⟩ | ⟨u, dt, v, a, b, c1, c2⟩
  · rw [a]
    exact ⟨z, H2, I2.tok _, ru2, q2 b⟩
  · rw [a]
    exact ⟨v, H2, I2.tok _, c1, q3 dt b v c2⟩
end
end L2
namespace L2
open PySem PySem.Spec PyProof.Rows
def sqAt (q : Bool) (h : Heap) (a : Addr) (its : Array Value) : Prop := match q with | true => h.IsList a its | false => h.IsTuple a its
def itAt (q : Bool) (h : Heap) (it a : Addr) (i : Nat) : Prop := match q with | true => h.IsListIter it a i | false => h.IsTupleIter it a i
theorem sqAt.at {q : Bool} {h h' : Heap} {a : Addr} {its : Array Value} (x : sqAt q h a its) (e : ∀ o, h.get? a = some o → h'.get? a = some o) : sqAt q h' a its := by
  cases q <;> (obtain ⟨o, ho, r⟩ := x; exact ⟨o, e _ ho, r⟩)
theorem itAt.at {q : Bool} {h h' : Heap} {it a : Addr} {i : Nat} (x : itAt q h it a i) (e : ∀ o, h.get? it = some o → h'.get? it = some o) : itAt q h' it a i := by
  cases q <;> (obtain ⟨o, ho, r⟩ := x; exact ⟨o, e _ ho, r⟩)
theorem itAt.obj {q : Bool} {h : Heap} {it a : Addr} {i : Nat} (x : itAt q h it a i) : ∃ o, h.get? it = some o ∧ ∀ v, o.data ≠ .cell v := by
  cases q <;> (obtain ⟨o, ho, c, d⟩ := x; exact ⟨o, ho, fun v z => by rw [d] at z; cases z⟩)
section
variable {prog : Program} {w : World} {A : Around} {E : Value → Shared → Prop} {s : Shared}
variable {q1 q2 : Bool} {z TI TO i1 i2 l1 l2 : Addr} {k1 k2 : Nat} {xs ys : Array Value} {x y a b : Value}
end
section
variable {prog : Program} {w : World} {A : Around} {E : Value → Shared → Prop} {s : Shared} {q1 q2 : Bool}
end
def sqV (q : Bool) (K : PySem.W.Frag) (H : Hp) (a : Addr) (xs : List V) : Prop := match q with | true => SqL K H a xs | false => SqT K H a xs
theorem sqV.heap {X : Cx} {pins : List (Addr × Obj)} {σ : St} {H : Hp} {s : Shared} {q : Bool} {a : Addr} {xs : List V} (I : Inv X pins σ H s) (h : sqV q X.K H a xs) : ∃ its : List Value, Vals xs its ∧ sqAt q s.heap a its.toArray := by
  cases q with
  | true => obtain ⟨its, r, p, _⟩ := I.list h; exact ⟨its, r, p.isList⟩
  | false => obtain ⟨its, r, p, _⟩ := I.tuple h; exact ⟨its, r, p⟩
theorem sqAt.lt {q : Bool} {h : Heap} {a : Addr} {its : Array Value} (x : sqAt q h a its) : a < h.objs.size := by
  cases q <;> (obtain ⟨o, ho, r⟩ := x; exact Heap.lt_size ho)
theorem itAt.lt {q : Bool} {h : Heap} {it a : Addr} {i : Nat} (x : itAt q h it a i) : it < h.objs.size := by
  obtain ⟨o, ho, _⟩ := x.obj; exact Heap.lt_size ho
section
variable {X : Cx}
end
end L2
namespace L2
open PySem PySem.Spec PyProof.Rows
theorem same_fresh {H : Hp} {p : Addr} (h : H p = none) (o : HO) : Same H (upd H p o) := fun b u q => by rw [upd_ne (ne_of_none q h)]; exact q
section
variable {prog : Program} {w : World} {A : Around} {E : Value → Shared → Prop} {s : Shared}
theorem cut_whole {t sl : Addr} {items : Array Value} {vl vu : Value} {lo hi : Option Int} {Q : Value → Shared → Prop} (ht : IsTup s.heap t items) (hs : s.heap.IsSliceOf sl vl vu .none) (pl : IsPart vl lo) (pu : IsPart vu hi)
    (hw : HT.sIx items.size 0 lo = 0 ∧ HT.sIx items.size items.size hi = items.size) (h : Q (.ref t) s) : wpAny (model prog w) A (getItem (.ref t) (.ref sl)) Q E s := by
  obtain ⟨os, hos, hcs, hds⟩ := id hs
  have hTs : s.TypeIs (.ref sl) "slice" := ⟨os, hos, hcs⟩
  unfold getItem
  try with_reducible refine wpAny_holding ?_
  first | refine wpAny_bind (wpAny_pure ?_) | skip
  refine wpAny_bind (wpAny_sequenceKey ht.typeIs (by decide) ?_)
  refine wpAny_bind (wpAny_callSpecial?_slot (name := Str.ofString "__getitem__") ht.typeIs PyProof.Rows.slot_tuple_getitem (wpAny_call_entry PyProof.Rows.slot_tuple_getitem ht.typeIs entry_tuple_getitem ?_ (args_tuple_getitem _ _)))
  show wpAny _ _ (Builtin.Tuple.tupleItemsOf (.ref t) >>= _) _ _ s
  refine wpAny_bind (tupleItemsOf_ ht (wpAny_bind (wpAny_typeOf hTs ?_)))
  rw [if_pos (by decide)]
  refine wpAny_bind (HT.sliceApplied_gen hs pl pu ?_)
  show wpAny _ _ (if (((HT.sIx items.size 0 lo : Nat) : Int) == 0 && (1 : Int) == 1 && (HT.sIx items.size items.size hi - HT.sIx items.size 0 lo) == items.size) = true then _ else _) _ _ s
  rw [if_pos (by rw [hw.1, hw.2]; simp)]
  unfold Builtin.Tuple.tupleIsExact
  refine wpAny_bind (wpAny_bind (wpAny_typeOf ht.typeIs (wpAny_pure ?_)))
  rw [if_pos (by decide)]
  exact wpAny_bind (wpAny_rule (wpAny_pure ⟨_, rfl, wpAny_pure h⟩))
end
section
variable {X : Cx}
def rSlG (K : PySem.W.Frag) : V → Option Int → Option Int → Hp → VK → Prop := fun x lo hi H Q => ∃ a xs, x = .ref a ∧ SqT K H a xs ∧ ∀ p H', Same H H' → SqT K H' p (cutV xs lo hi) → Q (.ref p) H'
theorem sl_tupG : SlR X (rSlG X.K) := by
  intro pins s σ H x v vl vu lo hi sl Q I rx hs pl pu h
  obtain ⟨a, xs, rfl, hx, q⟩ := h
  by_cases hw : HT.sIx xs.length 0 lo = 0 ∧ HT.sIx xs.length xs.length hi = xs.length
  · cases rx
    obtain ⟨its, r, ht, hz⟩ := I.tuple hx
    have hlen : its.toArray.size = xs.length := by rw [List.size_toArray]; exact r.length.symm
    refine ⟨"tuple", _, PyProof.Rows.slot_tuple_getitem.lookup, ht.typeIs, cut_whole ht hs pl pu (by rw [hlen]; exact hw) ⟨.ref a, H, I, rfl, q a H (Same.refl _) ?_⟩⟩
    have e : cutV xs lo hi = xs := by unfold cutV; rw [hw.1, hw.2]; simp
    rw [e]; exact hx
  · exact sl_tup pins s σ H _ v vl vu lo hi sl Q I rx hs pl pu ⟨a, xs, rfl, hx, hw, fun p hp => q p _ (same_fresh hp _) (SqT.of upd_same)⟩
def rCatG (K : PySem.W.Frag) : R2 := fun x y H Q => ∃ a b xs ys, x = .ref a ∧ y = .ref b ∧ SqT K H a xs ∧ SqT K H b ys ∧ xs.length + ys.length ≤ sizeLine ∧ ∀ p H', Same H H' → SqT K H' p (xs ++ ys) → Q (.ref p) H'
theorem op_catG : OpR X (binaryOp .Add) (rCatG X.K) := by
  intro pins s σ H x y v u Q I rx ry h
  obtain ⟨a, b, xs, ys, rfl, rfl, ha, hb, hz, q⟩ := h
  by_cases hx : xs = []
  · subst hx
    cases rx
    cases ry
    obtain ⟨its, r1, p1, _⟩ := I.tuple ha
    obtain ⟨its2, r2, p2, _⟩ := I.tuple hb
    cases r1
    obtain ⟨⟨c1, d1, e1, sl1⟩, ho, hc, n, hd⟩ := id p1
    obtain ⟨⟨c2, d2, e2, sl2⟩, ho2, hc2, n2, hd2⟩ := id p2
    simp only at hc hd hc2 hd2
    subst hc hd hc2 hd2
    exact concat_meets ⟨_, ho, rfl⟩ ⟨_, ho2, rfl⟩ noFill_tuple_add seq_tuple_add PySem.F.slot_tuple_add PySem.F.entry_tuple_add (PySem.F.args_tuple_add_2 _ _)
      (tuple_addW0 a b _ its2.toArray n n2 d1 d2 sl1 sl2 (by simp)) ⟨ho, ho2, ⟨.ref b, H, I, rfl, q b H (Same.refl _) hb⟩⟩
  · exact op_catT pins s σ H _ _ v u Q I rx ry ⟨a, b, xs, ys, rfl, rfl, ha, hb, hx, hz, fun e => q a H (Same.refl _) (by rw [e, List.append_nil]; exact ha), fun _ p hp => q p _ (same_fresh hp _) (SqT.of upd_same)⟩
end
end L2
namespace L2
open PySem PySem.Spec PyProof.Rows
structure Fly (P : Program) (w : World) (fs : List Env) (H H' : Hp) (h0 B : Heap) (a : Addr) (cls a0 : Value) (h : Heap) : Prop where
  keep : ∀ b o, h0.get? b = some o → H b = none → b ∉ frs fs → B.get? b = some o
  there : ∀ b o, h0.get? b = some o → b ∉ frs fs → ∃ o', B.get? b = some o'
  slot : ∀ b o, h0.get? b = some o → b ∈ frs fs → ∃ sl, h.get? b = some { o with slots := sl }
  free : ∀ b o, h0.get? b = some o → H b = none → H' b = none
  tups : ∀ b xs, H b = some (.tup xs) → H' b = some (.tup xs)
  frzs : ∀ b o u, H b = some (.frz o u) → H' b = some (.frz o u)
  tbls : ∀ b ps, H b = some (.tbl ps) → ∃ more, H' b = some (.tbl (ps ++ more))
  hok : HOk P w H' B
  fly : Heap.FlyingW B fs a cls a0 h
section
variable {P : Program} {w : World} {fs : List Env} {H H' : Hp} {h0 B h h' : Heap} {a : Addr} {cls a0 : Value}
theorem Fly.un (F : Fly P w fs H H' h0 B a cls a0 h) : Un (frs fs) [] H H' h0 h where
  keep := fun b o e n hb _ => F.fly.1 b o (F.keep b o e n hb)
  slot := fun b o e _ hb _ => F.slot b o e hb
  free := fun b o e n _ => F.free b o e n
  there := fun b o e _ => by
    by_cases hb : b ∈ frs fs
    · obtain ⟨sl, q⟩ := F.slot b o e hb
      exact ⟨_, q⟩
    · obtain ⟨o', q⟩ := F.there b o e hb
      exact ⟨o', F.fly.1 b o' q⟩
  tups := F.tups
  frzs := F.frzs
  tbls := F.tbls
theorem Fly.new (F : Fly P w fs H H' h0 B a cls a0 h) : H' a = none := by
  cases q : H' a with
  | none => rfl
  | some u =>
    have := (F.hok a u q).lt
    have z := F.fly.2.1
    exact absurd z (by
      intro z
      have e : ∃ o, B.get? a = some o := by
        have ok := F.hok a u q
        cases u with
        | lst xs => obtain ⟨_, _, _, _, e⟩ := ok; exact ⟨_, e⟩
        | tup xs => obtain ⟨_, _, _, o, e, _⟩ := ok; exact ⟨_, e⟩
        | dK kvs => obtain ⟨_, _, _, _, o, _, _, e, _⟩ := ok; exact ⟨_, e⟩
        | dT kvs => obtain ⟨_, _, _, _, o, _, _, e, _⟩ := ok; exact ⟨_, e⟩
        | set S n => obtain ⟨o, _, _, _, e, _⟩ := ok; exact ⟨_, e⟩
        | ins C dx fs => obtain ⟨_, _, _, e, _⟩ := ok; exact ⟨_, e⟩
        | own y => exact ok
        | xd fs => obtain ⟨_, ⟨o, _, _, e, _⟩, _⟩ := ok; exact ⟨_, e⟩
        | rng lo hi => obtain ⟨_, _, _, e⟩ := ok; exact ⟨_, e⟩
        | frz ob u => obtain ⟨e, _⟩ := ok; exact ⟨_, e⟩
        | tbl ps => exact ⟨_, ok⟩
        | met f y => exact ⟨_, ok⟩
        | ext φ => obtain ⟨_, e, _⟩ := ok; exact e
      obtain ⟨o, e⟩ := e
      rw [z] at e
      cases e)
theorem Fly.on (F : Fly P w fs H H' h0 B a cls a0 h) (fl : Heap.FlyingW B fs a cls a0 h') (u : h.UpToSlots h') : Fly P w fs H H' h0 B a cls a0 h' :=
  ⟨F.keep, F.there, fun b o e hb => by
    obtain ⟨sl, q⟩ := F.slot b o e hb
    obtain ⟨_, o', ho', hn⟩ := F.fly.2.2.1.mem hb
    rw [q] at ho'
    have e1 := Option.some.inj ho'
    obtain ⟨sl', q'⟩ := u b _ q (by rw [e1]; exact hn)
    exact ⟨sl', q'⟩, F.free, F.tups, F.frzs, F.tbls, F.hok, fl⟩
end
section
variable {P : Program} {w : World} {K : PySem.W.Frag} {mg : Str → Option Value} {base : Heap} {N : List Str} {qual : Str} {scope : Scope} {f : Addr} {cd : Value} {A : Around} {outer : List Env} {s₀ : Shared} {H₀ : Hp} {E : XK}
end
section
variable {X : Cx} {x : Str} {C : Addr} {E : XK} {np cpos pos : Pos}
end
end L2
namespace L2
theorem cutW {G : Prop} {R : St → Hp → Prop} (P : St → Hp → Prop) (main : (∀ σ' H', P σ' H' → R σ' H') → G) (k : ∀ σ' H', P σ' H' → R σ' H') : G := main k
end L2
namespace L2
open PySem PySem.Spec PyProof.Rows
theorem vals_texts : ∀ l : List (Str × Tok), Vals ((l.map (·.1)).map V.str) (strValues l)
  | [] => .nil
  | (x, t) :: r => .cons ⟨t, rfl⟩ (vals_texts r)
section
variable {X : Cx}
def rSplit : V → List V → Hp → VK → Prop := fun v vs H Q => ∃ x y : Str, v = .str x ∧ vs = [.str y] ∧ (y.length == 0) = false ∧ x.length ≤ sizeLine ∧ (Builtin.Str.partsBetween x (Builtin.Str.occurrences x y 0 x.length (x.length + 1)) y.length).length ≤ sizeLine ∧ (Txt.split x y).length ≤ sizeLine ∧
  ∀ p, H p = none → Q (.ref p) (upd H p (.lst ((Txt.split x y).map V.str)))
theorem mt_split : MtR X "str.split" rSplit := by
  intro pins s σ H v vs u us Q I rx rv h
  obtain ⟨x, y, rfl, rfl, hy, hx, hp, hl, q⟩ := h
  obtain ⟨t, rfl⟩ := rx
  obtain ⟨u, rfl, k, rfl⟩ := vals1 rv
  have fin : ∀ (l : List (Str × Tok)) (tk : Nat), l.map (·.1) = Txt.split x y → EP X pins σ Q (.ref s.heap.objs.size) { s with toks := tk, heap := s.heap.push { cls := .type "list", data := .seq (strValues l).toArray } } := fun l tk e => by
    refine ⟨.ref s.heap.objs.size, _, I.laid (t' := tk) (fun b o e => Heap.get?_push_of_some _ e) (Nat.le_refl _) (show ObjOk X.prog X.w _ _ _ (.lst ((Txt.split x y).map V.str)) from ⟨by rw [List.length_map]; exact hl, strValues l, _, by rw [← e]; exact vals_texts l, Heap.get?_push_size _ rfl⟩), rfl, q _ (I.hok.fresh (Nat.le_refl _))⟩
  cases h1 : (decide (x.length < y.length) || decide (Builtin.Str.strKind x < Builtin.Str.strKind y))
  · cases hf : (Builtin.Str.occurrences x y 0 x.length (x.length + 1)).isEmpty
    · refine call_meets PySem.F.slot_str_split (typeIs_str _ _ _) PySem.F.entry_str_split (PySem.F.args_str_split_2 _ _) (meets_str_split_sep x y t k h1 hy hf hx hp) ?_
      show wants (EP X pins σ Q) X.xe _ { s with toks := _, heap := s.heap.push { cls := .type "list", data := .seq (strsFrom s.toks (Builtin.Str.partsBetween x (Builtin.Str.occurrences x y 0 x.length (x.length + 1)) y.length)).toArray } }
      rw [strsFrom_eq]
      exact fin (numbered s.toks _) _ ((numbered_texts _ _).trans ((if_neg (ne_true_of_eq_false h1)).trans (if_neg (ne_true_of_eq_false hf))).symm)
    · exact call_meets PySem.F.slot_str_split (typeIs_str _ _ _) PySem.F.entry_str_split (PySem.F.args_str_split_2 _ _) (meets_str_split_not_found x y t k h1 hy hf)
        (fin [(x, t)] _ ((if_neg (ne_true_of_eq_false h1)).trans (if_pos hf)).symm)
  · exact call_meets PySem.F.slot_str_split (typeIs_str _ _ _) PySem.F.entry_str_split (PySem.F.args_str_split_2 _ _) (meets_str_split_cannot_occur x y t k h1)
      (fin [(x, t)] _ (if_pos h1).symm)
end
end L2
namespace L2
open PySem PySem.Spec PyProof.Rows
theorem noFill_tuple_mul : fillsNumberSlot (.type "tuple") "mul" = pure false :=
  PySem.fillsNumberSlot_seq (id := "tuple.__mul__") (r := some (.builtin "tuple.__rmul__")) F.slot_tuple_mul.lookup (by decide +kernel) F.slot_tuple_rmul.lookup (by decide +kernel)
theorem repeat_tuple : seqRepeat? (.type "tuple") = pure (some (.builtin "tuple.__mul__")) := by
  unfold seqRepeat?
  rw [PySem.seqSlot_of (T := "tuple") (name := "__mul__") (id := "tuple.__mul__") F.slot_tuple_mul.lookup (by decide +kernel), PySem.seqSlot_of (T := "tuple") (name := "__rmul__") (id := "tuple.__rmul__") F.slot_tuple_rmul.lookup (by decide +kernel)]
  rfl
theorem int_rmul_tup (a : Int) (t : Tok) (l : Addr) (items : Array Value) (n : Nat) (d : Option Addr) (sl : Array (Option Value)) :
    Meets (Builtin.«int.__rmul__» ⟨[.int a t, .ref l], []⟩) (fun _ R s => s.heap.get? l = some { cls := .type "tuple", dict := d, data := .seq items n, slots := sl } ∧ R (.ok (.ret Value.notImplemented)) s) :=
  .of_wp fun prog w A R s h => by obtain ⟨hp, g, dd, tk, os⟩ := s; obtain ⟨hl, h⟩ := h; wp_walk; exact ⟨_, rfl, h⟩
theorem tup_mul_one (l : Addr) (items : Array Value) (n : Nat) (x : Int) (u : Tok) (d : Option Addr) (sl : Array (Option Value)) (h1 : x = 1) :
    Meets (Builtin.«tuple.__mul__» ⟨[.ref l, .int x u], []⟩) (fun _ R s => s.heap.get? l = some { cls := .type "tuple", dict := d, data := .seq items n, slots := sl } ∧ R (.ok (.ret (.ref l))) s) :=
  .of_wp fun prog w A R s h => by obtain ⟨hp, g, dd, tk, os⟩ := s; obtain ⟨hl, h⟩ := h; subst h1; wp_walk; exact ⟨_, rfl, h⟩
theorem tup_mul_none (l : Addr) (items : Array Value) (n : Nat) (x : Int) (u : Tok) (d : Option Addr) (sl : Array (Option Value)) (c1 : (decide (x < -(2 ^ 63)) || decide (x ≥ 2 ^ 63)) = false) (c2 : (items.isEmpty || x == 1) = false) (c3 : (decide (x ≤ 0) || items.isEmpty) = true) :
    Meets (Builtin.«tuple.__mul__» ⟨[.ref l, .int x u], []⟩) (fun _ R s => s.heap.get? l = some { cls := .type "tuple", dict := d, data := .seq items n, slots := sl } ∧ R (.ok (.ret (.ref s.heap.objs.size))) { s with heap := s.heap.push { cls := Value.type "tuple", data := Data.seq #[] }, toks := s.toks }) :=
  .of_wp fun prog w A R s h => by
    obtain ⟨hp, g, dd, tk, os⟩ := s; obtain ⟨hl, h⟩ := h
    wp_walk; refine wpAny_ite_false (decide_eq_false (by rw [c1]; decide)) ?_; wp_walk; exact ⟨_, rfl, h⟩
theorem tup_mul_many (l : Addr) (items : Array Value) (n : Nat) (x : Int) (u : Tok) (d : Option Addr) (sl : Array (Option Value)) (c1 : (decide (x < -(2 ^ 63)) || decide (x ≥ 2 ^ 63)) = false) (c2 : (items.isEmpty || x == 1) = false) (c3 : (decide (x ≤ 0) || items.isEmpty) = false) (c4 : ¬ (items.size : Int) * x > (2 ^ 63 - 1) / 8) (c5 : Builtin.Tuple.tupleTooMany ((items.size : Int) * x) = false)
    (hs : (List.foldl (fun x1 x2 => x1 ++ x2) #[] (List.replicate x.toNat items)).size ≤ sizeLine) :
    Meets (Builtin.«tuple.__mul__» ⟨[.ref l, .int x u], []⟩) (fun _ R s => s.heap.get? l = some { cls := .type "tuple", dict := d, data := .seq items n, slots := sl } ∧ R (.ok (.ret (.ref s.heap.objs.size))) { s with heap := s.heap.push { cls := Value.type "tuple", data := Data.seq (List.foldl (fun x1 x2 => x1 ++ x2) #[] (List.replicate x.toNat items)) }, toks := s.toks }) :=
  .of_wp fun prog w A R s h => by
    obtain ⟨hp, g, dd, tk, os⟩ := s; obtain ⟨hl, h⟩ := h
    wp_walk; refine wpAny_ite_false (decide_eq_false (by rw [c1]; decide)) ?_; wp_walk; refine wpAny_ite_false (decide_eq_false c4) ?_; wp_walk; exact ⟨_, rfl, h⟩
section
variable {X : Cx}
def rRepT (K : PySem.W.Frag) : R2 := fun x y H Q => ∃ a xs k, x = .ref a ∧ y = .int k ∧ SqT K H a xs ∧ xs ≠ [] ∧ -9223372036854775808 ≤ k ∧ k < 9223372036854775808 ∧ xs.length * k.toNat ≤ sizeLine ∧ ∀ p H', Same H H' → SqT K H' p (List.replicate k.toNat xs).flatten → Q (.ref p) H'
theorem op_repT : OpR X (binaryOp .Mult) (rRepT X.K) := by
  intro pins s σ H x y v u Q I rx ry h
  obtain ⟨a, xs, k, rfl, rfl, ha, hx, h1, h2, hz, q⟩ := h
  cases rx
  obtain ⟨t, rfl⟩ := ry
  obtain ⟨its, r1, p1, hsz⟩ := I.tuple ha
  obtain ⟨⟨c1, d1, e1, sl1⟩, ho, hc, n, hd⟩ := id p1
  simp only at hc hd
  subst hc hd
  have hlen : its.toArray.size = xs.length := by rw [List.size_toArray]; exact r1.length.symm
  have b1 : (decide (k < -(2 ^ 63)) || decide (k ≥ 2 ^ 63)) = false := by simp; omega
  have go : wpAny (model X.prog X.w) X.A (call (.builtin "tuple.__mul__") [.ref a, .int k t]) (EP X pins σ Q) X.xe s := by
    by_cases hk1 : k = 1
    · refine call_meets F.slot_tuple_mul ⟨_, ho, rfl⟩ F.entry_tuple_mul (F.args_tuple_mul_2 _ _) (tup_mul_one a its.toArray n k t d1 sl1 hk1) ⟨ho, ?_⟩
      refine ⟨.ref a, H, I, rfl, q a H (Same.refl _) ?_⟩
      subst hk1
      show SqT X.K H a (xs ++ [])
      rw [List.append_nil]
      exact ha
    · have hne : ¬ its.toArray.isEmpty = true := by
        intro z
        apply hx
        rw [Array.isEmpty_iff_size_eq_zero, hlen] at z
        exact List.length_eq_zero_iff.mp z
      have b2 : (its.toArray.isEmpty || k == 1) = false := by
        refine Bool.eq_false_iff.mpr ?_
        show ¬ _
        rw [Bool.or_eq_true]
        rintro (z | z)
        · exact hne z
        · exact hk1 (by simpa using z)
      by_cases hk0 : k ≤ 0
      · refine call_meets F.slot_tuple_mul ⟨_, ho, rfl⟩ F.entry_tuple_mul (F.args_tuple_mul_2 _ _) (tup_mul_none a its.toArray n k t d1 sl1 b1 b2 (by simp [hk0])) ⟨ho, ?_⟩
        refine ⟨.ref s.heap.objs.size, _, I.laid (t' := s.toks) (o := .tup []) (fun b ob q => Heap.get?_push_of_some _ q) (Nat.le_refl _) ⟨by simp, [], .nil, IsTup.new _ _⟩, rfl, q _ _ (same_fresh (I.hok.fresh (Nat.le_refl _)) _) (SqT.of ?_)⟩
        rw [show k.toNat = 0 by omega]
        exact upd_same
      · have b3 : (decide (k ≤ 0) || its.toArray.isEmpty) = false := by
          refine Bool.eq_false_iff.mpr ?_
          show ¬ _
          rw [Bool.or_eq_true]
          rintro (z | z)
          · exact hk0 (of_decide_eq_true z)
          · exact hne z
        have hprod : (its.toArray.size : Int) * k = ((xs.length * k.toNat : Nat) : Int) := by
          rw [hlen, Int.natCast_mul, show ((k.toNat : Nat) : Int) = k by omega]
        have hcap : (sizeLine : Nat) ≤ (2 ^ 63 - 1) / 8 := by decide
        have hfold : List.foldl (fun x1 x2 => x1 ++ x2) #[] (List.replicate k.toNat its.toArray) = (List.replicate k.toNat its).flatten.toArray := by
          have := foldl_rep its k.toNat []
          rw [List.nil_append] at this
          exact this
        have hfl : (List.replicate k.toNat its).flatten.length = k.toNat * its.length := len_rep its k.toNat
        have hitl : its.length = xs.length := by rw [← hlen, List.size_toArray]
        refine call_meets F.slot_tuple_mul ⟨_, ho, rfl⟩ F.entry_tuple_mul (F.args_tuple_mul_2 _ _) (tup_mul_many a its.toArray n k t d1 sl1 b1 b2 b3 (by rw [hprod]; clear hprod; generalize xs.length * k.toNat = N at hz; omega) (by unfold Builtin.Tuple.tupleTooMany; rw [hprod]; clear hprod; generalize xs.length * k.toNat = N at hz; exact decide_eq_false (by omega)) (by rw [hfold, List.size_toArray, hfl, hitl, Nat.mul_comm]; exact hz)) ⟨ho, ?_⟩
        rw [hfold]
        refine ⟨.ref s.heap.objs.size, _, I.laid (t' := s.toks) (o := .tup (List.replicate k.toNat xs).flatten) (fun b ob q => Heap.get?_push_of_some _ q) (Nat.le_refl _) ⟨by rw [len_rep, Nat.mul_comm]; exact hz, _, r1.rep k.toNat, IsTup.new _ _⟩, rfl, q _ _ (same_fresh (I.hok.fresh (Nat.le_refl _)) _) (SqT.of upd_same)⟩
  exact wpAny_binaryOp_repeat_ref (T := "tuple") (U := "int") (by decide) ⟨_, ho, rfl⟩ (fun s' => typeIs_int s' k t) noFill_tuple_mul F.fills_int_mul F.slot_int_rmul repeat_tuple F.slot_int_index.lookup
    (call_meets F.slot_int_rmul (typeIs_int s k t) F.entry_int_rmul (F.args_int_rmul_2 _ _) (int_rmul_tup k t a its.toArray n d1 sl1) ⟨ho, rfl, ⟨_, ho, rfl⟩, go⟩)
end
end L2
namespace L2
open PySem PySem.Spec PyProof.Rows
def Its (lo st : Int) (n : Nat) : It := ⟨fun i _ => i < n, fun i H x H' => H' = H ∧ x = .int (lo + i * st), fun i _ => n ≤ i⟩
theorem turn_rangeS {P : Program} {w : World} {K : PySem.W.Frag} {tg : Expr} (it : Addr) (lo c : Int) (n : Nat) : Turn P w K tg (Its lo c n) [it] it (fun i h => IsRangeIter h it (lo + (i : Nat) * c) ((n : Int) - (i : Nat)) c) where
  mem := by simp
  obj := fun i h st b hb => by
    have e : b = it := by simpa using hb
    subst e
    exact ⟨_, st, fun v z => by
      have z' : Data.fields _ = Data.cell v := z
      cases z'⟩
  keep := fun i h h' st k => k it (by simp) _ st
  item := by
    intro X hP hw hK hc i pins s σ H E I hf st hg
    subst hP hw hK
    obtain ⟨f0, f1, f2, f3, f4, f5⟩ := hf it (by simp)
    have W := Walks.range (prog := X.prog) (w := X.w) (I.ok.hd hc) it lo c n
    refine W.item i s _ _ hg st fun v h' tk hv st' kk => ?_
    obtain ⟨t, rfl⟩ := hv
    have I1 : Inv X pins σ H { s with heap := h', toks := tk } := I.turned (fun b o hb e => kk b o (by simpa using hb) e) f0 f1 f3 f4 f5
    exact ⟨_, rfl, go_of (s := { s with heap := h', toks := tk }) (n := "range_iterator") st' rfl rfl (by decide) ⟨.int (lo + i * c), H, I1, ⟨t, rfl⟩, ⟨rfl, rfl⟩, st', fun b hb => (hf b hb).1⟩⟩
  done := by
    intro X hP hw hK hc i pins s σ H E I hf st hg
    subst hP hw hK
    obtain ⟨f0, f1, f2, f3, f4, f5⟩ := hf it (by simp)
    exact wpAny_pyNext_range_end (I.ok.hd hc) st (by have : n ≤ i := hg; omega) fun h' eb => ⟨rfl, I.turned (t' := s.toks) (fun b o hb e => eb b o hb e) f0 f1 f3 f4 f5⟩
  self := fun _ _ _ _ _ st h => wpAny_pyIter_rangeiter st h
section
variable {X : Cx} {tg : Expr}
theorem rangeS_it {pins : List (Addr × Obj)} {σ : St} {H : Hp} {s : Shared} {R : It → Hp → Prop} {E : Value → Shared → Prop} {lo hi c : Int} {t u v : Tok} {tk : Nat} (I : Inv X pins σ H s) (hs : Builtin.Range.small lo hi c = true) (h0 : 0 ≤ Builtin.Range.rangeSize lo hi c)
    (q : R (Its lo c (Builtin.Range.rangeSize lo hi c).toNat) H) : wpAny (model X.prog X.w) X.A (pyIter (.ref s.heap.objs.size)) (PIE X pins σ tg R) E { s with heap := s.heap.push { cls := .type "range", data := .fields #[.int lo t, .int hi u, .int c v] }, toks := tk } := by
  refine wpAny_pyIter_range (IsRange.new ..) hs ?_
  have I1 : Inv X pins σ H { s with heap := s.heap.push { cls := .type "range", data := .fields #[.int lo t, .int hi u, .int c v] }, toks := tk } := I.kept fun b o e => Heap.get?_push_of_some _ e
  refine ⟨(s.heap.push { cls := .type "range", data := .fields #[.int lo t, .int hi u, .int c v] }).objs.size, [(s.heap.push { cls := .type "range", data := .fields #[.int lo t, .int hi u, .int c v] }).objs.size], _, _, H, rfl,
    I1.kept (t' := tk) fun b o e => Heap.get?_push_of_some _ e, turn_rangeS _ lo c (Builtin.Range.rangeSize lo hi c).toNat, ?_, fun b hb => ?_, q⟩
  · have e1 : lo + ((0 : Nat) : Int) * c = lo := by simp
    have e2 : (((Builtin.Range.rangeSize lo hi c).toNat : Nat) : Int) - ((0 : Nat) : Int) = Builtin.Range.rangeSize lo hi c := by omega
    show IsRangeIter _ _ (lo + ((0 : Nat) : Int) * c) ((((Builtin.Range.rangeSize lo hi c).toNat : Nat) : Int) - ((0 : Nat) : Int)) c
    rw [e1, e2]
    exact Heap.get?_push_size _ rfl
  · have e : b = (s.heap.push { cls := .type "range", data := .fields #[.int lo t, .int hi u, .int c v] }).objs.size := by simpa using hb
    subst e
    exact I1.fpOk (Nat.le_refl _) (I1.hok.fresh (Nat.le_refl _))
theorem sizeS {lo hi c : Int} (h1 : 0 ≤ lo) (h2 : lo < 1000000) (h3 : 0 ≤ hi) (h4 : hi < 1000000) (h5 : 0 < c) (h6 : c < 1000000) : 0 ≤ Builtin.Range.rangeSize lo hi c ∧ Builtin.Range.rangeSize lo hi c < 1000001 ∧ Builtin.Range.small lo hi c = true := by
  have e : Builtin.Range.rangeSize lo hi c = if lo < hi then (hi - lo - 1) / c + 1 else 0 := by
    unfold Builtin.Range.rangeSize
    rw [if_pos h5]
  have b : 0 ≤ Builtin.Range.rangeSize lo hi c ∧ Builtin.Range.rangeSize lo hi c < 1000001 := by
    rw [e]
    split
    · have a1 := Int.ediv_nonneg (show 0 ≤ hi - lo - 1 by omega) (show 0 ≤ c by omega)
      have a2 := Int.ediv_le_self c (show 0 ≤ hi - lo - 1 by omega)
      omega
    · omega
  refine ⟨b.1, b.2, ?_⟩
  unfold Builtin.Range.small
  simp only [Builtin.Range.rangeFitsLong, Bool.and_eq_true, Bool.or_eq_true, decide_eq_true_eq, beq_iff_eq, if_pos h5]
  omega
def iRng3 (ta : TA) : TI := fun σ H R => ta σ H fun vs H1 => ∃ i j c : Int, vs = [.int i, .int j, .int c] ∧ (0 ≤ i ∧ i < 1000000 ∧ 0 ≤ j ∧ j < 1000000 ∧ 0 < c ∧ c < 1000000) ∧ R (Its i c (Builtin.Range.rangeSize i j c).toNat) H1
theorem pi_range3 {a b d : Expr} {ta : TA} {p pos : Pos} (hg : Gl X "range") (hm : X.mg "range" = none) (ha : PA X [a, b, d] ta) (hs : starEach [a, b, d] X.env = [(false, eval a X.env), (false, eval b X.env), (false, eval d X.env)] := by rfl) (hs2 : starEach [b, d] X.env = [(false, eval b X.env), (false, eval d X.env)] := by rfl) :
    PI X tg (.Call (.Name "range" p) [a, b, d] [] pos) (iRng3 ta) := by
  intro pins s σ H R I h
  refine Call_ (ld_blt I hg hm boot_range (PyProof.Rows.callWith_type1 (thn (ha pos pins s σ H _ I h) fun us s1 ⟨vs, H1, I1, r1, q1⟩ => ?_) (by rw [hs, hs2]) (by rw [hs2]; rfl)))
  obtain ⟨i, j, c, e, ⟨q1, q2, q3, q4, q5, q6⟩, q⟩ := q1
  subst e
  cases r1 with
  | cons r rr =>
    cases rr with
    | cons r' rr =>
      cases rr with
      | cons r'' rr =>
        cases rr
        obtain ⟨t, rfl⟩ := r
        obtain ⟨t', rfl⟩ := r'
        obtain ⟨t'', rfl⟩ := r''
        obtain ⟨z1, z2, z3⟩ := sizeS q1 q2 q3 q4 q5 q6
        exact call_range_3 (by omega) (rangeS_it I1 z3 z1 q) (.inl (PyProof.noPylong_small (by omega)))
theorem for_rangeS {lo c : Int} {n : Nat} {g : TG} {tb : TS} {D : Ends} {σ : St} {H : Hp} (Pv : Nat → St → Hp → Prop) (h0 : Pv 0 σ H)
    (hs : ∀ i σ H, i < n → Pv i σ H → g (.int (lo + i * c)) σ H fun σ2 H2 => tb { D with nx := Pv (i + 1), ct := Pv (i + 1), bk := D.nx } σ2 H2) (hd : ∀ σ H, Pv n σ H → D.nx σ H) :
    ∃ W : Nat → Nat → St → Hp → Prop, (∃ m, W 0 m σ H) ∧ ∀ i m σ H, W i m σ H →
      ((Its lo c n).stop i H ∧ D.nx σ H) ∨ ((Its lo c n).go i H ∧ ∃ N : St → Hp → Prop, (∀ σ' H', N σ' H' → ∃ m', m' < m ∧ W (i + 1) m' σ' H') ∧ ∀ x H', (Its lo c n).yld i H x H' → g x σ H' fun σ2 H2 => tb { D with nx := N, ct := N, bk := D.nx } σ2 H2) := by
  refine ⟨fun i m σ H => m = n - i ∧ i ≤ n ∧ Pv i σ H, ⟨n, by simp, Nat.zero_le _, h0⟩, ?_⟩
  rintro i m σ H ⟨rfl, hi, p⟩
  by_cases hlt : i < n
  · refine .inr ⟨hlt, Pv (i + 1), fun σ' H' p' => ⟨n - (i + 1), by omega, rfl, hlt, p'⟩, fun x H' y => ?_⟩
    obtain ⟨e, y⟩ := y
    subst e y
    exact hs i σ _ hlt p
  · have e : i = n := by omega
    subst e
    exact .inl ⟨Nat.le_refl _, hd σ H p⟩
end
end L2
local macro_rules | `(tactic| walk_at "cond") => `(tactic| first | rfl | decide | omega | (show (0 : Int) < _; decide) | (show (0 : Int) < _; omega) | exact ⟨by decide, by decide⟩ | exact ⟨by omega, by omega⟩ | exact Or.inl ⟨by decide, by decide⟩ | exact Or.inr ⟨by decide, by decide⟩ | exact Or.inl ⟨by omega, by omega⟩ | exact Or.inr ⟨by omega, by omega⟩ | assumption)
local macro_rules | `(tactic| walk_at "rd1") => `(tactic| first
  | refine ⟨_, rfl, ?_⟩
  | refine ⟨_, _, rfl, rfl, ?_⟩
  | (refine And.intro ?_ ?_; walk_at "cond"))
local macro_rules | `(tactic| walk_at "rd") => `(tactic| repeat walk_at "rd1")
set_option maxHeartbeats 4000000
namespace Mine
open PySem L2
theorem ln0 {α : Type} {P : List α → Prop} (h : P []) : ∀ us : List α, us.length = 0 → P us := fun us hl => by
  cases us with
  | nil => exact h
  | cons a r => exact absurd hl (Nat.succ_ne_zero _)
theorem ln1 {α : Type} {P : List α → Prop} (h : ∀ a0 : α, P [a0]) : ∀ us : List α, us.length = 1 → P us := fun us hl => by
  cases us with
  | nil => exact absurd hl.symm (Nat.succ_ne_zero _)
  | cons a r => exact ln0 (P := fun r => P (a :: r)) (h a) r (Nat.succ.inj hl)
theorem ln2 {α : Type} {P : List α → Prop} (h : ∀ a0 a1 : α, P [a0, a1]) : ∀ us : List α, us.length = 2 → P us := fun us hl => by
  cases us with
  | nil => exact absurd hl.symm (Nat.succ_ne_zero _)
  | cons a r => exact ln1 (P := fun r => P (a :: r)) (fun a1 => h a a1) r (Nat.succ.inj hl)
theorem ln3 {α : Type} {P : List α → Prop} (h : ∀ a0 a1 a2 : α, P [a0, a1, a2]) : ∀ us : List α, us.length = 3 → P us := fun us hl => by
  cases us with
  | nil => exact absurd hl.symm (Nat.succ_ne_zero _)
  | cons a r => exact ln2 (P := fun r => P (a :: r)) (fun a1 a2 => h a a1 a2) r (Nat.succ.inj hl)
theorem ln4 {α : Type} {P : List α → Prop} (h : ∀ a0 a1 a2 a3 : α, P [a0, a1, a2, a3]) : ∀ us : List α, us.length = 4 → P us := fun us hl => by
  cases us with
  | nil => exact absurd hl.symm (Nat.succ_ne_zero _)
  | cons a r => exact ln3 (P := fun r => P (a :: r)) (fun a1 a2 a3 => h a a1 a2 a3) r (Nat.succ.inj hl)
theorem ln5 {α : Type} {P : List α → Prop} (h : ∀ a0 a1 a2 a3 a4 : α, P [a0, a1, a2, a3, a4]) : ∀ us : List α, us.length = 5 → P us := fun us hl => by
  cases us with
  | nil => exact absurd hl.symm (Nat.succ_ne_zero _)
  | cons a r => exact ln4 (P := fun r => P (a :: r)) (fun a1 a2 a3 a4 => h a a1 a2 a3 a4) r (Nat.succ.inj hl)
theorem ln6 {α : Type} {P : List α → Prop} (h : ∀ a0 a1 a2 a3 a4 a5 : α, P [a0, a1, a2, a3, a4, a5]) : ∀ us : List α, us.length = 6 → P us := fun us hl => by
  cases us with
  | nil => exact absurd hl.symm (Nat.succ_ne_zero _)
  | cons a r => exact ln5 (P := fun r => P (a :: r)) (fun a1 a2 a3 a4 a5 => h a a1 a2 a3 a4 a5) r (Nat.succ.inj hl)
theorem ex1 {α : Type} {xs : List α} (h : xs.length = 1) : ∃ a0, xs = [a0] := ln1 (P := fun xs => ∃ a0, xs = [a0]) (fun a0 => ⟨a0, rfl⟩) xs h
theorem ex2 {α : Type} {xs : List α} (h : xs.length = 2) : ∃ a0 a1, xs = [a0, a1] := ln2 (P := fun xs => ∃ a0 a1, xs = [a0, a1]) (fun a0 a1 => ⟨a0, a1, rfl⟩) xs h
theorem ex3 {α : Type} {xs : List α} (h : xs.length = 3) : ∃ a0 a1 a2, xs = [a0, a1, a2] := ln3 (P := fun xs => ∃ a0 a1 a2, xs = [a0, a1, a2]) (fun a0 a1 a2 => ⟨a0, a1, a2, rfl⟩) xs h
theorem ex6 {α : Type} {xs : List α} (h : xs.length = 6) : ∃ a0 a1 a2 a3 a4 a5, xs = [a0, a1, a2, a3, a4, a5] := ln6 (P := fun xs => ∃ a0 a1 a2 a3 a4 a5, xs = [a0, a1, a2, a3, a4, a5]) (fun a0 a1 a2 a3 a4 a5 => ⟨a0, a1, a2, a3, a4, a5, rfl⟩) xs h
def tf (p : Program) (i : Nat) : Stmt := p.main.body.getD i (.Pass ⟨0, 0, 0, 0⟩)
def top (i : Nat) : Stmt := tf PySem.Challenge.pw_stackwarden_k43_where_rows_lead i
abbrev s_law_draw : Stmt := top 23
abbrev s_law_elders : Stmt := top 26
abbrev s_law_fields : Stmt := top 27
abbrev s_law_kind : Stmt := top 24
abbrev s_law_makes : Stmt := top 25
abbrev s_law_last : Stmt := top 34
abbrev s_law_signs : Stmt := top 32
abbrev s_law_row : Stmt := top 33
abbrev s_law_stretch : Stmt := top 35
abbrev s_law_part : Stmt := top 36
abbrev s_law_book : Stmt := top 37
abbrev s_law_asked : Stmt := top 39
abbrev s_law_below : Stmt := top 38
abbrev s_law_break : Stmt := top 40
abbrev s_law_copy : Stmt := top 30
abbrev s_law_copied : Stmt := top 31
abbrev s_law_lower : Stmt := top 44
abbrev s_law_stand : Stmt := top 45
abbrev s_law_put_there : Stmt := top 41
abbrev s_law_next : Stmt := top 42
abbrev s_law_leads : Stmt := top 43
abbrev s_law_same_kind : Stmt := top 28
abbrev s_law_same_stand : Stmt := top 29
abbrev s_catcher : Stmt := top 10
abbrev s_elders_of : Stmt := top 1
abbrev s_fields_of : Stmt := top 2
abbrev s_full_mask : Stmt := top 3
abbrev s_asked_of_records : Stmt := top 8
abbrev s_asked : Stmt := top 7
abbrev s_kinds_put_of_records : Stmt := top 19
abbrev s_leaves : Stmt := top 9
abbrev s_kinds_put : Stmt := top 18
abbrev s_replaced : Stmt := top 16
abbrev s_stand_behind : Stmt := top 20
abbrev s_outs : Stmt := top 21
abbrev s_law_told : Stmt := top 46
abbrev s_law : Stmt := top 47
def kd_ALWAYS : List (Str × PyData) := [("push", .tuple []), ("load", .tuple []), ("store", .tuple [.tuple [.str "any"]]), ("dup", .tuple [.tuple [.str "any"]]), ("swap", .tuple [.tuple [.str "any"], .tuple [.str "any"]]), ("drop", .tuple [.tuple [.str "any"]]), ("add", .tuple [.tuple [.str "number"], .tuple [.str "number"]]), ("sub", .tuple [.tuple [.str "number"], .tuple [.str "number"]]), ("mul", .tuple [.tuple [.str "number"], .tuple [.str "number"]]), ("div", .tuple [.tuple [.str "number"], .tuple [.str "number"]]), ("rem", .tuple [.tuple [.str "number"], .tuple [.str "number"]]), ("less", .tuple [.tuple [.str "number"], .tuple [.str "number"]]), ("same", .tuple [.tuple [.str "number"], .tuple [.str "number"]]), ("jump", .tuple []), ("zero", .tuple [.tuple [.str "number"]]), ("kin", .tuple [.tuple [.str "whole", .int 0]]), ("make", .tuple []), ("toss", .tuple [.tuple [.str "number"]]), ("say", .tuple [.tuple [.str "number"]])]
def kd_ENDING : PyData := .tuple [.str "jump", .str "toss", .str "give"]
def kd_FAULTING : PyData := .tuple [.str "div", .str "rem", .str "toss", .str "call"]
def kd_GOING : PyData := .tuple [.str "jump", .str "zero", .str "kin"]
def kd_LEFT : List (Str × PyData) := [("store", .int 0), ("dup", .int 2), ("swap", .int 2), ("drop", .int 0), ("jump", .int 0), ("zero", .int 0), ("put", .int 0), ("toss", .int 0), ("say", .int 0), ("give", .int 0)]
def kd_OF_RECORDS : PyData := .tuple [.str "make", .str "fill", .str "begin", .str "get", .str "put"]
theorem int_at {ns : List Int} {i : Int} (h0 : 0 ≤ i) (h1 : i < (ns.length : Int)) : ∃ v : Int, atI (ns.map V.int) i = some (.int v) := by
  have hk : i.toNat < ns.length := by omega
  have ek : ((i.toNat : Nat) : Int) = i := by omega
  have z : atI (ns.map V.int) ((i.toNat : Nat) : Int) = some (.int ns[i.toNat]) := atI_nat (by rw [List.getElem?_map, List.getElem?_eq_getElem hk]; rfl)
  rw [ek] at z
  exact ⟨_, z⟩
inductive Kd where
  | any | num | whole (c : Nat) | raw (c m : Nat)
  deriving DecidableEq
def kdV : Kd → List V
  | .any => [.str "any"]
  | .num => [.str "number"]
  | .whole c => [.str "whole", .int c]
  | .raw c m => [.str "raw", .int c, .int m]
def kdL : Kd → List PyData
  | .any => [.str "any"]
  | .num => [.str "number"]
  | .whole c => [.str "whole", .int c]
  | .raw c m => [.str "raw", .int c, .int m]
abbrev Mks := List (Option Nat × List Kd)
def elV : Option Nat → V
  | none => .non
  | some n => .int n
def elD : Option Nat → PyData
  | none => .none
  | some n => .int n
def mkD (m : Option Nat × List Kd) : PyData := .tuple [elD m.1, .list (m.2.map fun k => .tuple (kdL k))]
def mksD (ms : Mks) : PyData := .list (ms.map mkD)
structure Wf (ms : Mks) : Prop where
  ne : 0 < ms.length
  few : ms.length ≤ 8
  first : ∀ m, ms[0]? = some m → m.1 = none
  ahead : ∀ (i : Nat) m, ms[i]? = some m → 0 < i → ∃ j, m.1 = some j ∧ j < i
def elOf (ms : Mks) (c : Nat) : Option Nat := (ms[c]?).bind (·.1)
theorem Wf.el {ms : Mks} (w : Wf ms) {c : Nat} (hc : c < ms.length) : ∃ m, ms[c]? = some m ∧ elOf ms c = m.1 ∧ ∀ j, m.1 = some j → j < c := by
  refine ⟨ms[c], List.getElem?_eq_getElem hc, by unfold elOf; rw [List.getElem?_eq_getElem hc]; rfl, fun j hj => ?_⟩
  rcases Nat.eq_zero_or_pos c with z | z
  · subst z
    have := w.first _ (List.getElem?_eq_getElem hc)
    rw [hj] at this
    cases this
  · obtain ⟨j', h1, h2⟩ := w.ahead c _ (List.getElem?_eq_getElem hc) z
    rw [hj] at h1
    cases h1
    exact h2
def eldN (ms : Mks) : Nat → Nat → List Nat
  | 0, _ => []
  | n + 1, c => c :: (match elOf ms c with | none => [] | some j => eldN ms n j)
def elders (ms : Mks) (c : Nat) : List Nat := eldN ms (c + 1) c
theorem eldN_eq {ms : Mks} (w : Wf ms) : ∀ c : Nat, c < ms.length → ∀ n, c + 1 ≤ n → eldN ms n c = eldN ms (c + 1) c := by
  intro c
  induction c using Nat.strongRecOn with
  | ind c ih =>
    intro hc n hn
    obtain ⟨n', rfl⟩ : ∃ n', n = n' + 1 := ⟨n - 1, by omega⟩
    show (c :: (match elOf ms c with | none => [] | some j => eldN ms n' j)) = c :: (match elOf ms c with | none => [] | some j => eldN ms c j)
    obtain ⟨m, _, e, hj⟩ := w.el hc
    cases q : elOf ms c with
    | none => rfl
    | some j =>
      have hlt : j < c := hj j (by rw [← e, q])
      show c :: eldN ms n' j = c :: eldN ms c j
      rw [ih j hlt (by omega) n' (by omega), ih j hlt (by omega) c (by omega)]
def rest (ms : Mks) : Option Nat → List Nat
  | none => []
  | some j => elders ms j
theorem elders_step {ms : Mks} (w : Wf ms) {c : Nat} (hc : c < ms.length) : elders ms c = c :: rest ms (elOf ms c) := by
  show (c :: (match elOf ms c with | none => [] | some j => eldN ms c j)) = _
  obtain ⟨m, _, e, hj⟩ := w.el hc
  cases q : elOf ms c with
  | none => rfl
  | some j =>
    have hlt : j < c := hj j (by rw [← e, q])
    show c :: eldN ms c j = c :: eldN ms (j + 1) j
    rw [eldN_eq w j (by omega) c (by omega)]
theorem elders_le {ms : Mks} (w : Wf ms) : ∀ c : Nat, c < ms.length → (elders ms c).length ≤ c + 1 ∧ ∀ x ∈ elders ms c, x ≤ c := by
  intro c
  induction c using Nat.strongRecOn with
  | ind c ih =>
    intro hc
    rw [elders_step w hc]
    obtain ⟨m, _, e, hj⟩ := w.el hc
    cases q : elOf ms c with
    | none => exact ⟨by simp [rest], fun x hx => by simp [rest] at hx; omega⟩
    | some j =>
      have hlt : j < c := hj j (by rw [← e, q])
      obtain ⟨h1, h2⟩ := ih j hlt (by omega)
      refine ⟨by simp only [rest, List.length_cons]; omega, fun x hx => ?_⟩
      rcases List.mem_cons.mp hx with z | z
      · omega
      · have := h2 x z
        omega
abbrev natsV (l : List Nat) : List V := l.map fun (n : Nat) => V.int (n : Int)
theorem inV_nats (n : Nat) : ∀ l : List Nat, inV (.int (n : Int)) (natsV l) = decide (n ∈ l)
  | [] => by simp [inV, natsV]
  | x :: r => by
    have ih := inV_nats n r
    show (eqV (.int (x : Int)) (.int (n : Int)) || inV (.int (n : Int)) (natsV r)) = decide (n ∈ x :: r)
    rw [ih]
    show (((x : Int) == (n : Int)) || decide (n ∈ r)) = _
    by_cases h : n = x
    · subst h; simp
    · have h' : ((x : Int) == (n : Int)) = false := by
        rw [beq_eq_false_iff_ne]
        intro z
        exact h (Int.ofNat.inj z).symm
      rw [h']
      simp [h]
theorem flat_nats : ∀ l : List Nat, (natsV l).all flatV = true
  | [] => rfl
  | _ :: r => by show (true && (natsV r).all flatV) = true; rw [flat_nats r]; rfl
def MIt (K : PySem.W.Frag) (H : Hp) (xs : List V) (ms : Mks) : Prop := xs.length = ms.length ∧ ∀ (i : Nat) x m, xs[i]? = some x → ms[i]? = some m → ∃ (t l : Addr) (ks : List V), x = .ref t ∧ SqT K H t [elV m.1, .ref l] ∧ SqL K H l ks ∧ RdAll K H ks (m.2.map fun k => .tuple (kdL k))
def MksAt (K : PySem.W.Frag) (H : Hp) (a : Addr) (ms : Mks) : Prop := ∃ xs, SqL K H a xs ∧ MIt K H xs ms
theorem MIt.same {K : PySem.W.Frag} {H H' : Hp} {xs : List V} {ms : Mks} (e : Same H H') (h : MIt K H xs ms) : MIt K H' xs ms := ⟨h.1, fun i x m h1 h2 => by
  obtain ⟨t, l, ks, e1, e2, e3, e4⟩ := h.2 i x m h1 h2
  exact ⟨t, l, ks, e1, e.tup e2, e.seq e3, e4.same e⟩⟩
theorem MksAt.same {K : PySem.W.Frag} {H H' : Hp} {a : Addr} {ms : Mks} (e : Same H H') (h : MksAt K H a ms) : MksAt K H' a ms := let ⟨xs, h1, h2⟩ := h; ⟨xs, e.seq h1, h2.same e⟩
theorem RdV.el (K : PySem.W.Frag) (H : Hp) : ∀ o : Option Nat, RdV K H (elV o) (elD o)
  | none => .non
  | some n => .int n
theorem MksAt.rd {K : PySem.W.Frag} {H : Hp} {a : Addr} {ms : Mks} (h : MksAt K H a ms) : RdV K H (.ref a) (mksD ms) := by
  obtain ⟨xs, h1, h2, h3⟩ := h
  refine .lst h1 (by rw [List.length_map]; exact h2) fun i x d hx hd => ?_
  rw [List.getElem?_map] at hd
  cases q : ms[i]? with
  | none => rw [q] at hd; cases hd
  | some m =>
    rw [q] at hd
    cases hd
    obtain ⟨t, l, ks, rfl, e2, e3, e4⟩ := h3 i x m hx q
    exact .tup' e2 (.cons (RdV.el K H m.1) (.cons (.lst' e3 e4) .nil))
def KdOk (zs : List Nat) : Kd → Prop
  | .any => True
  | .num => True
  | .whole c => c < zs.length
  | .raw c m => ∃ z, zs[c]? = some z ∧ m < 2 ^ z
theorem nats_at {zs : List Nat} {i : Int} (h0 : 0 ≤ i) (h1 : i < (zs.length : Int)) : ∃ z : Nat, zs[i.toNat]? = some z ∧ atI (natsV zs) i = some (.int (z : Int)) := by
  have hk : i.toNat < zs.length := by omega
  have ek : ((i.toNat : Nat) : Int) = i := by omega
  refine ⟨zs[i.toNat], List.getElem?_eq_getElem hk, ?_⟩
  have z : atI (natsV zs) ((i.toNat : Nat) : Int) = some (.int (zs[i.toNat] : Int)) := atI_nat (by rw [List.getElem?_map, List.getElem?_eq_getElem hk]; rfl)
  rw [ek] at z
  exact z
theorem same_new {H : Hp} {p : Addr} (h : H p = none) (o : HO) : Same H (upd H p o) := fun b u q => by rw [upd_ne (ne_of_none q h)]; exact q
def SameB (r : Addr) (H H' : Hp) : Prop := ∀ b o, b ≠ r → H b = some o → H' b = some o
theorem Same.b {r : Addr} {H H' : Hp} (e : Same H H') : SameB r H H' := fun b o _ h => e b o h
theorem SameB.refl (r : Addr) (H : Hp) : SameB r H H := fun _ _ _ h => h
theorem SameB.trans {r : Addr} {H H1 H2 : Hp} (a : SameB r H H1) (b : SameB r H1 H2) : SameB r H H2 := fun c o n h => b c o n (a c o n h)
theorem SameB.at {r : Addr} (H : Hp) (o : HO) : SameB r H (upd H r o) := fun b u n h => by rw [upd_ne n]; exact h
theorem SameB.over {r : Addr} {H H' : Hp} (e : SameB r H H') (o : HO) : Same (upd H r o) (upd H' r o) := fun b u h => by
  by_cases z : b = r
  · subst z; rw [upd_same] at h ⊢; exact h
  · rw [upd_ne z] at h ⊢; exact e b u z h
theorem SameB.same {r : Addr} {H H' : Hp} (e : SameB r H H') (h : H r = none) : Same H H' := fun b o q => e b o (ne_of_none q h) q
theorem SameB.free {r : Addr} {H H' : Hp} (e : SameB r H H') {b : Addr} (n : b ≠ r) (h : H' b = none) : H b = none := by
  cases q : H b with
  | none => rfl
  | some o => rw [e b o n q] at h; cases h
theorem upd_self {H : Hp} {r : Addr} {o : HO} (h : H r = some o) : upd H r o = H := by
  funext b
  by_cases z : b = r
  · subst z; rw [upd_same, h]
  · rw [upd_ne z]
theorem tup_upd {K : PySem.W.Frag} {H : Hp} {t r : Addr} {xs ys : List V} {o : HO} (h : SqT K H t xs) (hr : H r = some (.lst ys)) : SqT K (upd H r o) t xs := by
  rcases h with (h | ⟨u, h⟩) | h
  · exact .inl (.inl (by rw [upd_ne (ne_of h hr (by intro z; cases z))]; exact h))
  · exact .inl (.inr ⟨u, by rw [upd_ne (ne_of h hr (by intro z; cases z))]; exact h⟩)
  · exact .inr h
theorem tup_sb {K : PySem.W.Frag} {H H' : Hp} {t r : Addr} {xs ys : List V} (h : SqT K H t xs) (hr : H r = some (.lst ys)) (e : SameB r H H') : SqT K H' t xs := by
  rcases h with (h | ⟨u, h⟩) | h
  · exact .inl (.inl (e t _ (ne_of h hr (by intro z; cases z)) h))
  · exact .inl (.inr ⟨u, e t _ (ne_of h hr (by intro z; cases z)) h⟩)
  · exact .inr h
def MFr (K : PySem.W.Frag) (H : Hp) (r : Addr) (xs : List V) (ms : Mks) : Prop := ∀ o, MIt K (upd H r o) xs ms
theorem MFr.mono {K : PySem.W.Frag} {H H' : Hp} {r : Addr} {xs : List V} {ms : Mks} (h : MFr K H r xs ms) (e : SameB r H H') : MFr K H' r xs ms := fun o => (h o).same (e.over o)
theorem MFr.it {K : PySem.W.Frag} {H : Hp} {r : Addr} {xs : List V} {ms : Mks} {o : HO} (h : MFr K H r xs ms) (hr : H r = some o) : MIt K H xs ms := by
  have := h o
  rw [upd_self hr] at this
  exact this
theorem MIt.nil (K : PySem.W.Frag) (H : Hp) : MIt K H [] [] := ⟨rfl, fun i x m h => by simp at h⟩
theorem MIt.snoc {K : PySem.W.Frag} {H : Hp} {x : V} {m : Option Nat × List Kd} {xs : List V} {ms : Mks} (h : MIt K H xs ms) (hx : ∃ (t l : Addr) (ks : List V), x = .ref t ∧ SqT K H t [elV m.1, .ref l] ∧ SqL K H l ks ∧ RdAll K H ks (m.2.map fun k => .tuple (kdL k))) :
    MIt K H (xs ++ [x]) (ms ++ [m]) := by
  refine ⟨by simp [h.1], fun i y n h1 h2 => ?_⟩
  by_cases hi : i < xs.length
  · rw [List.getElem?_append_left hi] at h1
    rw [List.getElem?_append_left (by rw [← h.1]; exact hi)] at h2
    exact h.2 i y n h1 h2
  · have hl : i < (xs ++ [x]).length := (List.getElem?_eq_some_iff.mp h1).1
    have e : i = xs.length := by simp at hl; omega
    subst e
    rw [List.getElem?_append_right (Nat.le_refl _)] at h1
    rw [h.1, List.getElem?_append_right (Nat.le_refl _)] at h2
    simp at h1 h2
    subst h1; subst h2
    exact hx
theorem rd_kd {K : PySem.W.Frag} {H : Hp} {t : Addr} {k : Kd} (h : SqT K H t (kdV k)) : RdV K H (.ref t) (.tuple (kdL k)) := by
  refine .tup' h ?_
  cases k with
  | any => exact .cons (.str _) .nil
  | num => exact .cons (.str _) .nil
  | whole c => exact .cons (.str _) (.cons (.int _) .nil)
  | raw c m => exact .cons (.str _) (.cons (.int _) (.cons (.int _) .nil))
structure ShOk (sh : List (Option Nat × Nat)) (zs : List Nat) : Prop where
  len : sh.length = zs.length
  ne : 0 < sh.length
  s0 : sh[0]? = some (none, 0)
  z0 : zs[0]? = some 0
  six : ∀ z ∈ zs, z ≤ 6
  go : ∀ (i : Nat) (s : Option Nat × Nat), 0 < i → sh[i]? = some s → ∃ j z, s.1 = some j ∧ j < i ∧ zs[j]? = some z ∧ zs[i]? = some (z + s.2)
def ShIt (K : PySem.W.Frag) (H : Hp) (xs : List V) (sh : List (Option Nat × Nat)) : Prop := xs.length = sh.length ∧ ∀ (i : Nat) x s, xs[i]? = some x → sh[i]? = some s → ∃ t : Addr, x = .ref t ∧ SqT K H t [elV s.1, .int (s.2 : Int)]
theorem ShIt.same {K : PySem.W.Frag} {H H' : Hp} {xs : List V} {sh : List (Option Nat × Nat)} (e : Same H H') (h : ShIt K H xs sh) : ShIt K H' xs sh := ⟨h.1, fun i x s h1 h2 => by
  obtain ⟨t, e1, e2⟩ := h.2 i x s h1 h2
  exact ⟨t, e1, e.tup e2⟩⟩
theorem ShIt.upd {K : PySem.W.Frag} {H : Hp} {xs ys : List V} {sh : List (Option Nat × Nat)} {r : Addr} {o : HO} (h : ShIt K H xs sh) (hr : H r = some (.lst ys)) : ShIt K (upd H r o) xs sh := ⟨h.1, fun i x s h1 h2 => by
  obtain ⟨t, e1, e2⟩ := h.2 i x s h1 h2
  exact ⟨t, e1, tup_upd e2 hr⟩⟩
theorem ShIt.snoc {K : PySem.W.Frag} {H : Hp} {t : Addr} {s : Option Nat × Nat} {xs : List V} {sh : List (Option Nat × Nat)} (h : ShIt K H xs sh) (ht : SqT K H t [elV s.1, .int (s.2 : Int)]) : ShIt K H (xs ++ [.ref t]) (sh ++ [s]) := by
  refine ⟨by simp [h.1], fun i y n h1 h2 => ?_⟩
  by_cases hi : i < xs.length
  · rw [List.getElem?_append_left hi] at h1
    rw [List.getElem?_append_left (by rw [← h.1]; exact hi)] at h2
    exact h.2 i y n h1 h2
  · have hl : i < (xs ++ [V.ref t]).length := (List.getElem?_eq_some_iff.mp h1).1
    have e : i = xs.length := by simp at hl; omega
    subst e
    rw [List.getElem?_append_right (Nat.le_refl _)] at h1
    rw [h.1, List.getElem?_append_right (Nat.le_refl _)] at h2
    simp at h1 h2
    subst h1; subst h2
    exact ⟨t, rfl, ht⟩
theorem ShOk.snoc {sh : List (Option Nat × Nat)} {zs : List Nat} (h : ShOk sh zs) {j n z : Nat} (hj : j < sh.length) (hz : zs[j]? = some z) (h6 : z + n ≤ 6) : ShOk (sh ++ [(some j, n)]) (zs ++ [z + n]) where
  len := by simp [h.len]
  ne := by simp
  s0 := by rw [List.getElem?_append_left h.ne]; exact h.s0
  z0 := by rw [List.getElem?_append_left (by rw [← h.len]; exact h.ne)]; exact h.z0
  six := fun x hx => by
    rcases List.mem_append.mp hx with q | q
    · exact h.six x q
    · simp at q; omega
  go := fun i s h0 hs => by
    by_cases hi : i < sh.length
    · rw [List.getElem?_append_left hi] at hs
      obtain ⟨j', z', e1, e2, e3, e4⟩ := h.go i s h0 hs
      exact ⟨j', z', e1, e2, by rw [List.getElem?_append_left (by rw [← h.len]; omega)]; exact e3, by rw [List.getElem?_append_left (by rw [← h.len]; exact hi)]; exact e4⟩
    · have hl : i < (sh ++ [(some j, n)]).length := (List.getElem?_eq_some_iff.mp hs).1
      have e : i = sh.length := by simp at hl; omega
      subst e
      rw [List.getElem?_append_right (Nat.le_refl _)] at hs
      simp at hs
      subst hs
      refine ⟨j, z, rfl, hj, by rw [List.getElem?_append_left (by rw [← h.len]; exact hj)]; exact hz, ?_⟩
      rw [h.len, List.getElem?_append_right (Nat.le_refl _)]
      simp
structure Good (ms : Mks) (zs : List Nat) : Prop where
  wf : Wf ms
  len : ms.length = zs.length
  own0 : ∀ m, ms[0]? = some m → m.2 = []
  z0 : zs[0]? = some 0
  six : ∀ z ∈ zs, z ≤ 6
  go : ∀ (i : Nat) m, 0 < i → ms[i]? = some m → ∃ j z, m.1 = some j ∧ j < i ∧ zs[j]? = some z ∧ zs[i]? = some (z + m.2.length)
  kds : ∀ (i : Nat) m, ms[i]? = some m → ∀ k ∈ m.2, KdOk zs k
theorem ShIt.nil (K : PySem.W.Frag) (H : Hp) : ShIt K H [] [] := ⟨rfl, fun i x m h => by simp at h⟩
theorem nat_item {zs : List Nat} {j : Nat} (h : j < zs.length) : ∃ z : Nat, zs[j]? = some z ∧ atI (natsV zs) (j : Int) = some (.int (z : Int)) :=
  ⟨zs[j], List.getElem?_eq_getElem h, atI_nat (by rw [List.getElem?_map, List.getElem?_eq_getElem h]; rfl)⟩
def KIt (K : PySem.W.Frag) (H : Hp) (ys : List V) (ks : List Kd) : Prop := ys.length = ks.length ∧ ∀ (j : Nat) y k, ys[j]? = some y → ks[j]? = some k → ∃ t : Addr, y = .ref t ∧ SqT K H t (kdV k)
theorem KIt.nil (K : PySem.W.Frag) (H : Hp) : KIt K H [] [] := ⟨rfl, fun i x m h => by simp at h⟩
theorem KIt.same {K : PySem.W.Frag} {H H' : Hp} {ys : List V} {ks : List Kd} (e : Same H H') (h : KIt K H ys ks) : KIt K H' ys ks := ⟨h.1, fun i x s h1 h2 => by
  obtain ⟨t, e1, e2⟩ := h.2 i x s h1 h2
  exact ⟨t, e1, e.tup e2⟩⟩
theorem KIt.upd {K : PySem.W.Frag} {H : Hp} {ys zs : List V} {ks : List Kd} {r : Addr} {o : HO} (h : KIt K H ys ks) (hr : H r = some (.lst zs)) : KIt K (upd H r o) ys ks := ⟨h.1, fun i x s h1 h2 => by
  obtain ⟨t, e1, e2⟩ := h.2 i x s h1 h2
  exact ⟨t, e1, tup_upd e2 hr⟩⟩
theorem KIt.snoc {K : PySem.W.Frag} {H : Hp} {t : Addr} {k : Kd} {ys : List V} {ks : List Kd} (h : KIt K H ys ks) (ht : SqT K H t (kdV k)) : KIt K H (ys ++ [.ref t]) (ks ++ [k]) := by
  refine ⟨by simp [h.1], fun i y n h1 h2 => ?_⟩
  by_cases hi : i < ys.length
  · rw [List.getElem?_append_left hi] at h1
    rw [List.getElem?_append_left (by rw [← h.1]; exact hi)] at h2
    exact h.2 i y n h1 h2
  · have hl : i < (ys ++ [V.ref t]).length := (List.getElem?_eq_some_iff.mp h1).1
    have e : i = ys.length := by simp at hl; omega
    subst e
    rw [List.getElem?_append_right (Nat.le_refl _)] at h1
    rw [h.1, List.getElem?_append_right (Nat.le_refl _)] at h2
    simp at h1 h2
    subst h1; subst h2
    exact ⟨t, rfl, ht⟩
theorem KIt.rd {K : PySem.W.Frag} {H : Hp} {ys : List V} {ks : List Kd} (h : KIt K H ys ks) : RdAll K H ys (ks.map fun k => .tuple (kdL k)) := by
  refine ⟨by rw [List.length_map]; exact h.1, fun i x d hx hd => ?_⟩
  rw [List.getElem?_map] at hd
  cases q : ks[i]? with
  | none => rw [q] at hd; cases hd
  | some k =>
    rw [q] at hd
    cases hd
    obtain ⟨t, rfl, e2⟩ := h.2 i x k hx q
    exact rd_kd e2
theorem MIt.set {K : PySem.W.Frag} {H : Hp} {x : V} {m : Option Nat × List Kd} {xs : List V} {ms : Mks} {i : Nat} (h : MIt K H xs ms) (hx : ∃ (t l : Addr) (ks : List V), x = .ref t ∧ SqT K H t [elV m.1, .ref l] ∧ SqL K H l ks ∧ RdAll K H ks (m.2.map fun k => .tuple (kdL k))) :
    MIt K H (xs.set i x) (ms.set i m) := by
  refine ⟨by simp [h.1], fun j y n h1 h2 => ?_⟩
  by_cases e : i = j
  · subst e
    have l1 : i < (xs.set i x).length := (List.getElem?_eq_some_iff.mp h1).1
    have l2 : i < (ms.set i m).length := (List.getElem?_eq_some_iff.mp h2).1
    rw [List.length_set] at l1 l2
    rw [List.getElem?_set_self l1] at h1
    rw [List.getElem?_set_self l2] at h2
    cases h1; cases h2
    exact hx
  · rw [List.getElem?_set_ne e] at h1 h2
    exact h.2 j y n h1 h2
theorem MIt.take {K : PySem.W.Frag} {H : Hp} {xs : List V} {ms : Mks} (h : MIt K H xs ms) (n : Nat) : MIt K H (xs.take n) (ms.take n) := by
  refine ⟨by simp [h.1], fun j y m h1 h2 => ?_⟩
  by_cases e : j < n
  · rw [List.getElem?_take_of_lt e] at h1 h2
    exact h.2 j y m h1 h2
  · have l1 : j < (xs.take n).length := (List.getElem?_eq_some_iff.mp h1).1
    rw [List.length_take] at l1
    omega
theorem cut_to {xs : List V} {n : Nat} : cutV xs none (some (n : Int)) = xs.take n := by
  unfold cutV
  rw [HT.sIx_none, HT.sIx_nat, List.drop_zero, Nat.sub_zero]
  exact List.take_eq_take_iff.mpr (by omega)
def ownOf (ms : Mks) (c : Nat) : List Kd := match ms[c]? with | some m => m.2 | none => []
def fieldsUp (ms : Mks) : List Nat → List Kd
  | [] => []
  | e :: r => fieldsUp ms r ++ ownOf ms e
def fields (ms : Mks) (c : Nat) : List Kd := fieldsUp ms (elders ms c)
theorem fieldsUp_rev (ms : Mks) : ∀ l : List Nat, fieldsUp ms l = (l.reverse.map (ownOf ms)).flatten
  | [] => rfl
  | e :: r => by
    show fieldsUp ms r ++ ownOf ms e = _
    rw [fieldsUp_rev ms r]
    simp
theorem fields_step {ms : Mks} (w : Wf ms) {c : Nat} (hc : c < ms.length) : fields ms c = fieldsUp ms (rest ms (elOf ms c)) ++ ownOf ms c := by
  unfold fields
  rw [elders_step w hc]
  rfl
theorem Good.fields_len {ms : Mks} {zs : List Nat} (g : Good ms zs) : ∀ c : Nat, c < ms.length → ∃ z, zs[c]? = some z ∧ (fields ms c).length = z := by
  intro c
  induction c using Nat.strongRecOn with
  | ind c ih =>
    intro hc
    have hm := List.getElem?_eq_getElem hc
    rw [fields_step g.wf hc]
    have own : ownOf ms c = (ms[c]).2 := by unfold ownOf; rw [hm]
    have el : elOf ms c = (ms[c]).1 := by unfold elOf; rw [hm]; rfl
    rcases Nat.eq_zero_or_pos c with z | z
    · subst z
      refine ⟨0, g.z0, ?_⟩
      rw [own, g.own0 _ hm, el, g.wf.first _ hm]
      rfl
    · obtain ⟨j, y, e1, e2, e3, e4⟩ := g.go c _ z hm
      obtain ⟨z', f1, f2⟩ := ih j e2 (by omega)
      rw [e3] at f1
      cases f1
      refine ⟨_, e4, ?_⟩
      rw [own, el, e1, List.length_append]
      show (fields ms j).length + _ = _
      rw [f2]
theorem Good.fields_six {ms : Mks} {zs : List Nat} (g : Good ms zs) {c : Nat} (hc : c < ms.length) : (fields ms c).length ≤ 6 := by
  obtain ⟨z, h1, h2⟩ := g.fields_len c hc
  have := g.six z (List.mem_of_getElem? h1)
  omega
theorem RdAll.append {K : PySem.W.Frag} {H : Hp} : ∀ {xs ys : List V} {ds es : List PyData}, RdAll K H xs ds → RdAll K H ys es → RdAll K H (xs ++ ys) (ds ++ es)
  | [], _, [], _, _, r => r
  | [], _, _ :: _, _, h, _ => nomatch h.1
  | _ :: _, _, [], _, h, _ => nomatch h.1
  | x :: xs, ys, d :: ds, es, h, r => RdAll.cons (h.2 0 x d rfl rfl) (RdAll.append ⟨by simpa using h.1, fun i a b h1 h2 => h.2 (i + 1) a b (by simpa using h1) (by simpa using h2)⟩ r)
abbrev kdsD (ks : List Kd) : List PyData := ks.map fun k => PyData.tuple (kdL k)
theorem bitAnd_nat (m n : Nat) : Builtin.bitAnd (m : Int) (n : Int) = ((m &&& n : Nat) : Int) := by
  unfold Builtin.bitAnd
  simp
def below (ms : Mks) : Kd → Kd → Bool
  | _, .any => true
  | .num, .num => true
  | .whole c, .whole d => decide (d ∈ elders ms c)
  | .raw c m, .raw d n => decide (c = d) && decide (m &&& n = n)
  | _, _ => false
def KAt (K : PySem.W.Frag) (H : Hp) (v : V) (k : Kd) : Prop := ∃ t : Addr, v = .ref t ∧ SqT K H t (kdV k)
theorem KAt.same {K : PySem.W.Frag} {H H' : Hp} {v : V} {k : Kd} (e : Same H H') (h : KAt K H v k) : KAt K H' v k := let ⟨t, a, b⟩ := h; ⟨t, a, e.tup b⟩
theorem KIt.at {K : PySem.W.Frag} {H : Hp} {ys : List V} {ks : List Kd} (h : KIt K H ys ks) {i : Nat} {y : V} (hy : ys[i]? = some y) : ∃ k, ks[i]? = some k ∧ KAt K H y k := by
  have hi : i < ks.length := by rw [← h.1]; exact (List.getElem?_eq_some_iff.mp hy).1
  obtain ⟨t, e1, e2⟩ := h.2 i y _ hy (List.getElem?_eq_getElem hi)
  exact ⟨ks[i], List.getElem?_eq_getElem hi, t, e1, e2⟩
theorem kdD_ok (k : Kd) : PySem.SeqAt.shaped (.tuple (kdL k)) = true := by
  cases k <;> (simp only [kdL, PySem.SeqAt.shaped, PyData.canLay0, PyData.canLayAll0, PyData.depth, PyData.depthAll]; decide +kernel)
theorem V_int_nat {a b : Nat} : (V.int (a : Int) = V.int (b : Int)) ↔ a = b := ⟨fun h => by
  have h' : (a : Int) = (b : Int) := V.int.inj h
  omega, fun h => by rw [h]⟩
theorem dec_nat (a b : Nat) : decide (V.int (a : Int) = V.int (b : Int)) = decide (a = b) := decide_eq_decide.mpr V_int_nat
theorem nAN : ¬ (V.str "any" = V.str "number") := by decide +kernel
theorem nAW : ¬ (V.str "any" = V.str "whole") := by decide +kernel
theorem nAR : ¬ (V.str "any" = V.str "raw") := by decide +kernel
theorem nNW : ¬ (V.str "number" = V.str "whole") := by decide +kernel
theorem nNR : ¬ (V.str "number" = V.str "raw") := by decide +kernel
theorem nWN : ¬ (V.str "whole" = V.str "number") := by decide +kernel
theorem nWR : ¬ (V.str "whole" = V.str "raw") := by decide +kernel
theorem nRN : ¬ (V.str "raw" = V.str "number") := by decide +kernel
theorem nRW : ¬ (V.str "raw" = V.str "whole") := by decide +kernel
theorem KIt.set {K : PySem.W.Frag} {H : Hp} {t : Addr} {k : Kd} {ys : List V} {ks : List Kd} {i : Nat} (h : KIt K H ys ks) (ht : SqT K H t (kdV k)) : KIt K H (ys.set i (.ref t)) (ks.set i k) := by
  refine ⟨by simp [h.1], fun j y n h1 h2 => ?_⟩
  by_cases e : i = j
  · subst e
    have l1 : i < (ys.set i (.ref t)).length := (List.getElem?_eq_some_iff.mp h1).1
    have l2 : i < (ks.set i k).length := (List.getElem?_eq_some_iff.mp h2).1
    rw [List.length_set] at l1 l2
    rw [List.getElem?_set_self l1] at h1
    rw [List.getElem?_set_self l2] at h2
    cases h1; cases h2
    exact ⟨t, rfl, ht⟩
  · rw [List.getElem?_set_ne e] at h1 h2
    exact h.2 j y n h1 h2
theorem KIt.append {K : PySem.W.Frag} {H : Hp} {xs ys : List V} {js ks : List Kd} (h : KIt K H xs js) (r : KIt K H ys ks) : KIt K H (xs ++ ys) (js ++ ks) := by
  refine ⟨by simp [h.1, r.1], fun i y n h1 h2 => ?_⟩
  by_cases hi : i < xs.length
  · rw [List.getElem?_append_left hi] at h1
    rw [List.getElem?_append_left (by rw [← h.1]; exact hi)] at h2
    exact h.2 i y n h1 h2
  · rw [List.getElem?_append_right (by omega)] at h1
    rw [List.getElem?_append_right (by rw [← h.1]; omega), ← h.1] at h2
    exact r.2 _ y n h1 h2
theorem all_snoc {P : Kd → Prop} {ks : List Kd} {k : Kd} (h : ∀ x ∈ ks, P x) (hk : P k) : ∀ x ∈ ks ++ [k], P x := fun x hx => by
  rcases List.mem_append.mp hx with z | z
  · exact h x z
  · simp at z; rw [z]; exact hk
theorem RdV.tupInv {K : PySem.W.Frag} {H : Hp} {v : V} {ds : List PyData} (h : RdV K H v (.tuple ds)) : ∃ (a : Addr) (xs : List V), v = .ref a ∧ SqT K H a xs ∧ RdAll K H xs ds := by
  cases h with
  | tup h hl hi => exact ⟨_, _, rfl, h, hl, hi⟩
theorem RdV.intInv {K : PySem.W.Frag} {H : Hp} {v : V} {i : Int} (h : RdV K H v (.int i)) : v = .int i := by cases h; rfl
theorem kd_tail {K : PySem.W.Frag} {H : Hp} {xs : List V} {k : Kd} (h : RdAll K H xs (kdL k)) : 0 < xs.length ∧ xs.length ≤ 3 ∧ ∃ ns : List Int, xs.drop 1 = ns.map V.int := by
  have hl := h.1
  cases k with
  | any => exact ⟨by simp [kdL] at hl; omega, by simp [kdL] at hl; omega, [], List.drop_eq_nil_of_le (by simp [kdL] at hl; omega)⟩
  | num => exact ⟨by simp [kdL] at hl; omega, by simp [kdL] at hl; omega, [], List.drop_eq_nil_of_le (by simp [kdL] at hl; omega)⟩
  | whole c =>
    match xs, hl with
    | [x, y], _ => exact ⟨by simp, by simp, [(c : Int)], by rw [RdV.intInv (h.2 1 y (.int c) rfl rfl)]; rfl⟩
  | raw c m =>
    match xs, hl with
    | [x, y, z], _ => exact ⟨by simp, by simp, [(c : Int), (m : Int)], by rw [RdV.intInv (h.2 1 y (.int c) rfl rfl), RdV.intInv (h.2 2 z (.int m) rfl rfl)]; rfl⟩
theorem cut_from1 {xs : List V} (h : 0 < xs.length) : cutV xs (some 1) none = xs.drop 1 := by
  unfold cutV
  rw [HT.sIx_none, show (some (1 : Int)) = some ((1 : Nat) : Int) from rfl, HT.sIx_nat, show min 1 xs.length = 1 by omega]
  exact List.take_of_length_le (by simp)
def Few (ms : Mks) : Prop := ∀ (i : Nat) m, ms[i]? = some m → m.2.length ≤ 50
theorem Good.fewF {ms : Mks} {zs : List Nat} (g : Good ms zs) : Few ms := fun i m hm => by
  rcases Nat.eq_zero_or_pos i with z | z
  · subst z
    rw [g.own0 m hm]
    decide
  · obtain ⟨j, y, _, _, _, e4⟩ := g.go i m z hm
    have := g.six _ (List.mem_of_getElem? e4)
    omega
theorem Few.up {ms : Mks} (f : Few ms) : ∀ l : List Nat, (fieldsUp ms l).length ≤ 50 * l.length
  | [] => Nat.le_refl _
  | e :: r => by
    have ih := f.up r
    show (fieldsUp ms r ++ ownOf ms e).length ≤ _
    rw [List.length_append, List.length_cons]
    have : (ownOf ms e).length ≤ 50 := by
      unfold ownOf
      cases q : ms[e]? with
      | none => simp
      | some m => exact f e m q
    omega
theorem Few.fields {ms : Mks} (f : Few ms) (w : Wf ms) {c : Nat} (hc : c < ms.length) : (Mine.fields ms c).length ≤ 400 := by
  have h1 := f.up (elders ms c)
  have h2 := (elders_le w c hc).1
  have h3 := w.few
  show (fieldsUp ms (elders ms c)).length ≤ 400
  omega
theorem rd_kd_upd {K : PySem.W.Frag} {H : Hp} {v : V} {k : Kd} {l : Addr} {zs : List V} {o : HO} (h : RdV K H v (.tuple (kdL k))) (hl : H l = some (.lst zs)) : RdV K (upd H l o) v (.tuple (kdL k)) := by
  obtain ⟨a, xs, rfl, ha, hR⟩ := RdV.tupInv h
  refine .tup' (tup_upd ha hl) ⟨hR.1, fun i x d hx hd => ?_⟩
  have z := hR.2 i x d hx hd
  have hm : d ∈ kdL k := List.mem_of_getElem? hd
  have hat : (∃ s, d = .str s) ∨ ∃ n, d = .int n := by
    cases k <;> simp [kdL] at hm
    · exact .inl ⟨_, hm⟩
    · exact .inl ⟨_, hm⟩
    · rcases hm with e | e
      · exact .inl ⟨_, e⟩
      · exact .inr ⟨_, e⟩
    · rcases hm with e | e | e
      · exact .inl ⟨_, e⟩
      · exact .inr ⟨_, e⟩
      · exact .inr ⟨_, e⟩
  rcases hat with ⟨s, rfl⟩ | ⟨n, rfl⟩
  · cases z; exact .str _
  · cases z; exact .int _
theorem rdAll_kd_upd {K : PySem.W.Frag} {H : Hp} {xs : List V} {ks : List Kd} {l : Addr} {zs : List V} {o : HO} (h : RdAll K H xs (kdsD ks)) (hl : H l = some (.lst zs)) : RdAll K (upd H l o) xs (kdsD ks) := by
  refine ⟨h.1, fun i x d hx hd => ?_⟩
  have z := h.2 i x d hx hd
  rw [List.getElem?_map] at hd
  cases q : ks[i]? with
  | none => rw [q] at hd; cases hd
  | some k =>
    rw [q] at hd
    cases hd
    exact rd_kd_upd z hl
def near (ms : Mks) (c d : Nat) : Nat := ((elders ms c).filter fun e => decide (e ∈ elders ms d)).headD 0
def join (ms : Mks) : Kd → Kd → Kd
  | .num, .num => .num
  | .whole c, .whole d => .whole (near ms c d)
  | .raw c m, .raw d n => if c = d then .raw c (m &&& n) else .any
  | _, _ => .any
def InM (ms : Mks) (k : Kd) : Prop := ∀ c, k = .whole c → c < ms.length
theorem KdOk.inM {ms : Mks} {zs : List Nat} (g : Good ms zs) {k : Kd} (h : KdOk zs k) : InM ms k := fun c e => by
  rw [e] at h
  rw [g.len]
  exact h
theorem sAN : (Str.ofString "any" == Str.ofString "number") = false := by decide +kernel
theorem sAW : (Str.ofString "any" == Str.ofString "whole") = false := by decide +kernel
theorem sAR : (Str.ofString "any" == Str.ofString "raw") = false := by decide +kernel
theorem sNA : (Str.ofString "number" == Str.ofString "any") = false := by decide +kernel
theorem sNW : (Str.ofString "number" == Str.ofString "whole") = false := by decide +kernel
theorem sNR : (Str.ofString "number" == Str.ofString "raw") = false := by decide +kernel
theorem sWA : (Str.ofString "whole" == Str.ofString "any") = false := by decide +kernel
theorem sWN : (Str.ofString "whole" == Str.ofString "number") = false := by decide +kernel
theorem sWR : (Str.ofString "whole" == Str.ofString "raw") = false := by decide +kernel
theorem sRA : (Str.ofString "raw" == Str.ofString "any") = false := by decide +kernel
theorem sRN : (Str.ofString "raw" == Str.ofString "number") = false := by decide +kernel
theorem sRW : (Str.ofString "raw" == Str.ofString "whole") = false := by decide +kernel
theorem beq_nat (a b : Nat) : ((a : Int) == (b : Int)) = decide (a = b) := by
  rw [Bool.eq_iff_iff, beq_iff_eq, decide_eq_true_iff]
  omega
theorem kd_eqv (k k' : Kd) : PyData.eqv (.tuple (kdL k)) (.tuple (kdL k')) = decide (k = k') := by
  cases k <;> cases k' <;> simp only [kdL, PyData.eqv, PyData.eqvAll, sAN, sAW, sAR, sNA, sNW, sNR, sWA, sWN, sWR, sRA, sRN, sRW, Bool.false_and, Bool.true_and, Bool.and_true, beq_self_eq_true, beq_nat] <;> simp
def signsL : List Str := ["push", "load", "store", "dup", "swap", "drop", "add", "sub", "mul", "div", "rem", "less", "same", "jump", "zero", "kin", "make", "fill", "begin", "get", "put", "call", "toss", "say", "give"]
theorem inV_strs (n : Str) : ∀ l : List Str, inV (.str n) (l.map V.str) = decide (n ∈ l)
  | [] => by simp [inV]
  | x :: r => by
    have ih := inV_strs n r
    show (eqV (.str x) (.str n) || inV (.str n) (r.map V.str)) = decide (n ∈ x :: r)
    rw [ih]
    by_cases h : x = n
    · subst h; simp [eqV]
    · have h' : ¬ n = x := fun e => h e.symm
      simp [eqV, h, h', List.mem_cons]
theorem flat_strs : ∀ l : List Str, (l.map V.str).all flatV = true
  | [] => rfl
  | x :: r => by show (flatV (.str x) && (r.map V.str).all flatV) = true; rw [flat_strs r]; rfl
inductive Rw where
  | push (w : Int) | load (b : Nat) | store (b : Nat) | bare (s : Str) | jump (t : Nat) | zero (t : Nat) | kin (c t : Nat) | make (c : Nat) | beg (c : Nat) | fill (c f : Nat) | get (c f : Nat) | put (c f : Nat) | call (p : Nat)
def rwS : Rw → Str
  | .push _ => "push" | .load _ => "load" | .store _ => "store" | .bare s => s | .jump _ => "jump" | .zero _ => "zero" | .kin _ _ => "kin" | .make _ => "make" | .beg _ => "begin" | .fill _ _ => "fill" | .get _ _ => "get" | .put _ _ => "put" | .call _ => "call"
def rwN : Rw → List Int
  | .push w => [w] | .load b => [b] | .store b => [b] | .bare _ => [] | .jump t => [t] | .zero t => [t] | .kin c t => [c, t] | .make c => [c] | .beg c => [c] | .fill c f => [c, f] | .get c f => [c, f] | .put c f => [c, f] | .call p => [p]
def rwV (r : Rw) : List V := .str (rwS r) :: (rwN r).map V.int
def rwD (r : Rw) : PyData := .tuple (.str (rwS r) :: (rwN r).map PyData.int)
def bareL : List Str := ["dup", "swap", "drop", "add", "sub", "mul", "div", "rem", "less", "same", "toss", "say", "give"]
def Rw.Ok (zs : List Nat) (np nb nr : Nat) : Rw → Prop
  | .push w => -2147483648 ≤ w ∧ w < 2147483648
  | .load b => b < nb
  | .store b => b < nb
  | .bare s => s ∈ bareL
  | .jump t => t < nr
  | .zero t => t < nr
  | .kin c t => c < zs.length ∧ t < nr
  | .make c => c < zs.length
  | .beg c => c < zs.length
  | .fill c f => ∃ z, zs[c]? = some z ∧ f < z
  | .get c f => ∃ z, zs[c]? = some z ∧ f < z
  | .put c f => ∃ z, zs[c]? = some z ∧ f < z
  | .call p => p < np
structure Pt where
  takes : List Kd
  gives : Kd
  boxes : Nat
  height : Nat
  rows : List Rw
  spans : List (Nat × Nat × Nat)
def stV (s : Nat × Nat × Nat) : List V := [.int (s.1 : Int), .int (s.2.1 : Int), .int (s.2.2 : Int)]
def stD (s : Nat × Nat × Nat) : PyData := .tuple [.int (s.1 : Int), .int (s.2.1 : Int), .int (s.2.2 : Int)]
def ptD (p : Pt) : PyData := .tuple [.list (kdsD p.takes), .tuple (kdL p.gives), .int (p.boxes : Int), .int (p.height : Int), .list (p.rows.map rwD), .list (p.spans.map stD)]
def bkD (ms : Mks) (ps : List Pt) : PyData := .tuple [mksD ms, .list (ps.map ptD)]
structure PtOk (zs : List Nat) (np : Nat) (p : Pt) : Prop where
  tk : ∀ k ∈ p.takes, KdOk zs k
  gv : KdOk zs p.gives
  bx : p.boxes ≤ 8
  tb : p.takes.length ≤ p.boxes
  h1 : 1 ≤ p.height
  h8 : p.height ≤ 8
  r1 : 1 ≤ p.rows.length
  r2 : p.rows.length ≤ 100
  ro : ∀ r ∈ p.rows, r.Ok zs np p.boxes p.rows.length
  la : ∃ l r, p.rows = l ++ [r] ∧ (r = .bare "toss" ∨ r = .bare "give" ∨ ∃ t, r = .jump t)
  s8 : p.spans.length ≤ 8
  so : ∀ s ∈ p.spans, s.1 < s.2.1 ∧ s.2.1 ≤ p.rows.length ∧ s.2.2 < p.rows.length
theorem rd_ints {K : PySem.W.Frag} {H : Hp} : ∀ l : List Int, RdAll K H (l.map V.int) (l.map PyData.int)
  | [] => .nil
  | x :: r => .cons (.int x) (rd_ints r)
theorem rd_rw {K : PySem.W.Frag} {H : Hp} {t : Addr} {r : Rw} (h : SqT K H t (rwV r)) : RdV K H (.ref t) (rwD r) := .tup' h (.cons (.str _) (rd_ints _))
theorem rd_st {K : PySem.W.Frag} {H : Hp} {t : Addr} {s : Nat × Nat × Nat} (h : SqT K H t (stV s)) : RdV K H (.ref t) (stD s) := .tup' h (.cons (.int _) (.cons (.int _) (.cons (.int _) .nil)))
theorem modN {e : Int} {n : Nat} (h : 0 < n) : ∃ k : Nat, e % (n : Int) = (k : Int) ∧ k < n := by
  have a0 := Int.emod_nonneg e (show (n : Int) ≠ 0 by omega)
  have a1 := Int.emod_lt_of_pos e (show (0 : Int) < (n : Int) by omega)
  exact ⟨(e % (n : Int)).toNat, by omega, by omega⟩
theorem ints_lay : ∀ l : List Int, PyData.canLayAll0 (l.map PyData.int) = true ∧ PyData.depthAll (l.map PyData.int) = 0
  | [] => ⟨rfl, rfl⟩
  | x :: r => by
    obtain ⟨h1, h2⟩ := ints_lay r
    refine ⟨?_, ?_⟩
    · show (PyData.canLay0 (.int x) && PyData.canLayAll0 (r.map PyData.int)) = true
      rw [h1]; rfl
    · show max (PyData.depth (.int x)) (PyData.depthAll (r.map PyData.int)) = 0
      rw [h2]; rfl
theorem lay_mapS {α : Type} {f : α → PyData} {n : Nat} : ∀ (l : List α) (_ : ∀ x ∈ l, PyData.canLay0 (f x) = true ∧ PyData.depth (f x) ≤ n), PyData.canLayAll0 (l.map f) = true ∧ PyData.depthAll (l.map f) ≤ n
  | [], _ => ⟨rfl, Nat.zero_le _⟩
  | x :: r, hf => by
    obtain ⟨h1, h2⟩ := lay_mapS r (fun y hy => hf y (List.mem_cons_of_mem _ hy))
    have hx := hf x List.mem_cons_self
    refine ⟨?_, ?_⟩
    · show (PyData.canLay0 (f x) && PyData.canLayAll0 (r.map f)) = true
      rw [hx.1, h1]; rfl
    · exact Nat.max_le.mpr ⟨hx.2, h2⟩
theorem lay_map {α : Type} {f : α → PyData} {n : Nat} (hf : ∀ x, PyData.canLay0 (f x) = true ∧ PyData.depth (f x) ≤ n) (l : List α) : PyData.canLayAll0 (l.map f) = true ∧ PyData.depthAll (l.map f) ≤ n := lay_mapS l fun x _ => hf x
theorem kd_lay (k : Kd) : PyData.canLay0 (.tuple (kdL k)) = true ∧ PyData.depth (.tuple (kdL k)) ≤ 1 := by
  cases k <;> exact ⟨by simp only [kdL, PyData.canLay0, PyData.canLayAll0]; decide +kernel, by simp [kdL, PyData.depth, PyData.depthAll]⟩
def Rw.Sg (r : Rw) : Prop := PyData.canLay0 (.str (rwS r)) = true
theorem Rw.Ok.sg {zs : List Nat} {np nb nr : Nat} {r : Rw} (h : r.Ok zs np nb nr) : r.Sg := by
  have all : ∀ s ∈ bareL, PyData.canLay0 (.str s) = true := by decide +kernel
  cases r with
  | bare s => exact all s h
  | push w => exact (by decide +kernel : PyData.canLay0 (.str "push") = true)
  | load b => exact (by decide +kernel : PyData.canLay0 (.str "load") = true)
  | store b => exact (by decide +kernel : PyData.canLay0 (.str "store") = true)
  | jump b => exact (by decide +kernel : PyData.canLay0 (.str "jump") = true)
  | zero b => exact (by decide +kernel : PyData.canLay0 (.str "zero") = true)
  | kin c b => exact (by decide +kernel : PyData.canLay0 (.str "kin") = true)
  | make c => exact (by decide +kernel : PyData.canLay0 (.str "make") = true)
  | beg c => exact (by decide +kernel : PyData.canLay0 (.str "begin") = true)
  | fill c b => exact (by decide +kernel : PyData.canLay0 (.str "fill") = true)
  | get c b => exact (by decide +kernel : PyData.canLay0 (.str "get") = true)
  | put c b => exact (by decide +kernel : PyData.canLay0 (.str "put") = true)
  | call b => exact (by decide +kernel : PyData.canLay0 (.str "call") = true)
theorem rw_lay (r : Rw) (hs : r.Sg) : PyData.canLay0 (rwD r) = true ∧ PyData.depth (rwD r) ≤ 1 := by
  obtain ⟨h1, h2⟩ := ints_lay (rwN r)
  refine ⟨?_, ?_⟩
  · show (PyData.canLay0 (.str (rwS r)) && PyData.canLayAll0 ((rwN r).map PyData.int)) = true
    rw [h1, Bool.and_true]
    exact hs
  · show max (PyData.depth (.str (rwS r))) (PyData.depthAll ((rwN r).map PyData.int)) + 1 ≤ 1
    rw [h2]; exact Nat.le_refl _
theorem pt_lay (p : Pt) (hs : ∀ r ∈ p.rows, r.Sg) : PyData.canLay0 (ptD p) = true ∧ PyData.depth (ptD p) ≤ 3 := by
  have h := lay_map kd_lay p.takes
  have g := kd_lay p.gives
  have r := lay_mapS p.rows (fun r hr => rw_lay r (hs r hr))
  have s := lay_map (f := stD) (n := 1) (fun s => ⟨rfl, Nat.le_refl _⟩) p.spans
  refine ⟨?_, ?_⟩
  · show (PyData.canLayAll0 (kdsD p.takes) && (PyData.canLay0 (.tuple (kdL p.gives)) && (PyData.canLay0 (.int p.boxes) && (PyData.canLay0 (.int p.height) && (PyData.canLayAll0 (p.rows.map rwD) && (PyData.canLayAll0 (p.spans.map stD) && true)))))) = true
    rw [h.1, g.1, r.1, s.1]; rfl
  · show max (PyData.depthAll (kdsD p.takes) + 1) (max (PyData.depth (.tuple (kdL p.gives))) (max (PyData.depth (.int p.boxes)) (max (PyData.depth (.int p.height)) (max (PyData.depthAll (p.rows.map rwD) + 1) (max (PyData.depthAll (p.spans.map stD) + 1) 0))))) + 1 ≤ 3
    have e1 : PyData.depth (.int p.boxes) = 0 := rfl
    have e2 : PyData.depth (.int p.height) = 0 := rfl
    have h2 : PyData.depthAll (kdsD p.takes) ≤ 1 := h.2
    have g2 := g.2
    have r2 := r.2
    have s2 := s.2
    omega
theorem mk_lay (m : Option Nat × List Kd) : PyData.canLay0 (mkD m) = true ∧ PyData.depth (mkD m) ≤ 3 := by
  obtain ⟨o, ks⟩ := m
  have h := lay_map kd_lay ks
  refine ⟨?_, ?_⟩
  · show (PyData.canLay0 (elD o) && (PyData.canLayAll0 (kdsD ks) && true)) = true
    have : PyData.canLay0 (elD o) = true := by cases o <;> rfl
    rw [this, h.1]; rfl
  · show max (PyData.depth (elD o)) (max (PyData.depthAll (kdsD ks) + 1) 0) + 1 ≤ 3
    have : PyData.depth (elD o) = 0 := by cases o <;> rfl
    have h2 : PyData.depthAll (kdsD ks) ≤ 1 := h.2
    omega
def SgAll (ps : List Pt) : Prop := ∀ p ∈ ps, ∀ r ∈ p.rows, r.Sg
theorem bkD_ok (ms : Mks) (ps : List Pt) (hs : SgAll ps) : PySem.SeqAt.shaped (bkD ms ps) = true := by
  have am := lay_map mk_lay ms
  have ap := lay_mapS ps (fun p hp => pt_lay p (hs p hp))
  show ((PyData.canLayAll0 (ms.map mkD) && (PyData.canLayAll0 (ps.map ptD) && true)) && decide (max (PyData.depthAll (ms.map mkD) + 1) (max (PyData.depthAll (ps.map ptD) + 1) 0) + 1 ≤ 64)) = true
  rw [am.1, ap.1]
  have h1 := am.2
  have h2 := ap.2
  simp only [Bool.true_and, decide_eq_true_eq]
  omega
theorem bkD_self (ms : Mks) (ps : List Pt) (hs : SgAll ps) : PyData.eqv (bkD ms ps) (bkD ms ps) = true := PySem.SeqAt.eqv_refl _ (PySem.SeqAt.canLay_of_shaped (bkD_ok ms ps hs))
theorem signs_cut : Txt.split ("push load store dup swap drop add sub mul div rem less same jump zero kin make fill begin get put call" ++ " toss say give") " " = signsL := by decide +kernel
theorem signs_all : ∀ x ∈ signsL, x = "push" ∨ x ∈ (["load", "store"] : List Str) ∨ x ∈ (["jump", "zero"] : List Str) ∨ x = "kin" ∨ x = "call" ∨ x ∈ (["fill", "get", "put"] : List Str) ∨ x ∈ (["make", "fill", "begin", "get", "put"] : List Str) ∨ x ∈ bareL := by decide +kernel
theorem RdV.lstInv {K : PySem.W.Frag} {H : Hp} {v : V} {ds : List PyData} (h : RdV K H v (.list ds)) : ∃ (a : Addr) (xs : List V), v = .ref a ∧ SqL K H a xs ∧ RdAll K H xs ds := by
  cases h with
  | lst h hl hi => exact ⟨_, _, rfl, h, hl, hi⟩
theorem RdAll.at {K : PySem.W.Frag} {H : Hp} {xs : List V} {ds : List PyData} {i : Nat} {d : PyData} (h : RdAll K H xs ds) (hd : ds[i]? = some d) : ∃ x, xs[i]? = some x ∧ RdV K H x d := by
  have hi : i < xs.length := by rw [h.1]; exact (List.getElem?_eq_some_iff.mp hd).1
  exact ⟨xs[i], List.getElem?_eq_getElem hi, h.2 i _ d (List.getElem?_eq_getElem hi) hd⟩
theorem rd_el {K : PySem.W.Frag} {H : Hp} {v : V} {o : Option Nat} (h : RdV K H v (elD o)) : v = elV o := by
  cases o with
  | none => cases h; rfl
  | some n => cases h; rfl
theorem MksAt.ofRd {K : PySem.W.Frag} {H : Hp} {v : V} {ms : Mks} (h : RdV K H v (mksD ms)) : ∃ a, v = .ref a ∧ MksAt K H a ms := by
  obtain ⟨a, xs, rfl, hS, hR⟩ := RdV.lstInv h
  refine ⟨a, rfl, xs, hS, by have := hR.1; simpa using this, fun i x m hx hm => ?_⟩
  have z := hR.2 i x (mkD m) hx (by rw [List.getElem?_map, hm]; rfl)
  obtain ⟨t, ys, rfl, hT, hY⟩ := RdV.tupInv z
  have hl := hY.1
  obtain ⟨y0, y1, rfl⟩ := ex2 hl
  have e0 := rd_el (hY.2 0 y0 (elD m.1) rfl rfl)
  obtain ⟨l, ks, e1, hls, hk⟩ := RdV.lstInv (hY.2 1 y1 _ rfl rfl)
  subst e0; subst e1
  exact ⟨t, l, ks, rfl, hT, hls, hk⟩
theorem bk_inv {K : PySem.W.Frag} {H : Hp} {v : V} {ms : Mks} {ps : List Pt} (hB : RdV K H v (bkD ms ps)) : ∃ (b mk pl : Addr) (xs : List V), v = .ref b ∧ SqT K H b [.ref mk, .ref pl] ∧ MksAt K H mk ms ∧ SqL K H pl xs ∧ RdAll K H xs (ps.map ptD) := by
  obtain ⟨b', bs, e, hT, hR⟩ := RdV.tupInv hB
  have hl := hR.1
  obtain ⟨v0, v1, rfl⟩ := ex2 hl
  obtain ⟨mk, rfl, hM⟩ := MksAt.ofRd (hR.2 0 v0 _ rfl rfl)
  obtain ⟨pl, xs, rfl, hL, hP⟩ := RdV.lstInv (hR.2 1 v1 _ rfl rfl)
  exact ⟨b', mk, pl, xs, e, hT, hM, hL, hP⟩
theorem pt_inv {K : PySem.W.Frag} {H : Hp} {v : V} {p : Pt} (h : RdV K H v (ptD p)) : ∃ (t l0 l4 l5 : Addr) (ks vs4 vs5 : List V) (g : V), v = .ref t ∧ SqT K H t [.ref l0, g, .int (p.boxes : Int), .int (p.height : Int), .ref l4, .ref l5] ∧ SqL K H l0 ks ∧ RdAll K H ks (kdsD p.takes) ∧ RdV K H g (.tuple (kdL p.gives)) ∧ SqL K H l4 vs4 ∧ RdAll K H vs4 (p.rows.map rwD) ∧ SqL K H l5 vs5 ∧ RdAll K H vs5 (p.spans.map stD) := by
  obtain ⟨t, fs, e, hT, hR⟩ := RdV.tupInv h
  have hfl := hR.1
  obtain ⟨f0, f1, f2, f3, f4, f5, rfl⟩ := ex6 hfl
  obtain ⟨l0, ks, z0, hl0, hk⟩ := RdV.lstInv (hR.2 0 f0 _ rfl rfl)
  have rg := hR.2 1 f1 _ rfl rfl
  have z2 := RdV.intInv (hR.2 2 f2 _ rfl rfl)
  have z3 := RdV.intInv (hR.2 3 f3 _ rfl rfl)
  obtain ⟨l4, vs4, z4, hl4, hk4⟩ := RdV.lstInv (hR.2 4 f4 _ rfl rfl)
  obtain ⟨l5, vs5, z5, hl5, hk5⟩ := RdV.lstInv (hR.2 5 f5 _ rfl rfl)
  subst z0; subst z2; subst z3; subst z4; subst z5
  exact ⟨t, l0, l4, l5, ks, vs4, vs5, f1, e, hT, hl0, hk, rg, hl4, hk4, hl5, hk5⟩
theorem cutR {G : Prop} {R : St → Hp → Prop} (P : St → Hp → Prop) (main : (∀ σ' H', P σ' H' → R σ' H') → G) (k : ∀ σ' H', P σ' H' → R σ' H') : G := main k
def TIt {α : Type} (f : α → List V) (K : PySem.W.Frag) (H : Hp) (ys : List V) (ks : List α) : Prop := ys.length = ks.length ∧ ∀ (j : Nat) y k, ys[j]? = some y → ks[j]? = some k → ∃ t : Addr, y = .ref t ∧ SqT K H t (f k)
theorem TIt.nil {α : Type} {f : α → List V} (K : PySem.W.Frag) (H : Hp) : TIt f K H [] [] := ⟨rfl, fun i x m h => by simp at h⟩
theorem TIt.same {α : Type} {f : α → List V} {K : PySem.W.Frag} {H H' : Hp} {ys : List V} {ks : List α} (e : Same H H') (h : TIt f K H ys ks) : TIt f K H' ys ks := ⟨h.1, fun i x s h1 h2 => by
  obtain ⟨t, e1, e2⟩ := h.2 i x s h1 h2
  exact ⟨t, e1, e.tup e2⟩⟩
theorem TIt.upd {α : Type} {f : α → List V} {K : PySem.W.Frag} {H : Hp} {ys zs : List V} {ks : List α} {r : Addr} {o : HO} (h : TIt f K H ys ks) (hr : H r = some (.lst zs)) : TIt f K (upd H r o) ys ks := ⟨h.1, fun i x s h1 h2 => by
  obtain ⟨t, e1, e2⟩ := h.2 i x s h1 h2
  exact ⟨t, e1, tup_upd e2 hr⟩⟩
theorem TIt.snoc {α : Type} {f : α → List V} {K : PySem.W.Frag} {H : Hp} {t : Addr} {k : α} {ys : List V} {ks : List α} (h : TIt f K H ys ks) (ht : SqT K H t (f k)) : TIt f K H (ys ++ [.ref t]) (ks ++ [k]) := by
  refine ⟨by simp [h.1], fun j y x hy hx => ?_⟩
  by_cases hj : j < ys.length
  · rw [List.getElem?_append_left hj] at hy
    rw [List.getElem?_append_left (by rw [← h.1]; exact hj)] at hx
    exact h.2 j y x hy hx
  · have hl : j = ys.length := by
      have := (List.getElem?_eq_some_iff.mp hy).1
      simp at this
      omega
    subst hl
    rw [List.getElem?_append_right (Nat.le_refl _), Nat.sub_self] at hy
    rw [h.1, List.getElem?_append_right (Nat.le_refl _), Nat.sub_self] at hx
    cases hy
    cases hx
    exact ⟨t, rfl, ht⟩
theorem TIt.rd {α : Type} {f : α → List V} {g : α → PyData} {K : PySem.W.Frag} {H : Hp} {ys : List V} {ks : List α} (hf : ∀ t k, SqT K H t (f k) → RdV K H (.ref t) (g k)) (h : TIt f K H ys ks) : RdAll K H ys (ks.map g) := by
  refine ⟨by rw [h.1, List.length_map], fun i x d h1 h2 => ?_⟩
  rw [List.getElem?_map] at h2
  cases e : ks[i]? with
  | none => rw [e] at h2; cases h2
  | some k =>
    rw [e] at h2
    cases h2
    obtain ⟨t, rfl, ht⟩ := h.2 i x k h1 e
    exact hf t k ht
theorem small1000 {n : Nat} (h : n ≤ 1000) : n < sizeLine := Nat.lt_of_le_of_lt h (by decide)
theorem p64 : (2 : Int) ^ 64 = 18446744073709551616 := by decide
theorem rd_kd_keep {K : PySem.W.Frag} {H HX : Hp} {v : V} {k : Kd} (e : ∀ c o, H c = some o → (∀ zs, o ≠ .lst zs) → HX c = some o) (h : RdV K H v (.tuple (kdL k))) : RdV K HX v (.tuple (kdL k)) := by
  obtain ⟨a, xs, rfl, ha, hR⟩ := RdV.tupInv h
  have ha' : SqT K HX a xs := by
    rcases ha with (h | ⟨u, h⟩) | h
    · exact .inl (.inl (e _ _ h (fun zs z => by cases z)))
    · exact .inl (.inr ⟨u, e _ _ h (fun zs z => by cases z)⟩)
    · exact .inr h
  refine .tup' ha' ⟨hR.1, fun i x d hx hd => ?_⟩
  have z := hR.2 i x d hx hd
  have hm : d ∈ kdL k := List.mem_of_getElem? hd
  have hat : (∃ s, d = .str s) ∨ ∃ n, d = .int n := by
    cases k <;> simp [kdL] at hm
    · exact .inl ⟨_, hm⟩
    · exact .inl ⟨_, hm⟩
    · rcases hm with e | e
      · exact .inl ⟨_, e⟩
      · exact .inr ⟨_, e⟩
    · rcases hm with e | e | e
      · exact .inl ⟨_, e⟩
      · exact .inr ⟨_, e⟩
      · exact .inr ⟨_, e⟩
  rcases hat with ⟨s, rfl⟩ | ⟨n, rfl⟩
  · cases z; exact .str _
  · cases z; exact .int _
theorem rdAll_kd_keep {K : PySem.W.Frag} {H HX : Hp} {xs : List V} {ks : List Kd} (e : ∀ c o, H c = some o → (∀ zs, o ≠ .lst zs) → HX c = some o) (h : RdAll K H xs (kdsD ks)) : RdAll K HX xs (kdsD ks) := by
  refine ⟨h.1, fun i x d hx hd => ?_⟩
  have z := h.2 i x d hx hd
  rw [List.getElem?_map] at hd
  cases q : ks[i]? with
  | none => rw [q] at hd; cases hd
  | some k =>
    rw [q] at hd
    cases hd
    exact rd_kd_keep e z
def Pt.wt (p : Pt) (tk : List Kd) : Pt := { p with takes := tk }
def KeepX (ls : List Addr) (H HX : Hp) : Prop := ∀ c o, c ∉ ls → H c = some o → HX c = some o
structure HandAt (K : PySem.W.Frag) (H : Hp) (mk pl : Addr) (ys : List V) (ls : List Addr) (ms : Mks) (ps : List Pt) : Prop where
  ln : ls.length = ps.length
  nd : ls.Nodup
  pls : H pl = some (.lst ys)
  np : pl ∉ ls
  my : ∀ HX, KeepX ls H HX → MksAt K HX mk ms
  pt : ∀ HX, KeepX ls H HX → ∀ (j : Nat) (p : Pt) (l : Addr), ps[j]? = some p → ls[j]? = some l → ∃ (t : Addr) (g r s : V) (ks : List V), ys[j]? = some (.ref t) ∧ SqT K HX t [.ref l, g, .int (p.boxes : Int), .int (p.height : Int), r, s] ∧ H l = some (.lst ks) ∧ RdAll K HX ks (kdsD p.takes) ∧ ∀ vs tk, HX l = some (.lst vs) → RdAll K HX vs (kdsD tk) → RdV K HX (.ref t) (ptD (p.wt tk))
theorem KeepX.refl {ls : List Addr} {H : Hp} : KeepX ls H H := fun _ _ _ h => h
theorem KeepX.same {ls : List Addr} {H H1 H2 : Hp} (h : KeepX ls H H1) (e : Same H1 H2) : KeepX ls H H2 := fun c o n q => e c o (h c o n q)
theorem RdAll.of {K : PySem.W.Frag} {H : Hp} {α : Type} {f : α → PyData} {ys : List V} {ps : List α} (hl : ys.length = ps.length) (h : ∀ (j : Nat) (p : α), ps[j]? = some p → ∃ v, ys[j]? = some v ∧ RdV K H v (f p)) : RdAll K H ys (ps.map f) := by
  refine ⟨by rw [hl, List.length_map], fun i x d h1 h2 => ?_⟩
  rw [List.getElem?_map] at h2
  cases e : ps[i]? with
  | none => rw [e] at h2; cases h2
  | some p =>
    rw [e] at h2
    cases h2
    obtain ⟨v, e1, e2⟩ := h i p e
    rw [h1] at e1
    cases e1
    exact e2
def sdD (b s : List Kd) : PyData := .tuple [.tuple (kdsD b), .tuple (kdsD s)]
theorem bk_part {K : PySem.W.Frag} {H : Hp} {xs : List V} {ps : List Pt} {j : Nat} {p : Pt} (hP : RdAll K H xs (ps.map ptD)) (hp : ps[j]? = some p) : ∃ v, xs[j]? = some v ∧ RdV K H v (ptD p) := by
  obtain ⟨v, h1, h2⟩ := RdAll.at hP (i := j) (d := ptD p) (by rw [List.getElem?_map, hp]; rfl)
  exact ⟨v, h1, h2⟩
theorem RdAll.set {K : PySem.W.Frag} {H : Hp} {xs : List V} {ds : List PyData} {v : V} {d : PyData} {i : Nat} (h : RdAll K H xs ds) (hv : RdV K H v d) : RdAll K H (xs.set i v) (ds.set i d) := by
  refine ⟨by rw [List.length_set, List.length_set, h.1], fun j x e hx he => ?_⟩
  rw [List.getElem?_set] at hx he
  by_cases hj : i = j
  · subst hj
    rw [if_pos rfl] at hx he
    split at hx
    · split at he
      · cases hx; cases he; exact hv
      · cases he
    · cases hx
  · rw [if_neg hj] at hx he
    exact h.2 j x e hx he
theorem ixN_nat {n m : Nat} (h : m < n) : ixN n (m : Int) = some m := by
  unfold ixN
  rw [if_pos (by omega), if_pos (by omega), Int.toNat_natCast]
theorem tSeq_hide {t u : TS} {D : Ends} {σ : St} {H : Hp} (h : ∀ R : St → Hp → Prop, (∀ σ' H', u D σ' H' → R σ' H') → t { D with nx := R } σ H) : tSeq t u D σ H := h _ fun _ _ x => x
inductive AskR (ms : Mks) : Str → List V → List Kd → Prop
  | begin {c : Nat} (hc : c < ms.length) : AskR ms "begin" [.int c] [.raw c (2 ^ (fields ms c).length - 1)]
  | get {c f : Nat} : AskR ms "get" [.int c, .int f] [.whole c]
  | fill {c f : Nat} {k : Kd} (hc : c < ms.length) (hf : (fields ms c)[f]? = some k) : AskR ms "fill" [.int c, .int f] [.raw c 0, k]
  | put {c f : Nat} {k : Kd} (hc : c < ms.length) (hf : (fields ms c)[f]? = some k) : AskR ms "put" [.int c, .int f] [.whole c, k]
inductive AsksH (K : PySem.W.Frag) (H : Hp) (mk pl : Addr) (part : Nat) : Str → List V → List Kd → Prop
  | always {sign : Str} {xs : List V} {ks : List Kd} (h : getP kd_ALWAYS sign = some (.tuple (kdsD ks))) : AsksH K H mk pl part sign xs ks
  | call {q : Nat} {ys rest vs : List V} {t l : Addr} {ks : List Kd} (h1 : SqL K H pl ys) (h2 : ys[q]? = some (.ref t)) (h3 : SqT K H t (.ref l :: rest)) (h4 : SqL K H l vs) (h5 : RdAll K H vs (kdsD ks)) : AsksH K H mk pl part "call" [.int q] ks
  | give {ys rest : List V} {t : Addr} {v0 v : V} {k : Kd} (h1 : SqL K H pl ys) (h2 : ys[part]? = some (.ref t)) (h3 : SqT K H t (v0 :: v :: rest)) (h4 : RdV K H v (.tuple (kdL k))) : AsksH K H mk pl part "give" [] [k]
  | ofR {ms : Mks} {sign : Str} {xs : List V} {ks : List Kd} (hM : MksAt K H mk ms) (hw : Wf ms) (hf : Few ms) (h : AskR ms sign xs ks) : AsksH K H mk pl part sign xs ks
def leftOf (sign : Str) : Int := match getP kd_LEFT sign with | some (.int i) => i | _ => 1
theorem getP_mem {kds : List (Str × PyData)} {k : Str} {d : PyData} (h : getP kds k = some d) : ∃ kv ∈ kds, kv.2 = d := by
  unfold getP at h
  obtain ⟨kv, h1, h2⟩ := Option.map_eq_some_iff.mp h
  exact ⟨kv, List.mem_of_find?_eq_some h1, h2⟩
theorem left_int {sign : Str} {d : PyData} (h : getP kd_LEFT sign = some d) : ∃ i, d = .int i := by
  obtain ⟨kv, h1, rfl⟩ := getP_mem h
  simp [kd_LEFT] at h1
  rcases h1 with e | e | e | e | e | e | e | e | e | e <;> exact ⟨_, by rw [e]⟩
theorem kd_inv {K : PySem.W.Frag} {H : Hp} {v : V} {k : Kd} (h : RdV K H v (.tuple (kdL k))) : KAt K H v k := by
  obtain ⟨t, xs, rfl, hT, hR⟩ := RdV.tupInv h
  refine ⟨t, rfl, ?_⟩
  have e : xs = kdV k := by
    have hl := hR.1
    have at' : ∀ (i : Nat) (x : V) (d : PyData), xs[i]? = some x → (kdL k)[i]? = some d → RdV K H x d := hR.2
    cases k with
    | any =>
      obtain ⟨x0, rfl⟩ := ex1 hl
      have z := at' 0 x0 _ rfl rfl
      cases z
      rfl
    | num =>
      obtain ⟨x0, rfl⟩ := ex1 hl
      have z := at' 0 x0 _ rfl rfl
      cases z
      rfl
    | whole c =>
      obtain ⟨x0, x1, rfl⟩ := ex2 hl
      have z := at' 0 x0 _ rfl rfl
      have z1 := RdV.intInv (at' 1 x1 _ rfl rfl)
      cases z
      rw [z1]
      rfl
    | raw c m =>
      obtain ⟨x0, x1, x2, rfl⟩ := ex3 hl
      have z := at' 0 x0 _ rfl rfl
      have z1 := RdV.intInv (at' 1 x1 _ rfl rfl)
      have z2 := RdV.intInv (at' 2 x2 _ rfl rfl)
      cases z
      rw [z1, z2]
      rfl
  rw [← e]
  exact hT
theorem KIt.ofRd {K : PySem.W.Frag} {H : Hp} {ys : List V} {ks : List Kd} (h : RdAll K H ys (kdsD ks)) : KIt K H ys ks := by
  refine ⟨by rw [h.1, List.length_map], fun j y k hy hk => ?_⟩
  exact kd_inv (h.2 j y _ hy (by rw [List.getElem?_map, hk]; rfl))
def belowAll (ms : Mks) (ks js : List Kd) : Bool := decide (ks.length = js.length) && (List.zipWith (below ms) ks js).all id
def sevenL : List Str := ["add", "sub", "mul", "div", "rem", "less", "same"]
def askK (ms : Mks) (ps : List Pt) (p : Pt) : Rw → List Kd
  | .push _ => []
  | .load _ => []
  | .jump _ => []
  | .make _ => []
  | .store _ => [.any]
  | .zero _ => [.num]
  | .kin _ _ => [.whole 0]
  | .beg c => [.raw c (2 ^ (fields ms c).length - 1)]
  | .get c _ => [.whole c]
  | .fill c f => [.raw c 0, ((fields ms c)[f]?).getD .any]
  | .put c f => [.whole c, ((fields ms c)[f]?).getD .any]
  | .call q => ((ps[q]?).map Pt.takes).getD []
  | .bare s => if s ∈ (["dup", "drop"] : List Str) then [.any] else if s = "swap" then [.any, .any] else if s ∈ sevenL then [.num, .num] else if s ∈ (["toss", "say"] : List Str) then [.num] else [p.gives]
def manyOf (s : Str) : Int := if s ∈ (["store", "drop", "jump", "zero", "put", "toss", "say", "give"] : List Str) then 0 else if s ∈ (["dup", "swap"] : List Str) then 2 else 1
theorem left_many : ∀ s ∈ signsL, leftOf s = manyOf s := by decide +kernel
theorem rw_sign {zs : List Nat} {np nb nr : Nat} {r : Rw} (h : r.Ok zs np nb nr) : rwS r ∈ signsL := by
  have all : ∀ s ∈ bareL, s ∈ signsL := by decide +kernel
  cases r with
  | bare s => exact all s h
  | push w => exact (by decide +kernel : ("push" : Str) ∈ signsL)
  | load w => exact (by decide +kernel : ("load" : Str) ∈ signsL)
  | store w => exact (by decide +kernel : ("store" : Str) ∈ signsL)
  | jump w => exact (by decide +kernel : ("jump" : Str) ∈ signsL)
  | zero w => exact (by decide +kernel : ("zero" : Str) ∈ signsL)
  | kin c w => exact (by decide +kernel : ("kin" : Str) ∈ signsL)
  | make c => exact (by decide +kernel : ("make" : Str) ∈ signsL)
  | beg c => exact (by decide +kernel : ("begin" : Str) ∈ signsL)
  | fill c w => exact (by decide +kernel : ("fill" : Str) ∈ signsL)
  | get c w => exact (by decide +kernel : ("get" : Str) ∈ signsL)
  | put c w => exact (by decide +kernel : ("put" : Str) ∈ signsL)
  | call w => exact (by decide +kernel : ("call" : Str) ∈ signsL)
def breakK (ms : Mks) (ps : List Pt) (p : Pt) (r : Rw) (st : List Kd) : Option Str :=
  if st.length < (askK ms ps p r).length then some "empty"
  else if belowAll ms (st.drop (st.length - (askK ms ps p r).length)) (askK ms ps p r) = false then some "kind"
  else if (p.height : Int) < ((st.length - (askK ms ps p r).length : Nat) : Int) + manyOf (rwS r) then some "high" else none
def brV : Option Str → V
  | none => .non
  | some s => .str s
theorem ask_bare : ∀ s ∈ bareL, s ≠ "give" → getP kd_ALWAYS s = some (.tuple (kdsD (if s ∈ (["dup", "drop"] : List Str) then [.any] else if s = "swap" then [.any, .any] else if s ∈ sevenL then [.num, .num] else if s ∈ (["toss", "say"] : List Str) then [.num] else []))) := by
  intro s hs hg
  simp only [bareL, List.mem_cons, List.not_mem_nil, or_false] at hs
  rcases hs with rfl | rfl | rfl | rfl | rfl | rfl | rfl | rfl | rfl | rfl | rfl | rfl | rfl
  all_goals first | rfl | exact absurd rfl hg
theorem own_ok {ms : Mks} {zs : List Nat} (g : Good ms zs) (c : Nat) : ∀ k ∈ ownOf ms c, KdOk zs k := fun k hk => by
  unfold ownOf at hk
  cases e : ms[c]? with
  | none => rw [e] at hk; cases hk
  | some m => rw [e] at hk; exact g.kds c m e k hk
theorem fieldsUp_ok {ms : Mks} {zs : List Nat} (g : Good ms zs) : ∀ l : List Nat, ∀ k ∈ fieldsUp ms l, KdOk zs k := fun l k hk => by
  rw [fieldsUp_rev] at hk
  obtain ⟨ks, h1, h2⟩ := List.mem_flatten.mp hk
  obtain ⟨c, _, rfl⟩ := List.mem_map.mp h1
  exact own_ok g c k h2
theorem field_ok {ms : Mks} {zs : List Nat} (g : Good ms zs) (c f : Nat) : KdOk zs (((fields ms c)[f]?).getD .any) := by
  cases e : (fields ms c)[f]? with
  | none => exact trivial
  | some k => exact fieldsUp_ok g _ k (List.mem_of_getElem? e)
theorem ask_ok {ms : Mks} {zs : List Nat} (g : Good ms zs) {ps : List Pt} {p : Pt} {r : Rw} (hps : ∀ p ∈ ps, PtOk zs ps.length p) (hp : p ∈ ps) (hr : r.Ok zs ps.length p.boxes p.rows.length) : ∀ k ∈ askK ms ps p r, KdOk zs k := by
  have ne : 0 < zs.length := by rw [← g.len]; exact g.wf.ne
  have full : ∀ c, c < zs.length → KdOk zs (.raw c (2 ^ (fields ms c).length - 1)) ∧ KdOk zs (.raw c 0) := fun c hc => by
    have hcm : c < ms.length := by rw [g.len]; exact hc
    obtain ⟨z, h1, h2⟩ := g.fields_len c hcm
    have := Nat.pow_pos (n := z) (show 0 < 2 by decide)
    exact ⟨⟨z, h1, by rw [h2]; omega⟩, ⟨z, h1, this⟩⟩
  intro k hk
  cases r with
  | push w => exact nomatch hk
  | load w => exact nomatch hk
  | jump w => exact nomatch hk
  | make w => exact nomatch hk
  | store w => cases List.mem_singleton.mp hk; exact trivial
  | zero w => cases List.mem_singleton.mp hk; exact trivial
  | kin c w => cases List.mem_singleton.mp hk; exact ne
  | beg c => cases List.mem_singleton.mp hk; exact (full c hr).1
  | get c f =>
    obtain ⟨z, h1, _⟩ : ∃ z, zs[c]? = some z ∧ f < z := hr
    cases List.mem_singleton.mp hk
    exact (List.getElem?_eq_some_iff.mp h1).1
  | fill c f =>
    obtain ⟨z, h1, _⟩ : ∃ z, zs[c]? = some z ∧ f < z := hr
    have hc := (List.getElem?_eq_some_iff.mp h1).1
    have hk : k ∈ [Kd.raw c 0, ((fields ms c)[f]?).getD .any] := hk
    simp only [List.mem_cons, List.not_mem_nil, or_false] at hk
    rcases hk with rfl | rfl
    · exact (full c hc).2
    · exact field_ok g c f
  | put c f =>
    obtain ⟨z, h1, _⟩ : ∃ z, zs[c]? = some z ∧ f < z := hr
    have hc := (List.getElem?_eq_some_iff.mp h1).1
    have hk : k ∈ [Kd.whole c, ((fields ms c)[f]?).getD .any] := hk
    simp only [List.mem_cons, List.not_mem_nil, or_false] at hk
    rcases hk with rfl | rfl
    · exact hc
    · exact field_ok g c f
  | call q =>
    have hq : q < ps.length := hr
    have hk : k ∈ ((ps[q]?).map Pt.takes).getD [] := hk
    rw [List.getElem?_eq_getElem hq] at hk
    exact (hps _ (List.getElem_mem hq)).tk k hk
  | bare s =>
    have hk : k ∈ (if s ∈ (["dup", "drop"] : List Str) then [Kd.any] else if s = "swap" then [Kd.any, .any] else if s ∈ sevenL then [Kd.num, .num] else if s ∈ (["toss", "say"] : List Str) then [Kd.num] else [p.gives]) := hk
    split at hk
    · cases List.mem_singleton.mp hk; exact trivial
    split at hk
    · simp at hk; rw [hk]; exact trivial
    split at hk
    · simp at hk; rw [hk]; exact trivial
    split at hk
    · cases List.mem_singleton.mp hk; exact trivial
    · cases List.mem_singleton.mp hk; exact (hps p hp).gv
theorem ask_few {ms : Mks} {zs : List Nat} {ps : List Pt} {p : Pt} {r : Rw} (hps : ∀ p ∈ ps, PtOk zs ps.length p) : (askK ms ps p r).length ≤ 8 := by
  cases r with
  | call q =>
    show (((ps[q]?).map Pt.takes).getD []).length ≤ 8
    cases e : ps[q]? with
    | none => exact Nat.zero_le _
    | some p' =>
      have h := hps p' (List.mem_of_getElem? e)
      have h1 := h.tb
      have h2 := h.bx
      show p'.takes.length ≤ 8
      omega
  | bare s =>
    show (if s ∈ (["dup", "drop"] : List Str) then [Kd.any] else if s = "swap" then [Kd.any, .any] else if s ∈ sevenL then [Kd.num, .num] else if s ∈ (["toss", "say"] : List Str) then [Kd.num] else [p.gives]).length ≤ 8
    repeat' split
    all_goals simp
  | _ => simp [askK]
def KAll (K : PySem.W.Frag) (H : Hp) (zs : List Nat) (ys : List V) : Prop := ∀ y ∈ ys, ∃ k, KAt K H y k ∧ KdOk zs k
theorem KAll.same {K : PySem.W.Frag} {H H' : Hp} {zs : List Nat} {ys : List V} (e : Same H H') (h : KAll K H zs ys) : KAll K H' zs ys := fun y hy => by
  obtain ⟨k, h1, h2⟩ := h y hy
  exact ⟨k, h1.same e, h2⟩
theorem KAll.updL {K : PySem.W.Frag} {H : Hp} {zs : List Nat} {ys ws : List V} {r : Addr} {o : HO} (h : KAll K H zs ys) (hr : H r = some (.lst ws)) : KAll K (upd H r o) zs ys := fun y hy => by
  obtain ⟨k, ⟨t, h1, h3⟩, h2⟩ := h y hy
  exact ⟨k, ⟨t, h1, tup_upd h3 hr⟩, h2⟩
theorem KAll.snoc {K : PySem.W.Frag} {H : Hp} {zs : List Nat} {ys : List V} {t : Addr} {k : Kd} (h : KAll K H zs ys) (ht : SqT K H t (kdV k)) (hk : KdOk zs k) : KAll K H zs (ys ++ [.ref t]) := fun y hy => by
  rcases List.mem_append.mp hy with z | z
  · exact h y z
  · simp at z; subst z; exact ⟨k, ⟨t, rfl, ht⟩, hk⟩
theorem KAll.list {K : PySem.W.Frag} {H : Hp} {zs : List Nat} : ∀ {ys : List V}, KAll K H zs ys → ∃ ks : List Kd, KIt K H ys ks ∧ ∀ k ∈ ks, KdOk zs k
  | [], _ => ⟨[], KIt.nil K H, fun k hk => nomatch hk⟩
  | y :: r, h => by
    obtain ⟨ks, h1, h2⟩ := KAll.list (ys := r) (fun x hx => h x (List.mem_cons_of_mem _ hx))
    obtain ⟨k, ⟨t, rfl, ht⟩, hk⟩ := h y List.mem_cons_self
    exact ⟨[k] ++ ks, KIt.append ((KIt.nil K H).snoc ht) h1, fun x hx => by
      rcases List.mem_cons.mp hx with z | z
      · rw [z]; exact hk
      · exact h2 x z⟩
theorem cut_sub {xs : List V} {lo hi : Option Int} : ∀ y ∈ cutV xs lo hi, y ∈ xs := fun y hy => by
  unfold cutV at hy
  exact List.mem_of_mem_drop (List.mem_of_mem_take hy)
theorem bitOr_nat (m n : Nat) : Builtin.bitOr (m : Int) (n : Int) = ((m ||| n : Nat) : Int) := by
  have b : ∀ k : Nat, decide (0 ≤ Builtin.bitNot (k : Int)) = false := fun k => decide_eq_false (by unfold Builtin.bitNot; omega)
  have d : ∀ x : Int, Builtin.bitNot (Builtin.bitNot x) = x := fun x => by unfold Builtin.bitNot; omega
  unfold Builtin.bitOr Builtin.bitAnd
  rw [b, b]
  show Builtin.bitNot (Builtin.bitNot (((Builtin.bitNot (Builtin.bitNot (m : Int))).toNat ||| (Builtin.bitNot (Builtin.bitNot (n : Int))).toNat : Nat) : Int)) = _
  rw [d, d, d, Int.toNat_natCast, Int.toNat_natCast]
theorem KIt.drop {K : PySem.W.Frag} {H : Hp} {ys : List V} {ks : List Kd} (h : KIt K H ys ks) (n : Nat) : KIt K H (ys.drop n) (ks.drop n) := by
  refine ⟨by rw [List.length_drop, List.length_drop, h.1], fun j y k hy hk => ?_⟩
  rw [List.getElem?_drop] at hy hk
  exact h.2 _ y k hy hk
theorem cut_from {xs : List V} {n : Nat} (h : n ≤ xs.length) : cutV xs (some (n : Int)) none = xs.drop n := by
  unfold cutV
  rw [HT.sIx_none, HT.sIx_nat]
  have : min n xs.length = n := by omega
  rw [this, List.take_of_length_le (by simp)]
theorem asks_of {K : PySem.W.Frag} {H : Hp} {mk pl : Addr} {ms : Mks} {zs : List Nat} {ps : List Pt} {xs : List V} {j : Nat} {p : Pt} {r : Rw} (hM : MksAt K H mk ms) (hg : Good ms zs) (hL : SqL K H pl xs) (hP : RdAll K H xs (ps.map ptD)) (hp : ps[j]? = some p) (hr : r.Ok zs ps.length p.boxes p.rows.length) : AsksH K H mk pl j (rwS r) ((rwN r).map V.int) (askK ms ps p r) := by
  have cl : ∀ c, c < zs.length → c < ms.length := fun c h => by rw [hg.len]; exact h
  have fl : ∀ c f z, zs[c]? = some z → f < z → c < ms.length ∧ (fields ms c)[f]? = some (((fields ms c)[f]?).getD .any) := fun c f z hz hf => by
    have hc := cl c (List.getElem?_eq_some_iff.mp hz).1
    obtain ⟨z', h1, h2⟩ := hg.fields_len c hc
    rw [hz] at h1
    cases h1
    refine ⟨hc, ?_⟩
    rw [List.getElem?_eq_getElem (by omega)]
    rfl
  cases r with
  | push w => exact .always (by show getP kd_ALWAYS "push" = some (.tuple (kdsD [])); rfl)
  | load w => exact .always (by show getP kd_ALWAYS "load" = some (.tuple (kdsD [])); rfl)
  | store w => exact .always (by show getP kd_ALWAYS "store" = some (.tuple (kdsD [.any])); rfl)
  | jump w => exact .always (by show getP kd_ALWAYS "jump" = some (.tuple (kdsD [])); rfl)
  | zero w => exact .always (by show getP kd_ALWAYS "zero" = some (.tuple (kdsD [.num])); rfl)
  | kin c w => exact .always (by show getP kd_ALWAYS "kin" = some (.tuple (kdsD [.whole 0])); rfl)
  | make c => exact .always (by show getP kd_ALWAYS "make" = some (.tuple (kdsD [])); rfl)
  | beg c => exact .ofR hM hg.wf hg.fewF (.begin (cl c hr))
  | get c f => exact .ofR hM hg.wf hg.fewF .get
  | fill c f =>
    obtain ⟨z, h1, h2⟩ : ∃ z, zs[c]? = some z ∧ f < z := hr
    obtain ⟨h3, h4⟩ := fl c f z h1 h2
    exact .ofR hM hg.wf hg.fewF (.fill h3 h4)
  | put c f =>
    obtain ⟨z, h1, h2⟩ : ∃ z, zs[c]? = some z ∧ f < z := hr
    obtain ⟨h3, h4⟩ := fl c f z h1 h2
    exact .ofR hM hg.wf hg.fewF (.put h3 h4)
  | call q =>
    have hq : q < ps.length := hr
    obtain ⟨v, hv, hvr⟩ := bk_part hP (List.getElem?_eq_getElem hq)
    obtain ⟨t, l0, l4, l5, ks, vs4, vs5, f1, rfl, hTt, hl0, hk, rg, hl4, hk4, hl5, hk5⟩ := pt_inv hvr
    have e : askK ms ps p (.call q) = ps[q].takes := by
      show ((ps[q]?).map Pt.takes).getD [] = _
      rw [List.getElem?_eq_getElem hq]
      rfl
    rw [e]
    exact .call hL hv hTt hl0 hk
  | bare s =>
    by_cases hgv : s = "give"
    · subst hgv
      obtain ⟨v, hv, hvr⟩ := bk_part hP hp
      obtain ⟨t, l0, l4, l5, ks, vs4, vs5, f1, rfl, hTt, hl0, hk, rg, hl4, hk4, hl5, hk5⟩ := pt_inv hvr
      have e : askK ms ps p (.bare "give") = [p.gives] := by
        show (if ("give" : Str) ∈ (["dup", "drop"] : List Str) then [Kd.any] else if ("give" : Str) = "swap" then [Kd.any, .any] else if ("give" : Str) ∈ sevenL then [Kd.num, .num] else if ("give" : Str) ∈ (["toss", "say"] : List Str) then [Kd.num] else [p.gives]) = [p.gives]
        rw [if_neg (by decide +kernel), if_neg (by decide +kernel), if_neg (by decide +kernel), if_neg (by decide +kernel)]
      rw [e]
      exact .give hL hv hTt rg
    · have z := ask_bare s hr hgv
      refine .always ?_
      show getP kd_ALWAYS s = some (.tuple (kdsD (if s ∈ (["dup", "drop"] : List Str) then [.any] else if s = "swap" then [.any, .any] else if s ∈ sevenL then [.num, .num] else if s ∈ (["toss", "say"] : List Str) then [.num] else [p.gives])))
      have hin : s ∈ (["dup", "drop"] : List Str) ∨ s = "swap" ∨ s ∈ sevenL ∨ s ∈ (["toss", "say"] : List Str) := by
        have all : ∀ s ∈ bareL, s ≠ "give" → s ∈ (["dup", "drop"] : List Str) ∨ s = "swap" ∨ s ∈ sevenL ∨ s ∈ (["toss", "say"] : List Str) := by decide +kernel
        exact all s hr hgv
      rw [z]
      by_cases a1 : s ∈ (["dup", "drop"] : List Str)
      · rw [if_pos a1, if_pos a1]
      · rw [if_neg a1, if_neg a1]
        by_cases a2 : s = "swap"
        · rw [if_pos a2, if_pos a2]
        · rw [if_neg a2, if_neg a2]
          by_cases a3 : s ∈ sevenL
          · rw [if_pos a3, if_pos a3]
          · rw [if_neg a3, if_neg a3]
            have a4 : s ∈ (["toss", "say"] : List Str) := by
              rcases hin with h | h | h | h
              · exact absurd h a1
              · exact absurd h a2
              · exact absurd h a3
              · exact h
            rw [if_pos a4, if_pos a4]
theorem stepS {x y : Str} {A B : Prop} (h1 : x = y → A) (h2 : ¬ x = y → B) : if decide (V.str x = V.str y) = true then A else B := by
  by_cases e : x = y
  · rw [if_pos (decide_eq_true (congrArg V.str e))]; exact h1 e
  · rw [if_neg (fun z => e (V.str.inj (of_decide_eq_true z)))]; exact h2 e
theorem stepL {x : Str} {l : List Str} {A B : Prop} (h1 : x ∈ l → A) (h2 : ¬ x ∈ l → B) : if inV (.str x) (l.map V.str) = true then A else B := by
  rw [inV_strs]
  by_cases e : x ∈ l
  · rw [if_pos (decide_eq_true e)]; exact h1 e
  · rw [if_neg (fun z => e (of_decide_eq_true z))]; exact h2 e
def bitsOf : Kd → Nat
  | .raw _ m => m
  | _ => 0
def putK (ms : Mks) (ps : List Pt) (bx tk : List Kd) : Rw → List Kd
  | .push _ => [.num]
  | .load b => [(bx[b]?).getD .any]
  | .store _ => []
  | .jump _ => []
  | .zero _ => []
  | .kin _ _ => [(tk[0]?).getD .any]
  | .make c => [.raw c 0]
  | .beg c => [.whole c]
  | .get c f => [((fields ms c)[f]?).getD .any]
  | .fill c f => [.raw c (bitsOf ((tk[0]?).getD .any) ||| 2 ^ f)]
  | .put _ _ => []
  | .call q => [((ps[q]?).map Pt.gives).getD .any]
  | .bare s => if s = "dup" then [(tk[0]?).getD .any, (tk[0]?).getD .any] else if s = "swap" then [(tk[1]?).getD .any, (tk[0]?).getD .any] else if s ∈ sevenL then [.num] else []
structure TkOk (ms : Mks) (ps : List Pt) (p : Pt) (r : Rw) (tk : List Kd) : Prop where
  len : tk.length = (askK ms ps p r).length
  fill : ∀ c f, r = .fill c f → ∃ m, tk[0]? = some (.raw c m)
theorem is_load {zs : List Nat} {np nb nr : Nat} {r : Rw} (h : r.Ok zs np nb nr) (e : rwS r = "load") : ∃ w, r = .load w := by
  cases r with
  | load w => exact ⟨w, rfl⟩
  | bare s => exact absurd e ((by decide +kernel : ∀ s ∈ bareL, ¬ s = "load") s h)
  | push w => exact absurd e (show ¬ ("push" : Str) = "load" by decide +kernel)
  | store w => exact absurd e (show ¬ ("store" : Str) = "load" by decide +kernel)
  | jump w => exact absurd e (show ¬ ("jump" : Str) = "load" by decide +kernel)
  | zero w => exact absurd e (show ¬ ("zero" : Str) = "load" by decide +kernel)
  | kin c w => exact absurd e (show ¬ ("kin" : Str) = "load" by decide +kernel)
  | make c => exact absurd e (show ¬ ("make" : Str) = "load" by decide +kernel)
  | beg c => exact absurd e (show ¬ ("begin" : Str) = "load" by decide +kernel)
  | get c f => exact absurd e (show ¬ ("get" : Str) = "load" by decide +kernel)
  | fill c f => exact absurd e (show ¬ ("fill" : Str) = "load" by decide +kernel)
  | put c f => exact absurd e (show ¬ ("put" : Str) = "load" by decide +kernel)
  | call w => exact absurd e (show ¬ ("call" : Str) = "load" by decide +kernel)
theorem is_store {zs : List Nat} {np nb nr : Nat} {r : Rw} (h : r.Ok zs np nb nr) (e : rwS r = "store") : ∃ w, r = .store w := by
  cases r with
  | store w => exact ⟨w, rfl⟩
  | bare s => exact absurd e ((by decide +kernel : ∀ s ∈ bareL, ¬ s = "store") s h)
  | push w => exact absurd e (show ¬ ("push" : Str) = "store" by decide +kernel)
  | load w => exact absurd e (show ¬ ("load" : Str) = "store" by decide +kernel)
  | jump w => exact absurd e (show ¬ ("jump" : Str) = "store" by decide +kernel)
  | zero w => exact absurd e (show ¬ ("zero" : Str) = "store" by decide +kernel)
  | kin c w => exact absurd e (show ¬ ("kin" : Str) = "store" by decide +kernel)
  | make c => exact absurd e (show ¬ ("make" : Str) = "store" by decide +kernel)
  | beg c => exact absurd e (show ¬ ("begin" : Str) = "store" by decide +kernel)
  | get c f => exact absurd e (show ¬ ("get" : Str) = "store" by decide +kernel)
  | fill c f => exact absurd e (show ¬ ("fill" : Str) = "store" by decide +kernel)
  | put c f => exact absurd e (show ¬ ("put" : Str) = "store" by decide +kernel)
  | call w => exact absurd e (show ¬ ("call" : Str) = "store" by decide +kernel)
theorem is_jump {zs : List Nat} {np nb nr : Nat} {r : Rw} (h : r.Ok zs np nb nr) (e : rwS r = "jump") : ∃ w, r = .jump w := by
  cases r with
  | jump w => exact ⟨w, rfl⟩
  | bare s => exact absurd e ((by decide +kernel : ∀ s ∈ bareL, ¬ s = "jump") s h)
  | push w => exact absurd e (show ¬ ("push" : Str) = "jump" by decide +kernel)
  | load w => exact absurd e (show ¬ ("load" : Str) = "jump" by decide +kernel)
  | store w => exact absurd e (show ¬ ("store" : Str) = "jump" by decide +kernel)
  | zero w => exact absurd e (show ¬ ("zero" : Str) = "jump" by decide +kernel)
  | kin c w => exact absurd e (show ¬ ("kin" : Str) = "jump" by decide +kernel)
  | make c => exact absurd e (show ¬ ("make" : Str) = "jump" by decide +kernel)
  | beg c => exact absurd e (show ¬ ("begin" : Str) = "jump" by decide +kernel)
  | get c f => exact absurd e (show ¬ ("get" : Str) = "jump" by decide +kernel)
  | fill c f => exact absurd e (show ¬ ("fill" : Str) = "jump" by decide +kernel)
  | put c f => exact absurd e (show ¬ ("put" : Str) = "jump" by decide +kernel)
  | call w => exact absurd e (show ¬ ("call" : Str) = "jump" by decide +kernel)
theorem is_zero {zs : List Nat} {np nb nr : Nat} {r : Rw} (h : r.Ok zs np nb nr) (e : rwS r = "zero") : ∃ w, r = .zero w := by
  cases r with
  | zero w => exact ⟨w, rfl⟩
  | bare s => exact absurd e ((by decide +kernel : ∀ s ∈ bareL, ¬ s = "zero") s h)
  | push w => exact absurd e (show ¬ ("push" : Str) = "zero" by decide +kernel)
  | load w => exact absurd e (show ¬ ("load" : Str) = "zero" by decide +kernel)
  | store w => exact absurd e (show ¬ ("store" : Str) = "zero" by decide +kernel)
  | jump w => exact absurd e (show ¬ ("jump" : Str) = "zero" by decide +kernel)
  | kin c w => exact absurd e (show ¬ ("kin" : Str) = "zero" by decide +kernel)
  | make c => exact absurd e (show ¬ ("make" : Str) = "zero" by decide +kernel)
  | beg c => exact absurd e (show ¬ ("begin" : Str) = "zero" by decide +kernel)
  | get c f => exact absurd e (show ¬ ("get" : Str) = "zero" by decide +kernel)
  | fill c f => exact absurd e (show ¬ ("fill" : Str) = "zero" by decide +kernel)
  | put c f => exact absurd e (show ¬ ("put" : Str) = "zero" by decide +kernel)
  | call w => exact absurd e (show ¬ ("call" : Str) = "zero" by decide +kernel)
theorem is_kin {zs : List Nat} {np nb nr : Nat} {r : Rw} (h : r.Ok zs np nb nr) (e : rwS r = "kin") : ∃ c w, r = .kin c w := by
  cases r with
  | kin c w => exact ⟨c, w, rfl⟩
  | bare s => exact absurd e ((by decide +kernel : ∀ s ∈ bareL, ¬ s = "kin") s h)
  | push w => exact absurd e (show ¬ ("push" : Str) = "kin" by decide +kernel)
  | load w => exact absurd e (show ¬ ("load" : Str) = "kin" by decide +kernel)
  | store w => exact absurd e (show ¬ ("store" : Str) = "kin" by decide +kernel)
  | jump w => exact absurd e (show ¬ ("jump" : Str) = "kin" by decide +kernel)
  | zero w => exact absurd e (show ¬ ("zero" : Str) = "kin" by decide +kernel)
  | make c => exact absurd e (show ¬ ("make" : Str) = "kin" by decide +kernel)
  | beg c => exact absurd e (show ¬ ("begin" : Str) = "kin" by decide +kernel)
  | get c f => exact absurd e (show ¬ ("get" : Str) = "kin" by decide +kernel)
  | fill c f => exact absurd e (show ¬ ("fill" : Str) = "kin" by decide +kernel)
  | put c f => exact absurd e (show ¬ ("put" : Str) = "kin" by decide +kernel)
  | call w => exact absurd e (show ¬ ("call" : Str) = "kin" by decide +kernel)
theorem is_make {zs : List Nat} {np nb nr : Nat} {r : Rw} (h : r.Ok zs np nb nr) (e : rwS r = "make") : ∃ c, r = .make c := by
  cases r with
  | make c => exact ⟨c, rfl⟩
  | bare s => exact absurd e ((by decide +kernel : ∀ s ∈ bareL, ¬ s = "make") s h)
  | push w => exact absurd e (show ¬ ("push" : Str) = "make" by decide +kernel)
  | load w => exact absurd e (show ¬ ("load" : Str) = "make" by decide +kernel)
  | store w => exact absurd e (show ¬ ("store" : Str) = "make" by decide +kernel)
  | jump w => exact absurd e (show ¬ ("jump" : Str) = "make" by decide +kernel)
  | zero w => exact absurd e (show ¬ ("zero" : Str) = "make" by decide +kernel)
  | kin c w => exact absurd e (show ¬ ("kin" : Str) = "make" by decide +kernel)
  | beg c => exact absurd e (show ¬ ("begin" : Str) = "make" by decide +kernel)
  | get c f => exact absurd e (show ¬ ("get" : Str) = "make" by decide +kernel)
  | fill c f => exact absurd e (show ¬ ("fill" : Str) = "make" by decide +kernel)
  | put c f => exact absurd e (show ¬ ("put" : Str) = "make" by decide +kernel)
  | call w => exact absurd e (show ¬ ("call" : Str) = "make" by decide +kernel)
theorem is_beg {zs : List Nat} {np nb nr : Nat} {r : Rw} (h : r.Ok zs np nb nr) (e : rwS r = "begin") : ∃ c, r = .beg c := by
  cases r with
  | beg c => exact ⟨c, rfl⟩
  | bare s => exact absurd e ((by decide +kernel : ∀ s ∈ bareL, ¬ s = "begin") s h)
  | push w => exact absurd e (show ¬ ("push" : Str) = "begin" by decide +kernel)
  | load w => exact absurd e (show ¬ ("load" : Str) = "begin" by decide +kernel)
  | store w => exact absurd e (show ¬ ("store" : Str) = "begin" by decide +kernel)
  | jump w => exact absurd e (show ¬ ("jump" : Str) = "begin" by decide +kernel)
  | zero w => exact absurd e (show ¬ ("zero" : Str) = "begin" by decide +kernel)
  | kin c w => exact absurd e (show ¬ ("kin" : Str) = "begin" by decide +kernel)
  | make c => exact absurd e (show ¬ ("make" : Str) = "begin" by decide +kernel)
  | get c f => exact absurd e (show ¬ ("get" : Str) = "begin" by decide +kernel)
  | fill c f => exact absurd e (show ¬ ("fill" : Str) = "begin" by decide +kernel)
  | put c f => exact absurd e (show ¬ ("put" : Str) = "begin" by decide +kernel)
  | call w => exact absurd e (show ¬ ("call" : Str) = "begin" by decide +kernel)
theorem is_get {zs : List Nat} {np nb nr : Nat} {r : Rw} (h : r.Ok zs np nb nr) (e : rwS r = "get") : ∃ c f, r = .get c f := by
  cases r with
  | get c f => exact ⟨c, f, rfl⟩
  | bare s => exact absurd e ((by decide +kernel : ∀ s ∈ bareL, ¬ s = "get") s h)
  | push w => exact absurd e (show ¬ ("push" : Str) = "get" by decide +kernel)
  | load w => exact absurd e (show ¬ ("load" : Str) = "get" by decide +kernel)
  | store w => exact absurd e (show ¬ ("store" : Str) = "get" by decide +kernel)
  | jump w => exact absurd e (show ¬ ("jump" : Str) = "get" by decide +kernel)
  | zero w => exact absurd e (show ¬ ("zero" : Str) = "get" by decide +kernel)
  | kin c w => exact absurd e (show ¬ ("kin" : Str) = "get" by decide +kernel)
  | make c => exact absurd e (show ¬ ("make" : Str) = "get" by decide +kernel)
  | beg c => exact absurd e (show ¬ ("begin" : Str) = "get" by decide +kernel)
  | fill c f => exact absurd e (show ¬ ("fill" : Str) = "get" by decide +kernel)
  | put c f => exact absurd e (show ¬ ("put" : Str) = "get" by decide +kernel)
  | call w => exact absurd e (show ¬ ("call" : Str) = "get" by decide +kernel)
theorem is_fill {zs : List Nat} {np nb nr : Nat} {r : Rw} (h : r.Ok zs np nb nr) (e : rwS r = "fill") : ∃ c f, r = .fill c f := by
  cases r with
  | fill c f => exact ⟨c, f, rfl⟩
  | bare s => exact absurd e ((by decide +kernel : ∀ s ∈ bareL, ¬ s = "fill") s h)
  | push w => exact absurd e (show ¬ ("push" : Str) = "fill" by decide +kernel)
  | load w => exact absurd e (show ¬ ("load" : Str) = "fill" by decide +kernel)
  | store w => exact absurd e (show ¬ ("store" : Str) = "fill" by decide +kernel)
  | jump w => exact absurd e (show ¬ ("jump" : Str) = "fill" by decide +kernel)
  | zero w => exact absurd e (show ¬ ("zero" : Str) = "fill" by decide +kernel)
  | kin c w => exact absurd e (show ¬ ("kin" : Str) = "fill" by decide +kernel)
  | make c => exact absurd e (show ¬ ("make" : Str) = "fill" by decide +kernel)
  | beg c => exact absurd e (show ¬ ("begin" : Str) = "fill" by decide +kernel)
  | get c f => exact absurd e (show ¬ ("get" : Str) = "fill" by decide +kernel)
  | put c f => exact absurd e (show ¬ ("put" : Str) = "fill" by decide +kernel)
  | call w => exact absurd e (show ¬ ("call" : Str) = "fill" by decide +kernel)
theorem is_put {zs : List Nat} {np nb nr : Nat} {r : Rw} (h : r.Ok zs np nb nr) (e : rwS r = "put") : ∃ c f, r = .put c f := by
  cases r with
  | put c f => exact ⟨c, f, rfl⟩
  | bare s => exact absurd e ((by decide +kernel : ∀ s ∈ bareL, ¬ s = "put") s h)
  | push w => exact absurd e (show ¬ ("push" : Str) = "put" by decide +kernel)
  | load w => exact absurd e (show ¬ ("load" : Str) = "put" by decide +kernel)
  | store w => exact absurd e (show ¬ ("store" : Str) = "put" by decide +kernel)
  | jump w => exact absurd e (show ¬ ("jump" : Str) = "put" by decide +kernel)
  | zero w => exact absurd e (show ¬ ("zero" : Str) = "put" by decide +kernel)
  | kin c w => exact absurd e (show ¬ ("kin" : Str) = "put" by decide +kernel)
  | make c => exact absurd e (show ¬ ("make" : Str) = "put" by decide +kernel)
  | beg c => exact absurd e (show ¬ ("begin" : Str) = "put" by decide +kernel)
  | get c f => exact absurd e (show ¬ ("get" : Str) = "put" by decide +kernel)
  | fill c f => exact absurd e (show ¬ ("fill" : Str) = "put" by decide +kernel)
  | call w => exact absurd e (show ¬ ("call" : Str) = "put" by decide +kernel)
theorem is_call {zs : List Nat} {np nb nr : Nat} {r : Rw} (h : r.Ok zs np nb nr) (e : rwS r = "call") : ∃ w, r = .call w := by
  cases r with
  | call w => exact ⟨w, rfl⟩
  | bare s => exact absurd e ((by decide +kernel : ∀ s ∈ bareL, ¬ s = "call") s h)
  | push w => exact absurd e (show ¬ ("push" : Str) = "call" by decide +kernel)
  | load w => exact absurd e (show ¬ ("load" : Str) = "call" by decide +kernel)
  | store w => exact absurd e (show ¬ ("store" : Str) = "call" by decide +kernel)
  | jump w => exact absurd e (show ¬ ("jump" : Str) = "call" by decide +kernel)
  | zero w => exact absurd e (show ¬ ("zero" : Str) = "call" by decide +kernel)
  | kin c w => exact absurd e (show ¬ ("kin" : Str) = "call" by decide +kernel)
  | make c => exact absurd e (show ¬ ("make" : Str) = "call" by decide +kernel)
  | beg c => exact absurd e (show ¬ ("begin" : Str) = "call" by decide +kernel)
  | get c f => exact absurd e (show ¬ ("get" : Str) = "call" by decide +kernel)
  | fill c f => exact absurd e (show ¬ ("fill" : Str) = "call" by decide +kernel)
  | put c f => exact absurd e (show ¬ ("put" : Str) = "call" by decide +kernel)
theorem is_bare {zs : List Nat} {np nb nr : Nat} {r : Rw} (h : r.Ok zs np nb nr) (e : rwS r ∈ bareL) : r = .bare (rwS r) := by
  cases r with
  | bare s => rfl
  | push w => exact absurd e (show ¬ ("push" : Str) ∈ bareL by decide +kernel)
  | load w => exact absurd e (show ¬ ("load" : Str) ∈ bareL by decide +kernel)
  | store w => exact absurd e (show ¬ ("store" : Str) ∈ bareL by decide +kernel)
  | jump w => exact absurd e (show ¬ ("jump" : Str) ∈ bareL by decide +kernel)
  | zero w => exact absurd e (show ¬ ("zero" : Str) ∈ bareL by decide +kernel)
  | kin c w => exact absurd e (show ¬ ("kin" : Str) ∈ bareL by decide +kernel)
  | make c => exact absurd e (show ¬ ("make" : Str) ∈ bareL by decide +kernel)
  | beg c => exact absurd e (show ¬ ("begin" : Str) ∈ bareL by decide +kernel)
  | get c f => exact absurd e (show ¬ ("get" : Str) ∈ bareL by decide +kernel)
  | fill c f => exact absurd e (show ¬ ("fill" : Str) ∈ bareL by decide +kernel)
  | put c f => exact absurd e (show ¬ ("put" : Str) ∈ bareL by decide +kernel)
  | call w => exact absurd e (show ¬ ("call" : Str) ∈ bareL by decide +kernel)
def recL : List Str := ["make", "fill", "begin", "get", "put"]
theorem put_rest {ms : Mks} {ps : List Pt} {bx tk : List Kd} {zs : List Nat} {np nb nr : Nat} {r : Rw} (h : r.Ok zs np nb nr) (e1 : ¬ rwS r = "load") (e2 : ¬ rwS r = "dup") (e3 : ¬ rwS r = "swap") (e4 : ¬ rwS r = "kin") (e5 : ¬ rwS r = "call") (e6 : ¬ rwS r ∈ recL) : ∃ n : Nat, n ≤ 1 ∧ leftOf (rwS r) = (n : Int) ∧ putK ms ps bx tk r = List.replicate n .num := by
  rw [left_many _ (rw_sign h)]
  cases r with
  | push w => exact ⟨1, Nat.le_refl _, (by decide +kernel : manyOf "push" = 1), rfl⟩
  | store w => exact ⟨0, by omega, (by decide +kernel : manyOf "store" = 0), rfl⟩
  | jump w => exact ⟨0, by omega, (by decide +kernel : manyOf "jump" = 0), rfl⟩
  | zero w => exact ⟨0, by omega, (by decide +kernel : manyOf "zero" = 0), rfl⟩
  | load w => exact absurd rfl e1
  | kin c w => exact absurd rfl e4
  | call w => exact absurd rfl e5
  | make c => exact absurd (show ("make" : Str) ∈ recL by decide +kernel) e6
  | beg c => exact absurd (show ("begin" : Str) ∈ recL by decide +kernel) e6
  | fill c f => exact absurd (show ("fill" : Str) ∈ recL by decide +kernel) e6
  | get c f => exact absurd (show ("get" : Str) ∈ recL by decide +kernel) e6
  | put c f => exact absurd (show ("put" : Str) ∈ recL by decide +kernel) e6
  | bare s =>
    have e2 : ¬ s = "dup" := e2
    have e3 : ¬ s = "swap" := e3
    have ep : putK ms ps bx tk (.bare s) = if s = "dup" then [(tk[0]?).getD .any, (tk[0]?).getD .any] else if s = "swap" then [(tk[1]?).getD .any, (tk[0]?).getD .any] else if s ∈ sevenL then [.num] else [] := rfl
    rw [ep, if_neg e2, if_neg e3]
    by_cases e : s ∈ sevenL
    · rw [if_pos e]
      exact ⟨1, Nat.le_refl _, (by decide +kernel : ∀ s ∈ sevenL, manyOf s = 1) s e, rfl⟩
    · rw [if_neg e]
      exact ⟨0, by omega, (by decide +kernel : ∀ s ∈ bareL, ¬ s = "dup" → ¬ s = "swap" → ¬ s ∈ sevenL → manyOf s = 0) s h e2 e3 e, rfl⟩
theorem KIt.mk1 {K : PySem.W.Frag} {H : Hp} {v : V} {k : Kd} (h : KAt K H v k) : KIt K H [v] [k] := by
  refine ⟨rfl, fun j y x hy hx => ?_⟩
  match j, hy, hx with
  | 0, hy, hx => cases hy; cases hx; exact h
theorem KIt.mk2 {K : PySem.W.Frag} {H : Hp} {v w : V} {k l : Kd} (h : KAt K H v k) (h' : KAt K H w l) : KIt K H [v, w] [k, l] := by
  refine ⟨rfl, fun j y x hy hx => ?_⟩
  match j, hy, hx with
  | 0, hy, hx => cases hy; cases hx; exact h
  | 1, hy, hx => cases hy; cases hx; exact h'
theorem KIt.take {K : PySem.W.Frag} {H : Hp} {ys : List V} {ks : List Kd} (h : KIt K H ys ks) (n : Nat) : KIt K H (ys.take n) (ks.take n) := by
  refine ⟨by rw [List.length_take, List.length_take, h.1], fun j y k hy hk => ?_⟩
  have hj : j < (ys.take n).length := (List.getElem?_eq_some_iff.mp hy).1
  rw [List.length_take] at hj
  rw [List.getElem?_take_of_lt (by omega)] at hy hk
  exact h.2 _ y k hy hk
theorem KIt.rep {K : PySem.W.Frag} {H : Hp} {v : V} {k : Kd} (h : KAt K H v k) (n : Nat) : KIt K H (List.replicate n v) (List.replicate n k) := by
  refine ⟨by simp, fun j y x hy hx => ?_⟩
  have h1 := List.mem_of_getElem? hy
  have h2 := List.mem_of_getElem? hx
  rw [List.eq_of_mem_replicate h1, List.eq_of_mem_replicate h2]
  exact h
theorem KIt.item {K : PySem.W.Frag} {H : Hp} {ys : List V} {ks : List Kd} (h : KIt K H ys ks) {i : Nat} (hi : i < ks.length) : ∃ y, ys[i]? = some y ∧ KAt K H y ((ks[i]?).getD .any) := by
  have hy : i < ys.length := by rw [h.1]; exact hi
  refine ⟨ys[i], List.getElem?_eq_getElem hy, ?_⟩
  rw [List.getElem?_eq_getElem hi]
  exact h.2 i _ _ (List.getElem?_eq_getElem hy) (List.getElem?_eq_getElem hi)
theorem sd_inv {K : PySem.W.Frag} {H : Hp} {v : V} {b s : List Kd} (h : RdV K H v (sdD b s)) : ∃ (t tb ts : Addr) (bs ss : List V), v = .ref t ∧ SqT K H t [.ref tb, .ref ts] ∧ SqT K H tb bs ∧ KIt K H bs b ∧ SqT K H ts ss ∧ KIt K H ss s := by
  obtain ⟨t, fs, rfl, hT, hR⟩ := RdV.tupInv h
  have hl := hR.1
  match fs, hl, hT, hR with
  | [f0, f1], _, hT, hR =>
    obtain ⟨tb, bs, rfl, hb, hB⟩ := RdV.tupInv (hR.2 0 f0 _ rfl rfl)
    obtain ⟨ts, ss, rfl, hs, hS⟩ := RdV.tupInv (hR.2 1 f1 _ rfl rfl)
    exact ⟨t, tb, ts, bs, ss, rfl, hT, hb, KIt.ofRd hB, hs, KIt.ofRd hS⟩
theorem rd_sd {K : PySem.W.Frag} {H : Hp} {t tb ts : Addr} {bs ss : List V} {b s : List Kd} (hT : SqT K H t [.ref tb, .ref ts]) (hb : SqT K H tb bs) (hB : KIt K H bs b) (hs : SqT K H ts ss) (hS : KIt K H ss s) : RdV K H (.ref t) (sdD b s) := .tup' hT (.cons (.tup' hb hB.rd) (.cons (.tup' hs hS.rd) .nil))
theorem rd_strs {K : PySem.W.Frag} {H : Hp} {ss : List Str} {xs : List V} (h : RdAll K H xs (ss.map PyData.str)) : xs = ss.map V.str := by
  have hl := h.1
  rw [List.length_map] at hl
  apply List.ext_getElem?
  intro i
  by_cases hi : i < xs.length
  · have z := h.2 i xs[i] (.str (ss[i]'(by omega))) (List.getElem?_eq_getElem hi) (by rw [List.getElem?_map, List.getElem?_eq_getElem (by omega)]; rfl)
    have e : xs[i] = .str (ss[i]'(by omega)) := by
      generalize xs[i] = y at z ⊢
      cases z
      rfl
    rw [List.getElem?_eq_getElem hi, e, List.getElem?_map, List.getElem?_eq_getElem (by omega)]
    rfl
  · rw [List.getElem?_eq_none (by omega), List.getElem?_eq_none (by simp; omega)]
theorem const_tup {K : PySem.W.Frag} {d : Addr} {l : List Str} (c : ∀ H : Hp, RdV K H (.ref d) (.tuple (l.map PyData.str))) (H : Hp) : SqT K H d (l.map V.str) := by
  obtain ⟨a, xs, e, h1, h2⟩ := RdV.tupInv (c H)
  cases e
  have z := rd_strs (ss := l) h2
  rw [← z]
  exact h1
def boxB (bx tk : List Kd) : Rw → List Kd
  | .store b => bx.set b ((tk[0]?).getD .any)
  | _ => bx
theorem box_else {bx tk : List Kd} {r : Rw} (h : ¬ rwS r = "store") : boxB bx tk r = bx := by
  cases r with
  | store b => exact absurd rfl h
  | _ => rfl
theorem put_few {ms : Mks} {ps : List Pt} {bx tk : List Kd} {r : Rw} : (putK ms ps bx tk r).length ≤ 2 := by
  cases r with
  | bare s =>
    show (if s = "dup" then [(tk[0]?).getD .any, (tk[0]?).getD .any] else if s = "swap" then [(tk[1]?).getD .any, (tk[0]?).getD .any] else if s ∈ sevenL then [.num] else ([] : List Kd)).length ≤ 2
    repeat' split
    all_goals simp
  | _ => simp [putK]
theorem sd_updL {K : PySem.W.Frag} {H : Hp} {v : V} {bx st : List Kd} {r : Addr} {ws : List V} {o : HO} (h : RdV K H v (sdD bx st)) (hr : H r = some (.lst ws)) : RdV K (upd H r o) v (sdD bx st) := by
  obtain ⟨t, xs, rfl, hT, hX⟩ := RdV.tupInv h
  have hl := hX.1
  obtain ⟨x0, x1, rfl⟩ := ex2 hl
  obtain ⟨t0, y0, rfl, hT0, hY0⟩ := RdV.tupInv (hX.2 0 x0 _ rfl rfl)
  obtain ⟨t1, y1, rfl, hT1, hY1⟩ := RdV.tupInv (hX.2 1 x1 _ rfl rfl)
  exact .tup' (tup_upd hT hr) (.cons (.tup' (tup_upd hT0 hr) (rdAll_kd_upd hY0 hr)) (.cons (.tup' (tup_upd hT1 hr) (rdAll_kd_upd hY1 hr)) .nil))
theorem rw_inv {K : PySem.W.Frag} {H : Hp} {v : V} {r : Rw} (h : RdV K H v (rwD r)) : ∃ t, v = .ref t ∧ SqT K H t (rwV r) := by
  obtain ⟨rt, rx, rfl, hRT, hRR⟩ := RdV.tupInv h
  have hrx : rx = rwV r := by
    match rx, hRR with
    | [], hRR => have := hRR.1; simp at this
    | y :: ys, hRR =>
      have z := hRR.2 0 y _ rfl rfl
      cases z
      have el : ys = (rwN r).map V.int := by
        have hl := hRR.1
        simp at hl
        apply List.ext_getElem?
        intro n
        by_cases hn : n < ys.length
        · have zz := hRR.2 (n + 1) ys[n] (.int ((rwN r)[n]'(by omega))) (by rw [List.getElem?_cons_succ]; exact List.getElem?_eq_getElem hn) (by rw [List.getElem?_cons_succ, List.getElem?_map, List.getElem?_eq_getElem (by omega)]; rfl)
          rw [List.getElem?_eq_getElem hn, RdV.intInv zz, List.getElem?_map, List.getElem?_eq_getElem (by omega)]
          rfl
        · rw [List.getElem?_eq_none (by omega), List.getElem?_eq_none (by simp; omega)]
      rw [el]
      rfl
  subst hrx
  exact ⟨rt, rfl, hRT⟩
theorem step_in {lo hi c : Int} {i : Nat} (h1 : 0 ≤ lo) (h5 : 0 < c) (hi' : i < (Builtin.Range.rangeSize lo hi c).toNat) : lo + (i : Int) * c < hi := by
  unfold Builtin.Range.rangeSize at hi'
  rw [if_pos h5] at hi'
  split at hi'
  · have e : (i : Int) ≤ (hi - lo - 1) / c := by
      have := Int.ediv_nonneg (show 0 ≤ hi - lo - 1 by omega) (show 0 ≤ c by omega)
      omega
    have m := Int.mul_le_mul_of_nonneg_right e (show 0 ≤ c by omega)
    have d := Int.ediv_mul_le (hi - lo - 1) (show c ≠ 0 by omega)
    omega
  · simp at hi'
structure Ld where
  how : Str
  at' : Int
  bx : List Kd
  st : List Kd
def LdAt (K : PySem.W.Frag) (H : Hp) (y : V) (l : Ld) : Prop := ∃ (t : Addr) (v : V), y = .ref t ∧ SqT K H t [.str l.how, .int l.at', v] ∧ RdV K H v (sdD l.bx l.st)
theorem LdAt.same {K : PySem.W.Frag} {H H' : Hp} {y : V} {l : Ld} (e : Same H H') (h : LdAt K H y l) : LdAt K H' y l := by
  obtain ⟨t, v, h1, h2, h3⟩ := h
  exact ⟨t, v, h1, e.tup h2, h3.same e⟩
theorem LdAt.updL {K : PySem.W.Frag} {H : Hp} {y : V} {l : Ld} {r : Addr} {ws : List V} {o : HO} (h : LdAt K H y l) (hr : H r = some (.lst ws)) : LdAt K (upd H r o) y l := by
  obtain ⟨t, v, h1, h2, h3⟩ := h
  exact ⟨t, v, h1, tup_upd h2 hr, sd_updL h3 hr⟩
def LIt (K : PySem.W.Frag) (H : Hp) (ys : List V) (ls : List Ld) : Prop := ys.length = ls.length ∧ ∀ (j : Nat) y l, ys[j]? = some y → ls[j]? = some l → LdAt K H y l
theorem LIt.nil (K : PySem.W.Frag) (H : Hp) : LIt K H [] [] := ⟨rfl, fun j y l h => by simp at h⟩
theorem LIt.same {K : PySem.W.Frag} {H H' : Hp} {ys : List V} {ls : List Ld} (e : Same H H') (h : LIt K H ys ls) : LIt K H' ys ls := ⟨h.1, fun j y l h1 h2 => (h.2 j y l h1 h2).same e⟩
theorem LIt.snoc {K : PySem.W.Frag} {H : Hp} {ys : List V} {ls : List Ld} {y : V} {l : Ld} (h : LIt K H ys ls) (hy : LdAt K H y l) : LIt K H (ys ++ [y]) (ls ++ [l]) := by
  refine ⟨by simp [h.1], fun j x k hx hk => ?_⟩
  by_cases hj : j < ys.length
  · rw [List.getElem?_append_left hj] at hx
    rw [List.getElem?_append_left (by rw [← h.1]; exact hj)] at hk
    exact h.2 j x k hx hk
  · have hl : j = ys.length := by
      have := (List.getElem?_eq_some_iff.mp hx).1
      simp at this
      omega
    subst hl
    rw [List.getElem?_append_right (Nat.le_refl _), Nat.sub_self] at hx
    rw [h.1, List.getElem?_append_right (Nat.le_refl _), Nat.sub_self] at hk
    cases hx
    cases hk
    exact hy
def OutP (K : PySem.W.Frag) (H : Hp) (L : Addr) (ls : List Ld) (H' : Hp) : Prop := Same H H' ∧ ∃ ys, H' L = some (.lst ys) ∧ LIt K H' ys ls
theorem OutP.same {K : PySem.W.Frag} {H H' H2 : Hp} {L : Addr} {ls : List Ld} (h : OutP K H L ls H') (e : Same H' H2) : OutP K H L ls H2 := let ⟨s, ys, g, i⟩ := h; ⟨s.trans e, ys, e _ _ g, i.same e⟩
theorem OutP.add {K : PySem.W.Frag} {H H2 : Hp} {L u : Addr} {ls : List Ld} {ys : List V} {how : Str} {i : Int} {v : V} {b s : List Kd} (hL : H L = none) (e : Same H H2) (g : H2 L = some (.lst ys)) (hI : LIt K H2 ys ls) (hu : SqT K H2 u [.str how, .int i, v]) (hv : RdV K H2 v (sdD b s)) : OutP K H L (ls ++ [⟨how, i, b, s⟩]) (upd H2 L (.lst (ys ++ [.ref u]))) := by
  refine ⟨fun c o q => ?_, _, upd_same, ?_⟩
  · rw [upd_ne (ne_of_none q hL)]
    exact e c o q
  · have z := hI.snoc (y := .ref u) (l := ⟨how, i, b, s⟩) ⟨u, v, rfl, hu, hv⟩
    exact ⟨z.1, fun j y l h1 h2 => (z.2 j y l h1 h2).updL g⟩
def endL : List Str := ["jump", "toss", "give"]
def goL : List Str := ["jump", "zero", "kin"]
def faultL : List Str := ["div", "rem", "toss", "call"]
def stsI (ss : List (Nat × Nat × Nat)) : List (Int × Int × Int) := ss.map fun x => ((x.1 : Int), (x.2.1 : Int), (x.2.2 : Int))
def nextK (r : Rw) (i : Nat) (b s : List Kd) : List Ld := if rwS r ∈ endL then [] else [⟨"next", (i : Int) + 1, b, s⟩]
def jumpK (b lo s : List Kd) : Rw → List Ld
  | .kin c t => [⟨"jump", (t : Int), b, lo ++ [.whole c]⟩]
  | .jump t => [⟨"jump", (t : Int), b, s⟩]
  | .zero t => [⟨"jump", (t : Int), b, s⟩]
  | _ => []
theorem cut_but {xs : List V} : cutV xs none (some (-1)) = xs.take (xs.length - 1) := by
  unfold cutV
  rw [HT.sIx_none]
  have e : HT.sIx xs.length xs.length (some (-1)) = xs.length - 1 := by
    show (if (-1 : Int) < 0 then ((-1 : Int) + (xs.length : Int)).toNat else min (-1 : Int).toNat xs.length) = _
    rw [if_pos (by decide)]
    omega
  rw [e]
  simp
theorem going {b lo s : List Kd} {zs : List Nat} {np nb nr : Nat} {r : Rw} (h : r.Ok zs np nb nr) (h1 : rwS r ∈ goL) (h2 : ¬ rwS r = "kin") : ∃ w : Nat, (rwV r)[1]? = some (.int (w : Int)) ∧ jumpK b lo s r = [⟨"jump", (w : Int), b, s⟩] := by
  rcases (by decide +kernel : ∀ s ∈ goL, s = "jump" ∨ s = "zero" ∨ s = "kin") _ h1 with e | e | e
  · obtain ⟨w, rfl⟩ := is_jump h e
    exact ⟨w, rfl, rfl⟩
  · obtain ⟨w, rfl⟩ := is_zero h e
    exact ⟨w, rfl, rfl⟩
  · exact absurd e h2
theorem lead_few {r : Rw} {i : Nat} {b s lo s' b' : List Kd} : (nextK r i b s ++ jumpK b' lo s' r).length ≤ 2 := by
  have h1 : (nextK r i b s).length ≤ 1 := by unfold nextK; split <;> simp
  have h2 : (jumpK b' lo s' r).length ≤ 1 := by cases r <;> simp [jumpK]
  rw [List.length_append]
  omega
theorem next_few {r : Rw} {i : Nat} {b s : List Kd} : (nextK r i b s).length ≤ 1 := by unfold nextK; split <;> simp
theorem go_else {b lo s : List Kd} {r : Rw} (h : ¬ rwS r ∈ goL) : jumpK b lo s r = [] := by
  cases r with
  | kin c t => exact absurd (show ("kin" : Str) ∈ goL by decide +kernel) h
  | jump t => exact absurd (show ("jump" : Str) ∈ goL by decide +kernel) h
  | zero t => exact absurd (show ("zero" : Str) ∈ goL by decide +kernel) h
  | _ => rfl
abbrev Sts := List (Int × Int × Int)
def SIt (K : PySem.W.Frag) (H : Hp) (ys : List V) (ss : Sts) : Prop := ys.length = ss.length ∧ ∀ (j : Nat) y x, ys[j]? = some y → ss[j]? = some x → ∃ t : Addr, y = .ref t ∧ SqT K H t [.int x.1, .int x.2.1, .int x.2.2]
theorem SIt.same {K : PySem.W.Frag} {H H' : Hp} {ys : List V} {ss : Sts} (e : Same H H') (h : SIt K H ys ss) : SIt K H' ys ss := ⟨h.1, fun i x s h1 h2 => by
  obtain ⟨t, e1, e2⟩ := h.2 i x s h1 h2
  exact ⟨t, e1, e.tup e2⟩⟩
theorem SIt.at {K : PySem.W.Frag} {H : Hp} {ys : List V} {ss : Sts} (h : SIt K H ys ss) {i : Nat} {y : V} (hy : ys[i]? = some y) : ∃ x, ss[i]? = some x ∧ ∃ t : Addr, y = .ref t ∧ SqT K H t [.int x.1, .int x.2.1, .int x.2.2] := by
  have hi : i < ss.length := by rw [← h.1]; exact (List.getElem?_eq_some_iff.mp hy).1
  exact ⟨ss[i], List.getElem?_eq_getElem hi, h.2 i y _ hy (List.getElem?_eq_getElem hi)⟩
def optV : Option Int → V
  | none => .non
  | some i => .int i
def caught (ss : Sts) (p : Int) : Option Int := (ss.find? fun x => decide (x.1 ≤ p) && decide (p < x.2.1)).map (·.2.2)
theorem caught_here {ss : Sts} {p : Int} {i : Nat} {x : Int × Int × Int} (hx : ss[i]? = some x) (ha : ∀ j, j < i → ∀ y, ss[j]? = some y → ¬ (y.1 ≤ p ∧ p < y.2.1)) (hp : x.1 ≤ p ∧ p < x.2.1) : caught ss p = some x.2.2 := by
  have : ss.find? (fun x => decide (x.1 ≤ p) && decide (p < x.2.1)) = some x := by
    rw [List.find?_eq_some_iff_getElem]
    refine ⟨by simp [hp], i, (List.getElem?_eq_some_iff.mp hx).1, (List.getElem?_eq_some_iff.mp hx).2, fun j hj => ?_⟩
    have hjl : j < ss.length := Nat.lt_trans hj (List.getElem?_eq_some_iff.mp hx).1
    have := ha j hj ss[j] (List.getElem?_eq_getElem hjl)
    simp only [Bool.not_eq_true', Bool.and_eq_false_iff, decide_eq_false_iff_not]
    by_cases z : ss[j].1 ≤ p
    · exact .inr fun y => this ⟨z, y⟩
    · exact .inl z
  unfold caught
  rw [this]
  rfl
theorem caught_none {ss : Sts} {p : Int} (ha : ∀ j, j < ss.length → ∀ y, ss[j]? = some y → ¬ (y.1 ≤ p ∧ p < y.2.1)) : caught ss p = none := by
  have : ss.find? (fun x => decide (x.1 ≤ p) && decide (p < x.2.1)) = none := by
    rw [List.find?_eq_none]
    intro x hx
    obtain ⟨j, hj, e⟩ := List.mem_iff_getElem.mp hx
    have := ha j hj x (by rw [List.getElem?_eq_getElem hj, e])
    simp only [Bool.and_eq_true, decide_eq_true_eq]
    exact this
  unfold caught
  rw [this]
  rfl
def catchC (b : List Kd) : Option Int → List Ld
  | some g => [⟨"catch", g, b, [.num]⟩]
  | none => []
def catchK (r : Rw) (ss : List (Nat × Nat × Nat)) (i : Nat) (b : List Kd) : List Ld := if rwS r ∈ faultL then catchC b (caught (stsI ss) (i : Int)) else []
def outsK (ms : Mks) (ps : List Pt) (p : Pt) (r : Rw) (i : Nat) (bx lo tk : List Kd) : List Ld := nextK r i (boxB bx tk r) (lo ++ putK ms ps bx tk r) ++ jumpK (boxB bx tk r) lo (lo ++ putK ms ps bx tk r) r ++ catchK r p.spans i bx
theorem SIt.ofRd {K : PySem.W.Frag} {H : Hp} {ys : List V} {ss : List (Nat × Nat × Nat)} (h : RdAll K H ys (ss.map stD)) : SIt K H ys (stsI ss) := by
  refine ⟨by rw [h.1, List.length_map]; unfold stsI; rw [List.length_map], fun j y x hy hx => ?_⟩
  unfold stsI at hx
  rw [List.getElem?_map] at hx
  cases e : ss[j]? with
  | none => rw [e] at hx; cases hx
  | some s =>
    rw [e] at hx
    cases hx
    obtain ⟨t, xs, rfl, hT, hR⟩ := RdV.tupInv (h.2 j y (stD s) hy (by rw [List.getElem?_map, e]; rfl))
    have hl := hR.1
    match xs, hl, hT, hR with
    | [x0, x1, x2], _, hT, hR =>
      have z0 := RdV.intInv (hR.2 0 x0 _ rfl rfl)
      have z1 := RdV.intInv (hR.2 1 x1 _ rfl rfl)
      have z2 := RdV.intInv (hR.2 2 x2 _ rfl rfl)
      subst z0; subst z1; subst z2
      exact ⟨t, rfl, hT⟩
def sp_law_draw (K : PySem.W.Frag) : Sp := fun vs H Q _ => ∃ (a : Addr) (ns : List Int) (k : Int), vs = [.ref a, .int k] ∧ SqL K H a (ns.map V.int) ∧ 0 ≤ k ∧ k ≤ 1000000 ∧ ∀ v : Int, 0 ≤ v → v < 2305843009213693951 → Q (.int v) H
def sp_law_elders (K : PySem.W.Frag) : Sp := fun vs H Q _ => ∃ (a : Addr) (ms : Mks) (c : Nat), vs = [.ref a, .int c] ∧ MksAt K H a ms ∧ Wf ms ∧ c < ms.length ∧ ∀ (r : Addr) (H' : Hp), Same H H' → H r = none → H' r = some (.lst (natsV (elders ms c))) → Q (.ref r) H'
def sp_law_fields (K : PySem.W.Frag) : Sp := fun vs H Q _ => ∃ (a : Addr) (ms : Mks) (zs : List Nat) (c : Nat), vs = [.ref a, .int c] ∧ MksAt K H a ms ∧ Good ms zs ∧ c < ms.length ∧
  ∀ (r : Addr) (ks : List V) (H' : Hp), Same H H' → H r = none → H' r = some (.lst ks) → RdAll K H ks (kdsD (fields ms c)) → Q (.ref r) H'
def sp_law_kind (K : PySem.W.Frag) : Sp := fun vs H Q _ => ∃ (b : Addr) (zs : List Nat) (c : Int), vs = [.int c, .ref b] ∧ SqL K H b (natsV zs) ∧ 0 ≤ c ∧ 0 < zs.length ∧ (∀ z ∈ zs, z ≤ 6) ∧
  ∀ (k : Kd) (t : Addr) (H' : Hp), KdOk zs k → Same H H' → H' t = some (.tup (kdV k)) → Q (.ref t) H'
def sp_law_makes (K : PySem.W.Frag) : Sp := fun vs H Q _ => ∃ (a : Addr) (ns : List Int) (at' : Int), vs = [.ref a, .int at'] ∧ SqL K H a (ns.map V.int) ∧ 0 ≤ at' ∧ at' ≤ 1000 ∧
  ∀ (r : Addr) (ms : Mks) (zs : List Nat) (xs : List V) (H' : Hp), Same H H' → H r = none → H' r = some (.lst xs) → MFr K H' r xs ms → Good ms zs → Q (.ref r) H'
def sp_law_last (K : PySem.W.Frag) : Sp := fun vs H Q _ => ∃ (c : Int) (nr : Nat), vs = [.int c, .int (nr : Int)] ∧ 0 ≤ c ∧ 0 < nr ∧ ∀ (r : Rw) (t : Addr) (H' : Hp), (r = .bare "toss" ∨ r = .bare "give" ∨ ∃ t, r = .jump t ∧ t < nr) → Same H H' → SqT K H' t (rwV r) → Q (.ref t) H'
def sp_law_signs (K : PySem.W.Frag) : Sp := fun vs H Q _ => vs = [] ∧ ∀ (r : Addr) (H' : Hp), Same H H' → H r = none → H' r = some (.lst (signsL.map V.str)) → Q (.ref r) H'
def sp_law_row (K : PySem.W.Frag) : Sp := fun vs H Q _ => ∃ (c : Int) (D : Addr) (zs : List Nat) (np nb nr : Nat), vs = [.int c, .ref D, .int (np : Int), .int (nb : Int), .int (nr : Int)] ∧ SqL K H D (natsV zs) ∧ 0 < zs.length ∧ 0 < np ∧ 0 < nr ∧
  ∀ (r : Rw) (t : Addr) (H' : Hp), r.Ok zs np nb nr → Same H H' → SqT K H' t (rwV r) → Q (.ref t) H'
def sp_law_stretch (K : PySem.W.Frag) : Sp := fun vs H Q _ => ∃ (c d : Int) (nr : Nat), vs = [.int c, .int d, .int (nr : Int)] ∧ 0 < nr ∧ ∀ (s : Nat × Nat × Nat) (t : Addr) (H' : Hp), s.1 < s.2.1 ∧ s.2.1 ≤ nr ∧ s.2.2 < nr → Same H H' → SqT K H' t (stV s) → Q (.ref t) H'
def sp_law_part (K : PySem.W.Frag) : Sp := fun vs H Q _ => ∃ (a : Addr) (ns : List Int) (at' : Int) (D : Addr) (zs : List Nat) (np : Nat), vs = [.ref a, .int at', .ref D, .int (np : Int)] ∧ SqL K H a (ns.map V.int) ∧ 0 ≤ at' ∧ at' ≤ 1000 ∧ SqL K H D (natsV zs) ∧ 0 < zs.length ∧ (∀ z ∈ zs, z ≤ 6) ∧ 0 < np ∧
  ∀ (t : Addr) (p : Pt) (H' : Hp), Same H H' → RdV K H' (.ref t) (ptD p) → (∀ r xs o, H r = some (.lst xs) → RdV K (upd H' r o) (.ref t) (ptD p)) → PtOk zs np p → Q (.ref t) H'
def sp_law_book (K : PySem.W.Frag) : Sp := fun vs H Q _ => ∃ (a : Addr) (ns : List Int) (at' : Int), vs = [.ref a, .int at'] ∧ SqL K H a (ns.map V.int) ∧ 0 ≤ at' ∧ at' ≤ 100 ∧
  ∀ (b : Addr) (ms : Mks) (zs : List Nat) (ps : List Pt) (H' : Hp), Same H H' → RdV K H' (.ref b) (bkD ms ps) → Good ms zs → 0 < ps.length → ps.length ≤ 8 → (∀ p ∈ ps, PtOk zs ps.length p) → Q (.ref b) H'
theorem give_only : ∀ s ∈ bareL, ¬ s ∈ (["store", "dup", "drop"] : List Str) → ¬ s = "swap" → ¬ s ∈ (["add", "sub", "mul", "div", "rem", "less", "same"] : List Str) → ¬ s ∈ (["zero", "toss", "say"] : List Str) → s = "give" := by decide +kernel
theorem ask_bareK {ms : Mks} {ps : List Pt} {p : Pt} {s : Str} : askK ms ps p (.bare s) = if s ∈ (["dup", "drop"] : List Str) then [.any] else if s = "swap" then [.any, .any] else if s ∈ sevenL then [.num, .num] else if s ∈ (["toss", "say"] : List Str) then [.num] else [p.gives] := rfl
theorem ask_l1 {ms : Mks} {zs : List Nat} {ps : List Pt} {p : Pt} {np nb nr : Nat} {r : Rw} (h : r.Ok zs np nb nr) (e : rwS r ∈ (["store", "dup", "drop"] : List Str)) : askK ms ps p r = [.any] := by
  cases r with
  | bare s =>
    have f := (by decide +kernel : ∀ s ∈ bareL, s ∈ (["store", "dup", "drop"] : List Str) → s ∈ (["dup", "drop"] : List Str)) s h e
    rw [ask_bareK, if_pos f]
  | push w => exact absurd e (show ¬ ("push" : Str) ∈ (["store", "dup", "drop"] : List Str) by decide +kernel)
  | load w => exact absurd e (show ¬ ("load" : Str) ∈ (["store", "dup", "drop"] : List Str) by decide +kernel)
  | store w => rfl
  | jump w => exact absurd e (show ¬ ("jump" : Str) ∈ (["store", "dup", "drop"] : List Str) by decide +kernel)
  | zero w => exact absurd e (show ¬ ("zero" : Str) ∈ (["store", "dup", "drop"] : List Str) by decide +kernel)
  | kin c w => exact absurd e (show ¬ ("kin" : Str) ∈ (["store", "dup", "drop"] : List Str) by decide +kernel)
  | make c => exact absurd e (show ¬ ("make" : Str) ∈ (["store", "dup", "drop"] : List Str) by decide +kernel)
  | beg c => exact absurd e (show ¬ ("begin" : Str) ∈ (["store", "dup", "drop"] : List Str) by decide +kernel)
  | get c f => exact absurd e (show ¬ ("get" : Str) ∈ (["store", "dup", "drop"] : List Str) by decide +kernel)
  | fill c f => exact absurd e (show ¬ ("fill" : Str) ∈ (["store", "dup", "drop"] : List Str) by decide +kernel)
  | put c f => exact absurd e (show ¬ ("put" : Str) ∈ (["store", "dup", "drop"] : List Str) by decide +kernel)
  | call w => exact absurd e (show ¬ ("call" : Str) ∈ (["store", "dup", "drop"] : List Str) by decide +kernel)
theorem ask_l2 {ms : Mks} {zs : List Nat} {ps : List Pt} {p : Pt} {np nb nr : Nat} {r : Rw} (h : r.Ok zs np nb nr) (e : rwS r = "swap") : askK ms ps p r = [.any, .any] := by
  cases r with
  | bare s =>
    have e : s = "swap" := e
    subst e
    rw [ask_bareK, if_neg (show ¬ ("swap" : Str) ∈ (["dup", "drop"] : List Str) by decide +kernel), if_pos rfl]
  | push w => exact absurd e (show ¬ ("push" : Str) = "swap" by decide +kernel)
  | load w => exact absurd e (show ¬ ("load" : Str) = "swap" by decide +kernel)
  | store w => exact absurd e (show ¬ ("store" : Str) = "swap" by decide +kernel)
  | jump w => exact absurd e (show ¬ ("jump" : Str) = "swap" by decide +kernel)
  | zero w => exact absurd e (show ¬ ("zero" : Str) = "swap" by decide +kernel)
  | kin c w => exact absurd e (show ¬ ("kin" : Str) = "swap" by decide +kernel)
  | make c => exact absurd e (show ¬ ("make" : Str) = "swap" by decide +kernel)
  | beg c => exact absurd e (show ¬ ("begin" : Str) = "swap" by decide +kernel)
  | get c f => exact absurd e (show ¬ ("get" : Str) = "swap" by decide +kernel)
  | fill c f => exact absurd e (show ¬ ("fill" : Str) = "swap" by decide +kernel)
  | put c f => exact absurd e (show ¬ ("put" : Str) = "swap" by decide +kernel)
  | call w => exact absurd e (show ¬ ("call" : Str) = "swap" by decide +kernel)
theorem ask_l3 {ms : Mks} {zs : List Nat} {ps : List Pt} {p : Pt} {np nb nr : Nat} {r : Rw} (h : r.Ok zs np nb nr) (e : rwS r ∈ (["add", "sub", "mul", "div", "rem", "less", "same"] : List Str)) : askK ms ps p r = [.num, .num] := by
  cases r with
  | bare s =>
    have f := (by decide +kernel : ∀ s ∈ bareL, s ∈ (["add", "sub", "mul", "div", "rem", "less", "same"] : List Str) → (¬ s ∈ (["dup", "drop"] : List Str) ∧ ¬ s = "swap" ∧ s ∈ sevenL)) s h e
    rw [ask_bareK, if_neg f.1, if_neg f.2.1, if_pos f.2.2]
  | push w => exact absurd e (show ¬ ("push" : Str) ∈ (["add", "sub", "mul", "div", "rem", "less", "same"] : List Str) by decide +kernel)
  | load w => exact absurd e (show ¬ ("load" : Str) ∈ (["add", "sub", "mul", "div", "rem", "less", "same"] : List Str) by decide +kernel)
  | store w => exact absurd e (show ¬ ("store" : Str) ∈ (["add", "sub", "mul", "div", "rem", "less", "same"] : List Str) by decide +kernel)
  | jump w => exact absurd e (show ¬ ("jump" : Str) ∈ (["add", "sub", "mul", "div", "rem", "less", "same"] : List Str) by decide +kernel)
  | zero w => exact absurd e (show ¬ ("zero" : Str) ∈ (["add", "sub", "mul", "div", "rem", "less", "same"] : List Str) by decide +kernel)
  | kin c w => exact absurd e (show ¬ ("kin" : Str) ∈ (["add", "sub", "mul", "div", "rem", "less", "same"] : List Str) by decide +kernel)
  | make c => exact absurd e (show ¬ ("make" : Str) ∈ (["add", "sub", "mul", "div", "rem", "less", "same"] : List Str) by decide +kernel)
  | beg c => exact absurd e (show ¬ ("begin" : Str) ∈ (["add", "sub", "mul", "div", "rem", "less", "same"] : List Str) by decide +kernel)
  | get c f => exact absurd e (show ¬ ("get" : Str) ∈ (["add", "sub", "mul", "div", "rem", "less", "same"] : List Str) by decide +kernel)
  | fill c f => exact absurd e (show ¬ ("fill" : Str) ∈ (["add", "sub", "mul", "div", "rem", "less", "same"] : List Str) by decide +kernel)
  | put c f => exact absurd e (show ¬ ("put" : Str) ∈ (["add", "sub", "mul", "div", "rem", "less", "same"] : List Str) by decide +kernel)
  | call w => exact absurd e (show ¬ ("call" : Str) ∈ (["add", "sub", "mul", "div", "rem", "less", "same"] : List Str) by decide +kernel)
theorem ask_l4 {ms : Mks} {zs : List Nat} {ps : List Pt} {p : Pt} {np nb nr : Nat} {r : Rw} (h : r.Ok zs np nb nr) (e : rwS r ∈ (["zero", "toss", "say"] : List Str)) : askK ms ps p r = [.num] := by
  cases r with
  | bare s =>
    have f := (by decide +kernel : ∀ s ∈ bareL, s ∈ (["zero", "toss", "say"] : List Str) → (¬ s ∈ (["dup", "drop"] : List Str) ∧ ¬ s = "swap" ∧ ¬ s ∈ sevenL ∧ s ∈ (["toss", "say"] : List Str))) s h e
    rw [ask_bareK, if_neg f.1, if_neg f.2.1, if_neg f.2.2.1, if_pos f.2.2.2]
  | push w => exact absurd e (show ¬ ("push" : Str) ∈ (["zero", "toss", "say"] : List Str) by decide +kernel)
  | load w => exact absurd e (show ¬ ("load" : Str) ∈ (["zero", "toss", "say"] : List Str) by decide +kernel)
  | store w => exact absurd e (show ¬ ("store" : Str) ∈ (["zero", "toss", "say"] : List Str) by decide +kernel)
  | jump w => exact absurd e (show ¬ ("jump" : Str) ∈ (["zero", "toss", "say"] : List Str) by decide +kernel)
  | zero w => rfl
  | kin c w => exact absurd e (show ¬ ("kin" : Str) ∈ (["zero", "toss", "say"] : List Str) by decide +kernel)
  | make c => exact absurd e (show ¬ ("make" : Str) ∈ (["zero", "toss", "say"] : List Str) by decide +kernel)
  | beg c => exact absurd e (show ¬ ("begin" : Str) ∈ (["zero", "toss", "say"] : List Str) by decide +kernel)
  | get c f => exact absurd e (show ¬ ("get" : Str) ∈ (["zero", "toss", "say"] : List Str) by decide +kernel)
  | fill c f => exact absurd e (show ¬ ("fill" : Str) ∈ (["zero", "toss", "say"] : List Str) by decide +kernel)
  | put c f => exact absurd e (show ¬ ("put" : Str) ∈ (["zero", "toss", "say"] : List Str) by decide +kernel)
  | call w => exact absurd e (show ¬ ("call" : Str) ∈ (["zero", "toss", "say"] : List Str) by decide +kernel)
theorem ask_l5 {ms : Mks} {zs : List Nat} {ps : List Pt} {p : Pt} {np nb nr : Nat} {r : Rw} (h : r.Ok zs np nb nr) (e : rwS r ∈ (["push", "load", "jump", "make"] : List Str)) : askK ms ps p r = [] := by
  cases r with
  | bare s =>
    exact absurd e ((by decide +kernel : ∀ s ∈ bareL, ¬ s ∈ (["push", "load", "jump", "make"] : List Str)) s h)
  | push w => rfl
  | load w => rfl
  | store w => exact absurd e (show ¬ ("store" : Str) ∈ (["push", "load", "jump", "make"] : List Str) by decide +kernel)
  | jump w => rfl
  | zero w => exact absurd e (show ¬ ("zero" : Str) ∈ (["push", "load", "jump", "make"] : List Str) by decide +kernel)
  | kin c w => exact absurd e (show ¬ ("kin" : Str) ∈ (["push", "load", "jump", "make"] : List Str) by decide +kernel)
  | make c => rfl
  | beg c => exact absurd e (show ¬ ("begin" : Str) ∈ (["push", "load", "jump", "make"] : List Str) by decide +kernel)
  | get c f => exact absurd e (show ¬ ("get" : Str) ∈ (["push", "load", "jump", "make"] : List Str) by decide +kernel)
  | fill c f => exact absurd e (show ¬ ("fill" : Str) ∈ (["push", "load", "jump", "make"] : List Str) by decide +kernel)
  | put c f => exact absurd e (show ¬ ("put" : Str) ∈ (["push", "load", "jump", "make"] : List Str) by decide +kernel)
  | call w => exact absurd e (show ¬ ("call" : Str) ∈ (["push", "load", "jump", "make"] : List Str) by decide +kernel)
def sp_law_asked (K : PySem.W.Frag) : Sp := fun vs H Q _ => ∃ (b : Addr) (ms : Mks) (zs : List Nat) (ps : List Pt) (j : Nat) (p : Pt) (rt : Addr) (r : Rw), vs = [.ref b, .int (j : Int), .ref rt] ∧ RdV K H (.ref b) (bkD ms ps) ∧ Good ms zs ∧ ps[j]? = some p ∧ SqT K H rt (rwV r) ∧ r.Ok zs ps.length p.boxes p.rows.length ∧
  ∀ (a : Addr) (ys : List V) (H' : Hp), Same H H' → SqL K H' a ys → RdAll K H' ys (kdsD (askK ms ps p r)) → Q (.ref a) H'
def sp_law_below (K : PySem.W.Frag) : Sp := fun vs H Q _ => ∃ (a : Addr) (ms : Mks) (t u : Addr) (k o : Kd), vs = [.ref a, .ref t, .ref u] ∧ MksAt K H a ms ∧ Wf ms ∧ SqT K H t (kdV k) ∧ SqT K H u (kdV o) ∧ (∀ c, k = .whole c → c < ms.length) ∧
  ∀ (H' : Hp), Same H H' → Q (.bl (below ms k o)) H'
def sp_law_break (K : PySem.W.Frag) : Sp := fun vs H Q _ => ∃ (b : Addr) (ms : Mks) (zs : List Nat) (ps : List Pt) (j : Nat) (p : Pt) (rt : Addr) (r : Rw) (v : V) (bx st : List Kd), vs = [.ref b, .int (j : Int), .ref rt, v] ∧ RdV K H (.ref b) (bkD ms ps) ∧ Good ms zs ∧ ps[j]? = some p ∧ SqT K H rt (rwV r) ∧ r.Ok zs ps.length p.boxes p.rows.length ∧ RdV K H v (sdD bx st) ∧ st.length ≤ 50 ∧ (∀ k ∈ st, InM ms k) ∧
  ∀ (H' : Hp), Same H H' → Q (brV (breakK ms ps p r st)) H'
def sp_law_copy (K : PySem.W.Frag) : Sp := fun vs H Q _ => ∃ (a : Addr) (ms : Mks), vs = [.ref a] ∧ MksAt K H a ms ∧ ms.length ≤ 8 ∧
  ∀ (r : Addr) (xs : List V) (H' : Hp), Same H H' → H r = none → H' r = some (.lst xs) → (∀ HX, (∀ c o, H' c = some o → (∀ zs, H c ≠ some (.lst zs)) → HX c = some o) → MIt K HX xs ms) → Q (.ref r) H'
def sp_law_copied (K : PySem.W.Frag) : Sp := fun vs H Q _ => ∃ (b : Addr) (ms : Mks) (ps : List Pt), vs = [.ref b] ∧ RdV K H (.ref b) (bkD ms ps) ∧ ms.length ≤ 8 ∧ ps.length ≤ 8 ∧
  ∀ (r mk pl : Addr) (ys : List V) (ls : List Addr) (H' : Hp), Same H H' → H' r = some (.tup [.ref mk, .ref pl]) → ys.length = ps.length → HandAt K H' mk pl ys ls ms ps → RdV K H' (.ref r) (bkD ms ps) → Q (.ref r) H'
def sp_law_lower (K : PySem.W.Frag) : Sp := fun vs H Q _ => ∃ (a : Addr) (ms : Mks) (D : Addr) (zs : List Nat) (t : Addr) (k : Kd) (c : Int), vs = [.ref a, .ref D, .ref t, .int c] ∧ MksAt K H a ms ∧ Good ms zs ∧ SqL K H D (natsV zs) ∧ SqT K H t (kdV k) ∧ KdOk zs k ∧ 0 ≤ c ∧
  ∀ (k' : Kd) (t' : Addr) (H' : Hp), KdOk zs k' → Same H H' → SqT K H' t' (kdV k') → Q (.ref t') H'
def sp_law_stand (K : PySem.W.Frag) : Sp := fun vs H Q _ => ∃ (a : Addr) (ns : List Int) (at' : Int) (b : Addr) (ms : Mks) (zs : List Nat) (ps : List Pt) (j : Nat) (p : Pt) (rt : Addr) (r : Rw), vs = [.ref a, .int at', .ref b, .int (j : Int), .ref rt] ∧ SqL K H a (ns.map V.int) ∧ 0 ≤ at' ∧ at' ≤ 1000 ∧ RdV K H (.ref b) (bkD ms ps) ∧ Good ms zs ∧ ps[j]? = some p ∧ (∀ p ∈ ps, PtOk zs ps.length p) ∧ SqT K H rt (rwV r) ∧ r.Ok zs ps.length p.boxes p.rows.length ∧
  ∀ (t : Addr) (bx st : List Kd) (H' : Hp), Same H H' → RdV K H' (.ref t) (sdD bx st) → bx.length = p.boxes → st.length ≤ 50 → (∀ k ∈ st, KdOk zs k) → Q (.ref t) H'
theorem bit_add {m f : Nat} (h : m / 2 ^ f % 2 = 0) : m ||| 2 ^ f = m + 2 ^ f := by
  have hp : 0 < 2 ^ f := Nat.two_pow_pos f
  have e1 : m = 2 ^ f * (2 * (m / 2 ^ f / 2)) + m % 2 ^ f := by
    have a := Nat.div_add_mod m (2 ^ f)
    have b : m / 2 ^ f = 2 * (m / 2 ^ f / 2) := by omega
    rw [← b]; exact a.symm
  have lt := Nat.mod_lt m hp
  generalize m / 2 ^ f / 2 = q at e1
  generalize m % 2 ^ f = r at e1 lt
  subst e1
  have e2 : 2 ^ f * (2 * q) + r + 2 ^ f = 2 ^ f * (2 * q + 1) + r := by rw [Nat.mul_add, Nat.mul_one]; omega
  have e3 : 2 ^ f = 2 ^ f * 1 + 0 := by omega
  rw [e2]
  apply Nat.eq_of_testBit_eq
  intro j
  rw [Nat.testBit_or, Nat.testBit_two_pow_mul_add _ lt, Nat.testBit_two_pow_mul_add _ lt, Nat.testBit_two_pow]
  by_cases hj : j < f
  · rw [if_pos hj, if_pos hj, decide_eq_false (by omega), Bool.or_false]
  · rw [if_neg hj, if_neg hj]
    cases e : j - f with
    | zero =>
      rw [decide_eq_true (by omega), Bool.or_true, Nat.testBit_zero]
      exact (decide_eq_true (by omega)).symm
    | succ k =>
      rw [decide_eq_false (by omega), Bool.or_false, Nat.testBit_succ, Nat.testBit_succ]
      congr 1
      omega
theorem bit_had {m f : Nat} (h : ¬ m / 2 ^ f % 2 = 0) : m ||| 2 ^ f = m := by
  apply Nat.eq_of_testBit_eq
  intro j
  rw [Nat.testBit_or, Nat.testBit_two_pow]
  by_cases hj : f = j
  · subst hj
    rw [decide_eq_true rfl, Bool.or_true, Nat.testBit_eq_decide_div_mod_eq]
    exact (decide_eq_true (by omega)).symm
  · rw [decide_eq_false hj, Bool.or_false]
theorem bit_int {m f : Nat} : ((m : Int) / (1 * 2 ^ ((f : Nat) : Int).toNat)) % 2 = ((m / 2 ^ f % 2 : Nat) : Int) := by
  rw [Int.toNat_natCast, Int.one_mul]
  simp [Int.natCast_ediv, Int.natCast_emod]
def nothL : List Str := ["store", "drop", "jump", "zero", "put", "toss", "say", "give"]
theorem put_noth {ms : Mks} {ps : List Pt} {bx tk : List Kd} {zs : List Nat} {np nb nr : Nat} {r : Rw} (h : r.Ok zs np nb nr) (e : rwS r ∈ nothL) : putK ms ps bx tk r = [] := by
  cases r with
  | bare s =>
    have f := (by decide +kernel : ∀ s ∈ bareL, s ∈ nothL → ¬ s = "dup" ∧ ¬ s = "swap" ∧ ¬ s ∈ sevenL) s h e
    show (if s = "dup" then [(tk[0]?).getD .any, (tk[0]?).getD .any] else if s = "swap" then [(tk[1]?).getD .any, (tk[0]?).getD .any] else if s ∈ sevenL then [.num] else ([] : List Kd)) = []
    rw [if_neg f.1, if_neg f.2.1, if_neg f.2.2]
  | store w => rfl
  | jump w => rfl
  | zero w => rfl
  | put c f => rfl
  | push w => exact absurd e (show ¬ ("push" : Str) ∈ nothL by decide +kernel)
  | load w => exact absurd e (show ¬ ("load" : Str) ∈ nothL by decide +kernel)
  | kin c w => exact absurd e (show ¬ ("kin" : Str) ∈ nothL by decide +kernel)
  | make c => exact absurd e (show ¬ ("make" : Str) ∈ nothL by decide +kernel)
  | beg c => exact absurd e (show ¬ ("begin" : Str) ∈ nothL by decide +kernel)
  | get c f => exact absurd e (show ¬ ("get" : Str) ∈ nothL by decide +kernel)
  | fill c f => exact absurd e (show ¬ ("fill" : Str) ∈ nothL by decide +kernel)
  | call w => exact absurd e (show ¬ ("call" : Str) ∈ nothL by decide +kernel)
theorem put_num {ms : Mks} {ps : List Pt} {bx tk : List Kd} {zs : List Nat} {np nb nr : Nat} {r : Rw} (h : r.Ok zs np nb nr) (e1 : ¬ rwS r = "load") (e2 : ¬ rwS r ∈ (["dup", "swap"] : List Str)) (e4 : ¬ rwS r = "kin") (e5 : ¬ rwS r = "make") (e6 : ¬ rwS r = "fill") (e7 : ¬ rwS r = "begin") (e8 : ¬ rwS r = "get") (e9 : ¬ rwS r = "call") (e10 : ¬ rwS r ∈ nothL) : putK ms ps bx tk r = [.num] := by
  cases r with
  | bare s =>
    have f := (by decide +kernel : ∀ s ∈ bareL, ¬ s ∈ (["dup", "swap"] : List Str) → ¬ s ∈ nothL → ¬ s = "dup" ∧ ¬ s = "swap" ∧ s ∈ sevenL) s h e2 e10
    show (if s = "dup" then [(tk[0]?).getD .any, (tk[0]?).getD .any] else if s = "swap" then [(tk[1]?).getD .any, (tk[0]?).getD .any] else if s ∈ sevenL then [.num] else ([] : List Kd)) = [.num]
    rw [if_neg f.1, if_neg f.2.1, if_pos f.2.2]
  | push w => rfl
  | load w => exact absurd rfl e1
  | kin c w => exact absurd rfl e4
  | make c => exact absurd rfl e5
  | fill c f => exact absurd rfl e6
  | beg c => exact absurd rfl e7
  | get c f => exact absurd rfl e8
  | call w => exact absurd rfl e9
  | store w => exact absurd (show ("store" : Str) ∈ nothL by decide +kernel) e10
  | jump w => exact absurd (show ("jump" : Str) ∈ nothL by decide +kernel) e10
  | zero w => exact absurd (show ("zero" : Str) ∈ nothL by decide +kernel) e10
  | put c f => exact absurd (show ("put" : Str) ∈ nothL by decide +kernel) e10
theorem atI_last {α : Type} {xs : List α} {n : Nat} {v : α} (hn : xs.length = n + 1) (h : xs[n]? = some v) : atI xs (-1) = some v := by
  have e : ixN xs.length (-1) = some n := by
    unfold ixN
    rw [if_neg (by omega), if_pos (by omega)]
    congr 1
    omega
  unfold atI
  rw [e]
  exact h
def sp_law_put_there (K : PySem.W.Frag) : Sp := fun vs H Q _ => ∃ (b rt bt tt : Addr) (ms : Mks) (zs : List Nat) (ps : List Pt) (p : Pt) (r : Rw) (bx tk : List Kd) (bs ts : List V), vs = [.ref b, .ref rt, .ref bt, .ref tt] ∧ RdV K H (.ref b) (bkD ms ps) ∧ Good ms zs ∧ SqT K H rt (rwV r) ∧ r.Ok zs ps.length p.boxes p.rows.length ∧ SqT K H bt bs ∧ KIt K H bs bx ∧ bx.length = p.boxes ∧ SqT K H tt ts ∧ KIt K H ts tk ∧ TkOk ms ps p r tk ∧
  ∀ (t : Addr) (ys : List V) (H' : Hp), Same H H' → SqT K H' t ys → KIt K H' ys (putK ms ps bx tk r) → Q (.ref t) H'
def sp_law_next (K : PySem.W.Frag) : Sp := fun vs H Q _ => ∃ (b : Addr) (ms : Mks) (zs : List Nat) (ps : List Pt) (j : Nat) (p : Pt) (rt : Addr) (r : Rw) (v : V) (bx st : List Kd) (n : Nat), vs = [.ref b, .int (j : Int), .ref rt, v] ∧ RdV K H (.ref b) (bkD ms ps) ∧ Good ms zs ∧ ps[j]? = some p ∧ SqT K H rt (rwV r) ∧ r.Ok zs ps.length p.boxes p.rows.length ∧ RdV K H v (sdD bx st) ∧ bx.length = p.boxes ∧ p.boxes ≤ 8 ∧ st.length ≤ 50 ∧ st.length = n + (askK ms ps p r).length ∧ TkOk ms ps p r (st.drop n) ∧
  ∀ (t : Addr) (H' : Hp), Same H H' → RdV K H' (.ref t) (sdD (boxB bx (st.drop n) r) (st.take n ++ putK ms ps bx (st.drop n) r)) → Q (.ref t) H'
def jzL : List Str := ["jump", "zero"]
theorem jz_at {ms : Mks} {ps : List Pt} {bx tk b lo s : List Kd} {zs : List Nat} {np nb nr : Nat} {r : Rw} (h : r.Ok zs np nb nr) (h1 : rwS r ∈ jzL) : ∃ w : Nat, (rwV r)[1]? = some (.int (w : Int)) ∧ jumpK b lo s r = [⟨"jump", (w : Int), b, s⟩] ∧ boxB bx tk r = bx ∧ putK ms ps bx tk r = [] := by
  rcases (by decide +kernel : ∀ s ∈ jzL, s = "jump" ∨ s = "zero") _ h1 with e | e
  · obtain ⟨w, rfl⟩ := is_jump h e
    exact ⟨w, rfl, rfl, rfl, rfl⟩
  · obtain ⟨w, rfl⟩ := is_zero h e
    exact ⟨w, rfl, rfl, rfl, rfl⟩
def inSt (i : Int) (x : Int × Int × Int) : Bool := decide (x.1 ≤ i) && decide (i < x.2.1)
def catL (ss : Sts) (i : Int) : List Int := (ss.filter (inSt i)).map (·.2.2)
theorem catL_head {ss : Sts} {i : Int} : (catL ss i)[0]? = caught ss i := by
  show ((ss.filter (inSt i)).map (·.2.2))[0]? = (ss.find? (inSt i)).map (·.2.2)
  rw [List.getElem?_map, ← List.head?_eq_getElem?, List.head?_filter]
theorem catL_few {ss : Sts} {i : Int} : (catL ss i).length ≤ ss.length := by
  unfold catL
  rw [List.length_map]
  exact List.length_filter_le _ _
theorem catL_step {ss : Sts} {i : Int} {n : Nat} {x : Int × Int × Int} (hx : ss[n]? = some x) : catL (ss.take (n + 1)) i = if inSt i x = true then catL (ss.take n) i ++ [x.2.2] else catL (ss.take n) i := by
  unfold catL
  rw [List.take_add_one, hx, List.filter_append, List.map_append]
  by_cases h : inSt i x = true
  · rw [if_pos h]
    simp [h]
  · rw [if_neg h]
    simp [h]
def sp_law_leads (K : PySem.W.Frag) : Sp := fun vs H Q _ => ∃ (b : Addr) (ms : Mks) (zs : List Nat) (ps : List Pt) (j i : Nat) (p : Pt) (r : Rw) (v : V) (bx st : List Kd) (n : Nat), vs = [.ref b, .int (j : Int), .int (i : Int), v] ∧ RdV K H (.ref b) (bkD ms ps) ∧ Good ms zs ∧ ps[j]? = some p ∧ p.spans.length ≤ 8 ∧ p.rows[i]? = some r ∧ r.Ok zs ps.length p.boxes p.rows.length ∧ RdV K H v (sdD bx st) ∧ bx.length = p.boxes ∧ p.boxes ≤ 8 ∧ st.length ≤ 50 ∧ st.length = n + (askK ms ps p r).length ∧ TkOk ms ps p r (st.drop n) ∧
  ∀ (L : Addr) (H' : Hp), H L = none → OutP K H L (outsK ms ps p r i bx (st.take n) (st.drop n)) H' → Q (.ref L) H'
def sp_law_same_kind (K : PySem.W.Frag) : Sp := fun vs H Q _ => ∃ (v v' : V) (k : Kd), vs = [v, v'] ∧ RdV K H v (.tuple (kdL k)) ∧ RdV K H v' (.tuple (kdL k)) ∧ ∀ (H' : Hp), Same H H' → Q (.bl true) H'
def sp_law_same_stand (K : PySem.W.Frag) : Sp := fun vs H Q _ => ∃ (v v' : V) (b s : List Kd), vs = [v, v'] ∧ RdV K H v (sdD b s) ∧ RdV K H v' (sdD b s) ∧ b.length ≤ 100 ∧ s.length ≤ 100 ∧ ∀ (H' : Hp), Same H H' → Q (.bl true) H'
def sp_catcher (K : PySem.W.Frag) : Sp := fun vs H Q _ => ∃ (a : Addr) (ys : List V) (ss : Sts) (p : Int), vs = [.ref a, .int p] ∧ SqL K H a ys ∧ SIt K H ys ss ∧ Q (optV (caught ss p)) H
def sp_elders_of (K : PySem.W.Frag) : Sp := fun vs H Q _ => ∃ (a : Addr) (ms : Mks) (c : Nat), vs = [.ref a, .int c] ∧ MksAt K H a ms ∧ Wf ms ∧ c < ms.length ∧ ∀ (r : Addr) (H' : Hp), Same H H' → H r = none → H' r = some (.lst (natsV (elders ms c))) → Q (.ref r) H'
def sp_fields_of (K : PySem.W.Frag) : Sp := fun vs H Q _ => ∃ (a : Addr) (ms : Mks) (c : Nat), vs = [.ref a, .int c] ∧ MksAt K H a ms ∧ Wf ms ∧ Few ms ∧ c < ms.length ∧
  ∀ (r : Addr) (ks : List V) (H' : Hp), Same H H' → H r = none → H' r = some (.lst ks) → RdAll K H ks (kdsD (fields ms c)) → Q (.ref r) H'
def sp_full_mask (K : PySem.W.Frag) : Sp := fun vs H Q _ => ∃ (a : Addr) (ms : Mks) (c : Nat), vs = [.ref a, .int c] ∧ MksAt K H a ms ∧ Wf ms ∧ Few ms ∧ c < ms.length ∧
  ∀ (H' : Hp), Same H H' → Q (.int (2 ^ (fields ms c).length - 1)) H'
def sp_asked_of_records (K : PySem.W.Frag) : Sp := fun vs H Q _ => ∃ (mk rw : Addr) (ms : Mks) (sign : Str) (xs : List V) (ks : List Kd), vs = [.ref mk, .ref rw] ∧ MksAt K H mk ms ∧ Wf ms ∧ Few ms ∧ SqT K H rw (.str sign :: xs) ∧ AskR ms sign xs ks ∧
  ∀ (r : Addr) (ys : List V) (H' : Hp), Same H H' → H r = none → H' r = some (.lst ys) → RdAll K H' ys (kdsD ks) → Q (.ref r) H'
theorem no_call : getP kd_ALWAYS "call" = none := by decide +kernel
theorem no_give : getP kd_ALWAYS "give" = none := by decide +kernel
theorem no_rec {ms : Mks} {sign : Str} {xs : List V} {ks : List Kd} (h : AskR ms sign xs ks) : getP kd_ALWAYS sign = none ∧ ¬ (V.str sign = V.str "call") ∧ ¬ (V.str sign = V.str "give") := by
  cases h <;> exact ⟨by decide +kernel, by decide +kernel, by decide +kernel⟩
def sp_asked (K : PySem.W.Frag) : Sp := fun vs H Q _ => ∃ (b mk pl rw : Addr) (part : Nat) (sign : Str) (xs : List V) (ks : List Kd), vs = [.ref b, .int part, .ref rw] ∧ SqT K H b [.ref mk, .ref pl] ∧ SqT K H rw (.str sign :: xs) ∧ AsksH K H mk pl part sign xs ks ∧
  ∀ (r : Addr) (ys : List V) (H' : Hp), Same H H' → H r = none → H' r = some (.lst ys) → RdAll K H' ys (kdsD ks) → Q (.ref r) H'
def sp_kinds_put_of_records (K : PySem.W.Frag) : Sp := fun vs H Q _ => ∃ (mk rt tt : Addr) (ms : Mks) (zs : List Nat) (ps : List Pt) (p : Pt) (r : Rw) (bx tk : List Kd) (ts : List V), vs = [.ref mk, .ref rt, .ref tt] ∧ MksAt K H mk ms ∧ Good ms zs ∧ SqT K H rt (rwV r) ∧ r.Ok zs ps.length p.boxes p.rows.length ∧ rwS r ∈ recL ∧ SqT K H tt ts ∧ KIt K H ts tk ∧ TkOk ms ps p r tk ∧
  ∀ (t : Addr) (ys : List V) (H' : Hp), Same H H' → SqT K H' t ys → KIt K H' ys (putK ms ps bx tk r) → Q (.ref t) H'
def sp_leaves (K : PySem.W.Frag) : Sp := fun vs H Q _ => ∃ (rw : Addr) (sign : Str) (xs : List V), vs = [.ref rw] ∧ SqT K H rw (.str sign :: xs) ∧ Q (.int (leftOf sign)) H
def sp_kinds_put (K : PySem.W.Frag) : Sp := fun vs H Q _ => ∃ (b rt bt tt : Addr) (ms : Mks) (zs : List Nat) (ps : List Pt) (p : Pt) (r : Rw) (bx tk : List Kd) (bs ts : List V), vs = [.ref b, .ref rt, .ref bt, .ref tt] ∧ RdV K H (.ref b) (bkD ms ps) ∧ Good ms zs ∧ SqT K H rt (rwV r) ∧ r.Ok zs ps.length p.boxes p.rows.length ∧ SqT K H bt bs ∧ KIt K H bs bx ∧ bx.length = p.boxes ∧ SqT K H tt ts ∧ KIt K H ts tk ∧ TkOk ms ps p r tk ∧
  ∀ (t : Addr) (ys : List V) (H' : Hp), Same H H' → SqT K H' t ys → KIt K H' ys (putK ms ps bx tk r) → Q (.ref t) H'
theorem set_split {xs : List V} {i : Nat} {v : V} (h : i < xs.length) : xs.take i ++ [v] ++ xs.drop (i + 1) = xs.set i v := by
  rw [List.set_eq_take_append_cons_drop, if_pos h, List.append_assoc]
  rfl
theorem cut_upto {xs : List V} {n : Nat} : cutV xs none (some (n : Int)) = xs.take n := cut_to
def sp_replaced (K : PySem.W.Frag) : Sp := fun vs H Q _ => ∃ (t : Addr) (xs : List V) (i : Nat) (v : V), vs = [.ref t, .int (i : Int), v] ∧ SqT K H t xs ∧ i < xs.length ∧ xs.length ≤ 100 ∧ ∀ (r : Addr) (H' : Hp), Same H H' → SqT K H' r (xs.set i v) → Q (.ref r) H'
def sp_stand_behind (K : PySem.W.Frag) : Sp := fun vs H Q _ => ∃ (b : Addr) (ms : Mks) (zs : List Nat) (ps : List Pt) (j : Nat) (p : Pt) (rt : Addr) (r : Rw) (v : V) (bx st : List Kd) (n : Nat), vs = [.ref b, .int (j : Int), .ref rt, v] ∧ RdV K H (.ref b) (bkD ms ps) ∧ Good ms zs ∧ ps[j]? = some p ∧ SqT K H rt (rwV r) ∧ r.Ok zs ps.length p.boxes p.rows.length ∧ RdV K H v (sdD bx st) ∧ bx.length = p.boxes ∧ p.boxes ≤ 8 ∧ st.length ≤ 50 ∧ st.length = n + (askK ms ps p r).length ∧ TkOk ms ps p r (st.drop n) ∧
  ∀ (t : Addr) (H' : Hp), Same H H' → RdV K H' (.ref t) (sdD (boxB bx (st.drop n) r) (st.take n ++ putK ms ps bx (st.drop n) r)) → Q (.ref t) H'
def sp_outs (K : PySem.W.Frag) : Sp := fun vs H Q _ => ∃ (b : Addr) (ms : Mks) (zs : List Nat) (ps : List Pt) (j i : Nat) (p : Pt) (r : Rw) (v : V) (bx st : List Kd) (n : Nat), vs = [.ref b, .int (j : Int), .int (i : Int), v] ∧ RdV K H (.ref b) (bkD ms ps) ∧ Good ms zs ∧ ps[j]? = some p ∧ p.rows[i]? = some r ∧ r.Ok zs ps.length p.boxes p.rows.length ∧ RdV K H v (sdD bx st) ∧ bx.length = p.boxes ∧ p.boxes ≤ 8 ∧ st.length ≤ 50 ∧ st.length = n + (askK ms ps p r).length ∧ TkOk ms ps p r (st.drop n) ∧
  ∀ (L : Addr) (H' : Hp), H L = none → OutP K H L (outsK ms ps p r i bx (st.take n) (st.drop n)) H' → Q (.ref L) H'
theorem box_len {bx tk : List Kd} {r : Rw} : (boxB bx tk r).length = bx.length := by cases r <;> simp [boxB]
def FewL (l : Ld) : Prop := l.bx.length ≤ 100 ∧ l.st.length ≤ 100
theorem outs_few {ms : Mks} {ps : List Pt} {p : Pt} {r : Rw} {i : Nat} {bx lo tk : List Kd} (hb : bx.length ≤ 8) (hl : lo.length ≤ 50) : (outsK ms ps p r i bx lo tk).length ≤ 3 ∧ ∀ l ∈ outsK ms ps p r i bx lo tk, FewL l := by
  have h1 := box_len (bx := bx) (tk := tk) (r := r)
  have h2 := put_few (ms := ms) (ps := ps) (bx := bx) (tk := tk) (r := r)
  unfold outsK
  generalize boxB bx tk r = bb at h1 ⊢
  have h3 : (lo ++ putK ms ps bx tk r).length ≤ 52 := by rw [List.length_append]; omega
  generalize lo ++ putK ms ps bx tk r = ss at h3 ⊢
  have a2 : (catchK r p.spans i bx).length ≤ 1 := by
    unfold catchK
    split
    · cases caught (stsI p.spans) (i : Int) <;> simp [catchC]
    · simp
  refine ⟨?_, fun l hm => ?_⟩
  · have a1 := lead_few (r := r) (i := i) (b := bb) (s := ss) (lo := lo) (s' := ss) (b' := bb)
    rw [List.length_append]
    omega
  · rcases List.mem_append.mp hm with hm | hm
    · rcases List.mem_append.mp hm with hm | hm
      · unfold nextK at hm
        split at hm
        · cases hm
        · cases List.mem_singleton.mp hm
          exact ⟨by show bb.length ≤ 100; omega, by show ss.length ≤ 100; omega⟩
      · cases r with
        | kin c t =>
          cases List.mem_singleton.mp hm
          exact ⟨by show bb.length ≤ 100; omega, by show (lo ++ [_]).length ≤ 100; rw [List.length_append]; simp; omega⟩
        | jump t =>
          cases List.mem_singleton.mp hm
          exact ⟨by show bb.length ≤ 100; omega, by show ss.length ≤ 100; omega⟩
        | zero t =>
          cases List.mem_singleton.mp hm
          exact ⟨by show bb.length ≤ 100; omega, by show ss.length ≤ 100; omega⟩
        | _ => cases hm
    · unfold catchK at hm
      split at hm
      · cases hc : caught (stsI p.spans) (i : Int) with
        | none => rw [hc] at hm; cases hm
        | some g =>
          rw [hc] at hm
          cases List.mem_singleton.mp hm
          exact ⟨by show bx.length ≤ 100; omega, by show ([Kd.num] : List Kd).length ≤ 100; simp⟩
      · cases hm
theorem LIt.at {K : PySem.W.Frag} {H : Hp} {ys : List V} {ls : List Ld} (h : LIt K H ys ls) {m : Nat} {l : Ld} (hl : ls[m]? = some l) : ∃ (t : Addr) (v : V), ys[m]? = some (.ref t) ∧ SqT K H t [.str l.how, .int l.at', v] ∧ RdV K H v (sdD l.bx l.st) := by
  have hm : m < ys.length := by rw [h.1]; exact (List.getElem?_eq_some_iff.mp hl).1
  obtain ⟨t, v, e, h1, h2⟩ := h.2 m _ l (List.getElem?_eq_getElem hm) hl
  exact ⟨t, v, by rw [List.getElem?_eq_getElem hm, e], h1, h2⟩
def sp_law_told (K : PySem.W.Frag) : Sp := fun vs H Q _ => ∃ (h b : Addr) (ms : Mks) (zs : List Nat) (ps : List Pt) (j i : Nat) (p : Pt) (r : Rw) (v : V) (bx st : List Kd) (n : Nat), vs = [.ref h, .ref b, .int (j : Int), .int (i : Int), v] ∧ RdV K H (.ref h) (bkD ms ps) ∧ RdV K H (.ref b) (bkD ms ps) ∧ Good ms zs ∧ ps[j]? = some p ∧ p.spans.length ≤ 8 ∧ p.rows[i]? = some r ∧ r.Ok zs ps.length p.boxes p.rows.length ∧ RdV K H v (sdD bx st) ∧ bx.length = p.boxes ∧ p.boxes ≤ 8 ∧ st.length ≤ 50 ∧ st.length = n + (askK ms ps p r).length ∧ TkOk ms ps p r (st.drop n) ∧
  ∀ (H' : Hp), Same H H' → Q (.bl true) H'
theorem below_raw {ms : Mks} {k : Kd} {c m : Nat} (h : below ms k (.raw c m) = true) : ∃ m', k = .raw c m' := by
  cases k with
  | raw c' m' =>
    simp [below] at h
    exact ⟨m', by rw [h.1]⟩
  | any => simp [below] at h
  | num => simp [below] at h
  | whole c' => simp [below] at h
theorem break_none {ms : Mks} {ps : List Pt} {p : Pt} {r : Rw} {st : List Kd} (h : breakK ms ps p r st = none) : st.length = (st.length - (askK ms ps p r).length) + (askK ms ps p r).length ∧ TkOk ms ps p r (st.drop (st.length - (askK ms ps p r).length)) := by
  unfold breakK at h
  split at h
  · cases h
  rename_i h1
  split at h
  · cases h
  rename_i h2
  have h2' : belowAll ms (st.drop (st.length - (askK ms ps p r).length)) (askK ms ps p r) = true := by
    cases e : belowAll ms (st.drop (st.length - (askK ms ps p r).length)) (askK ms ps p r) with
    | true => rfl
    | false => exact absurd e h2
  refine ⟨by omega, by rw [List.length_drop]; omega, fun c f e => ?_⟩
  subst e
  unfold belowAll at h2'
  obtain ⟨a, b⟩ := Bool.and_eq_true_iff.mp h2'
  have a' := of_decide_eq_true a
  rw [List.all_eq_true] at b
  have l2 : (askK ms ps p (.fill c f)).length = 2 := rfl
  generalize st.drop (st.length - (askK ms ps p (.fill c f)).length) = tk at a' b
  obtain ⟨k0, k1, rfl⟩ := ex2 (a'.trans l2)
  have z := b (below ms k0 (.raw c 0)) (List.mem_of_getElem? (i := 0) rfl)
  obtain ⟨m, rfl⟩ := below_raw z
  exact ⟨m, rfl⟩
def sp_law (K : PySem.W.Frag) : Sp := fun vs H Q _ => ∃ (a : Addr) (ns : List Int), vs = [.ref a] ∧ SqL K H a (ns.map V.int) ∧ ns.length ≤ 63 ∧ ∀ H', Q (.bl true) H'
section
variable {P : Program} {w : World} {K : PySem.W.Frag} {mg : Str → Option Value} {base : Heap}
theorem sc__law_draw : FnScope ["_law_script", "_law_k", "_law_cell", "_law_other"] ["_law_script", "_law_k"] (defScope s_law_draw) := ⟨rfl, rfl, rfl, by decide +kernel, rfl, by decide +kernel, by decide +kernel⟩
theorem ok__law_draw {f : Addr} {fd : FuncData} (F : Fun K "_law_draw" "_law_draw" s_law_draw f fd) (z_len : mg "len" = none) : FnOk P w K mg base CX0 1 f fd ["_law_script", "_law_k"] (sp_law_draw K) := by
  refine F.ok sc__law_draw (fun vs H Q E h => ?_) (fun cdv A outer s H vs Q E hr h => ?_)
  · obtain ⟨a, ns, k, rfl, hS, h0, h1, q⟩ := h
    rfl
  obtain ⟨a, ns, k, rfl, hS, h0, h1, q⟩ := h
  refine ⟨_, (pss_cons (ps_set (i := 2) sc__law_draw.nd rfl (Or.inl rfl) (pe_op op_mul pe_int (pv 1)))
      (pss_cons (ps_if (pt_cmpR op_lt (pv 1) (pe_callB call_len_seq rfl z_len bt_len (pa_cons (pv 0) pa_nil)) (nomark _)) (pss_one (ps_set (i := 2) sc__law_draw.nd rfl (Or.inl rfl) (pe_ix ix_list (pv 0) (pv 1) (fun _ _ => rfl)))) (pss_one (ps_if (pt_cmpR op_gt (pe_callB call_len_seq rfl z_len bt_len (pa_cons (pv 0) pa_nil)) pe_int (nomark _)) (pss_cons (ps_set (i := 3) sc__law_draw.nd rfl (Or.inl rfl) (pe_ix ix_list (pv 0) (pe_op op_mod (pe_op op_add (pe_op op_mul pe_int (pv 1)) pe_int) (pe_callB call_len_seq rfl z_len bt_len (pa_cons (pv 0) pa_nil))) (fun _ _ => rfl)))
      (pss_one (ps_set (i := 2) sc__law_draw.nd rfl (Or.inl rfl) (pe_op op_add (pe_op op_add (pv 2) (pe_ix ix_list (pv 0) (pe_op op_mod (pv 1) (pe_callB call_len_seq rfl z_len bt_len (pa_cons (pv 0) pa_nil))) (fun _ _ => rfl))) (pe_op op_mul pe_int (pe_op op_mod (pv 3) pe_int)))))) pss_nil)))
      (pss_one (ps_ret (pe_op op_mod (pe_op op_add (pe_op op_mul (pv 2) pe_int) (pe_op op_mul pe_int (pv 1))) pe_int))))), ?_⟩
  have fin : ∀ x : Int, Q (.int (x % 2305843009213693951)) H := fun x => q _ (Int.emod_nonneg x (by decide)) (Int.emod_lt_of_pos x (by decide))
  walk_at "rd"
  refine ⟨a, _, rfl, .inl hS, _, _, rfl, rfl, _, rfl, ?_⟩
  refine ite2 (fun c => ?_) (fun c => ?_)
  · have c' : k < (((ns.map V.int).length : Nat) : Int) := of_decide_eq_true c
    rw [List.length_map] at c'
    obtain ⟨v, hv⟩ := int_at h0 c'
    refine ⟨_, rfl, _, rfl, a, _, _, _, rfl, rfl, hS, hv, ?_⟩
    walk_at "rd"
    exact fin _
  · refine ⟨_, rfl, a, _, rfl, .inl hS, _, _, rfl, rfl, _, rfl, ?_⟩
    refine ite2 (fun c2 => ?_) (fun c2 => ?_)
    · have c' : 0 < (((ns.map V.int).length : Nat) : Int) := of_decide_eq_true c2
      have c3 : 0 < (ns.length : Int) := by rw [List.length_map] at c'; exact c'
      obtain ⟨v, hv⟩ := int_at (ns := ns) (i := (3 * k + 1) % (((ns.map V.int).length : Nat) : Int)) (Int.emod_nonneg _ (by omega)) (by rw [List.length_map]; exact Int.emod_lt_of_pos _ c3)
      obtain ⟨u, hu⟩ := int_at (ns := ns) (i := k % (((ns.map V.int).length : Nat) : Int)) (Int.emod_nonneg _ (by omega)) (by rw [List.length_map]; exact Int.emod_lt_of_pos _ c3)
      refine ⟨_, rfl, _, rfl, _, _, rfl, rfl, .inl ⟨by decide, by decide⟩, _, _, rfl, rfl, _, rfl, a, _, rfl, .inl hS, _, _, rfl, rfl, c', a, _, _, _, rfl, rfl, hS, hv, ?_⟩
      refine ⟨_, rfl, _, rfl, _, rfl, _, rfl, a, _, rfl, .inl hS, _, _, rfl, rfl, c', a, _, _, _, rfl, rfl, hS, hu, ?_⟩
      walk_at "rd"
      exact fin _
    · walk_at "rd"
      exact fin _
theorem sc__law_elders : FnScope ["_law_makes_here", "_law_c", "_law_found"] ["_law_makes_here", "_law_c"] (defScope s_law_elders) := ⟨rfl, rfl, rfl, by decide +kernel, rfl, by decide +kernel, by decide +kernel⟩
theorem ok__law_elders {f : Addr} {fd : FuncData} (F : Fun K "_law_elders" "_law_elders" s_law_elders f fd) : FnOk P w K mg base CX0 1 f fd ["_law_makes_here", "_law_c"] (sp_law_elders K) := by
  refine F.ok sc__law_elders (fun vs H Q E h => ?_) (fun cdv A outer s H vs Q E hr h => ?_)
  · obtain ⟨a, ms, c, rfl, hM, hw, hc, q⟩ := h
    rfl
  obtain ⟨a, ms, c, rfl, hM, hw, hc, q⟩ := h
  refine ⟨_, (pss_cons (ps_set (i := 2) sc__law_elders.nd rfl (Or.inl rfl) (pe_lst pa_nil))
      (pss_cons (ps_while PassesOwn.never (pt_cmpR op_notN (pv 1) pe_non (nomark _)) (pss_cons (ps_expr (pe_bm PySem.F.plainAttrs_list PySem.F.slot_list_append PySem.F.type_list_append mt_append (pv 2) (pa_cons (pv 1) pa_nil)))
      (pss_one (ps_set (i := 1) sc__law_elders.nd rfl (Or.inl rfl) (pe_ix ix_tup (pe_ix ix_list (pv 0) (pv 1) (fun _ _ => rfl)) pe_int (fun _ _ => rfl))))))
      (pss_one (ps_ret (pv 2))))), ?_⟩
  refine ⟨(by show 0 ≤ sizeLine; decide), fun r hr' => ?_⟩
  refine while_by (fun σ H2 => ∃ (cur : Option Nat) (pre : List Nat), σ = [some (.ref a), some (elV cur), some (.ref r)] ∧ Same H H2 ∧ H2 r = some (.lst (natsV pre)) ∧ (∀ j, cur = some j → j < ms.length) ∧ pre ++ rest ms cur = elders ms c)
    (fun (σ : St) (_ : Hp) => match σ[1]? with | some (some (V.int j)) => j.toNat + 1 | _ => 0) ⟨some c, [], rfl, fun b o e => by rw [upd_ne (ne_of_none e hr')]; exact e, upd_same, fun j hj => by cases hj; exact hc, rfl⟩ ?_ ?_
  · rintro σ H2 ⟨cur, pre, rfl, sm, hr2, hj, he⟩
    cases cur with
    | none =>
      refine ⟨_, rfl, rfl, _, rfl, iteF ?_⟩
      have e' : pre = elders ms c := by rw [← he]; simp [rest]
      rw [e'] at hr2
      exact ⟨_, rfl, q r H2 sm hr' hr2⟩
    | some j =>
      refine ⟨_, rfl, rfl, _, rfl, iteT ?_⟩
      have hjl := hj j rfl
      have hlen : (natsV pre).length < sizeLine := by
        have h1 := (elders_le hw c hc).1
        have h2 : (pre ++ rest ms (some j)).length = (elders ms c).length := by rw [he]
        have h3 := hw.few
        rw [List.length_append] at h2
        rw [List.length_map]
        exact small1000 (by omega)
      refine ⟨_, rfl, .inl ⟨rfl, _, SqL.of hr2⟩, _, rfl, r, _, _, rfl, rfl, hr2, hlen, ?_⟩
      have sm2 : Same H (upd H2 r (.lst (natsV pre ++ [.int (j : Int)]))) := fun b o e => by rw [upd_ne (ne_of_none e hr')]; exact sm b o e
      obtain ⟨xs, hS, hI⟩ := hM.same sm2
      obtain ⟨m, hm, hel, hlt⟩ := hw.el hjl
      have hxl : j < xs.length := by rw [hI.1]; exact hjl
      obtain ⟨t, l, ks, hx, ht, _⟩ := hI.2 j _ m (List.getElem?_eq_getElem hxl) hm
      refine ⟨_, rfl, _, rfl, a, xs, _, _, rfl, rfl, hS, atI_nat (List.getElem?_eq_getElem hxl), t, _, _, _, hx, rfl, ht, atI_nat (j := 0) rfl, ?_⟩
      refine ⟨⟨m.1, pre ++ [j], rfl, sm2, ?_, fun i hi => ?_, ?_⟩, ?_⟩
      · rw [upd_same]; show _ = some (HO.lst (List.map _ (pre ++ [j]))); rw [List.map_append]; rfl
      · have := hlt i hi
        omega
      · rw [← he]
        show (pre ++ [j]) ++ rest ms m.1 = pre ++ elders ms j
        rw [elders_step hw hjl, hel]
        simp
      · show (match (some (some (elV m.1)) : Option (Option V)) with | some (some (V.int j)) => j.toNat + 1 | _ => 0) < ((j : Int).toNat + 1)
        cases e : m.1 with
        | none => show 0 < _; omega
        | some i =>
          have := hlt i e
          show (i : Int).toNat + 1 < _
          omega
  · rintro σ H2 Q1 Q2 f ⟨v, e1, e2, k, e3, q1⟩
    exact ⟨v, e1, e2, k, e3, f _ _ q1⟩
theorem sc__law_fields : FnScope ["_law_makes_here", "_law_c", "_law_found", "_law_one"] ["_law_makes_here", "_law_c"] (defScope s_law_fields) := ⟨rfl, rfl, rfl, by decide +kernel, rfl, by decide +kernel, by decide +kernel⟩
theorem ok__law_fields {f : Addr} {fd : FuncData} (F : Fun K "_law_fields" "_law_fields" s_law_fields f fd) (z_reversed : mg "reversed" = none) (h__law_elders : Has P w K mg base CX0 "_law_elders" 1 ["_law_makes_here", "_law_c"] (sp_law_elders K)) : FnOk P w K mg base CX0 2 f fd ["_law_makes_here", "_law_c"] (sp_law_fields K) := by
  refine F.ok sc__law_fields (fun vs H Q E h => ?_) (fun cdv A outer s H vs Q E hr h => ?_)
  · obtain ⟨a, ms, zs, c, rfl, hM, hg, hc, q⟩ := h
    rfl
  obtain ⟨a, ms, zs, c, rfl, hM, hg, hc, q⟩ := h
  refine ⟨_, (pss_cons (ps_set (i := 2) sc__law_fields.nd rfl (Or.inl rfl) (pe_lst pa_nil))
      (pss_cons (ps_for PassesOwn.never rfl (pi_rev rfl z_reversed (pa_cons (pe_ch h__law_elders (hr.mono (by decide)) rfl (pa_cons (pv 0) (pa_cons (pv 1) pa_nil))) pa_nil)) (pg_name (i := 3) sc__law_fields.nd rfl (Or.inl rfl)) (pss_one (ps_set (i := 2) sc__law_fields.nd rfl (Or.inl rfl) (pe_op op_catS (pv 2) (pe_ix ix_tup (pe_ix ix_list (pv 0) (pv 3) (fun _ _ => rfl)) pe_int (fun _ _ => rfl))))))
      (pss_one (ps_ret (pv 2))))), ?_⟩
  obtain ⟨xs, hS, hI⟩ := id hM
  have hw := hg.wf
  have lx := hI.1
  refine ⟨(by show 0 ≤ sizeLine; decide), fun r0 hr0 => ?_⟩
  have s0 := same_new hr0 (.lst [])
  refine ⟨_, rfl, _, rfl, a, ms, c, rfl, hM.same s0, hw, hc, fun re H1 s1 _ he => ?_⟩
  have sm1 := s0.trans s1
  refine ⟨re, _, rfl, SqL.of he, ?_⟩
  refine for_rev (xs := natsV (elders ms c)) (fun i σ H2 => ∃ (r : Addr) (ks : List V) (o3 : Option V), σ = [some (.ref a), some (.int (c : Int)), some (.ref r), o3] ∧ Same H1 H2 ∧ H r = none ∧ H2 r = some (.lst ks) ∧ RdAll K H ks (kdsD ((((elders ms c).reverse.take i).map (ownOf ms)).flatten))) ?_ ?_ ?_ ?_
  · exact ⟨r0, [], none, rfl, Same.refl _, hr0, s1 _ _ upd_same, .nil⟩
  · rintro i σ H2 hi ⟨r, ks, o3, rfl, s2, _⟩
    exact SqL.of (s2 _ _ he)
  · rintro i y σ H2 hy ⟨r, ks, o3, rfl, s2, nr, g2, hR⟩
    have hil : i < (elders ms c).reverse.length := by
      have := (List.getElem?_eq_some_iff.mp hy).1
      simpa using this
    have hy' : y = .int (((elders ms c).reverse[i] : Nat) : Int) := by
      rw [← List.map_reverse, List.getElem?_map, List.getElem?_eq_getElem hil] at hy
      exact (Option.some.inj hy).symm
    subst hy'
    have hel : (elders ms c).reverse[i] < ms.length := by
      have := (elders_le hw c hc).2 _ (List.mem_reverse.mp (List.getElem_mem hil))
      omega
    generalize hj : (elders ms c).reverse[i] = j at hel
    have hjx : j < xs.length := by omega
    obtain ⟨t, l, kk, hx, e2, e3, e4⟩ := hI.2 j _ _ (List.getElem?_eq_getElem hjx) (List.getElem?_eq_getElem hel)
    have sm2 := sm1.trans s2
    have own : ownOf ms j = (ms[j]).2 := by unfold ownOf; rw [List.getElem?_eq_getElem hel]
    have l1 := hR.1
    have l2 := e4.1
    have six := hg.fields_six hc
    have tot : ((((elders ms c).reverse.take (i + 1)).map (ownOf ms)).flatten).length ≤ 6 := by
      have e : fields ms c = (((elders ms c).reverse.take (i + 1)).map (ownOf ms)).flatten ++ (((elders ms c).reverse.drop (i + 1)).map (ownOf ms)).flatten := by
        unfold fields
        rw [fieldsUp_rev, ← List.flatten_append, ← List.map_append, List.take_append_drop]
      rw [e, List.length_append] at six
      omega
    have stp : (((elders ms c).reverse.take (i + 1)).map (ownOf ms)).flatten = (((elders ms c).reverse.take i).map (ownOf ms)).flatten ++ ownOf ms j := by
      rw [List.take_succ_eq_append_getElem hil, hj]
      simp
    rw [stp, List.length_append, own] at tot
    rw [List.length_map] at l1 l2
    refine ⟨_, rfl, _, rfl, _, rfl, a, xs, _, _, rfl, rfl, sm2.seq hS, (?_ : atI xs ((j : Nat) : Int) = some (.ref t)), t, _, _, _, rfl, rfl, sm2.tup e2, atI_nat (j := 1) rfl, r, l, ks, kk, rfl, rfl, SqL.of g2, sm2.seq e3, Nat.le_of_lt (small1000 (by omega)), fun p hp => ?_⟩
    · rw [← hx]; exact atI_nat (List.getElem?_eq_getElem hjx)
    · refine ⟨p, ks ++ kk, _, rfl, s2.trans (same_new hp _), sm2.free hp, upd_same, ?_⟩
      rw [stp, own, kdsD, List.map_append]
      exact RdAll.append hR e4
  · rintro σ H2 ⟨r, ks, o3, rfl, s2, nr, g2, hR⟩
    have e : ((((elders ms c).reverse.take (natsV (elders ms c)).length).map (ownOf ms)).flatten) = fields ms c := by
      unfold fields
      rw [fieldsUp_rev, List.take_of_length_le (by simp)]
    rw [e] at hR
    exact ⟨_, rfl, q r ks H2 (sm1.trans s2) nr g2 hR⟩
theorem sc__law_kind : FnScope ["_law_cell", "_law_sizes", "_law_c"] ["_law_cell", "_law_sizes"] (defScope s_law_kind) := ⟨rfl, rfl, rfl, by decide +kernel, rfl, by decide +kernel, by decide +kernel⟩
theorem ok__law_kind {f : Addr} {fd : FuncData} (F : Fun K "_law_kind" "_law_kind" s_law_kind f fd) (z_len : mg "len" = none) : FnOk P w K mg base CX0 1 f fd ["_law_cell", "_law_sizes"] (sp_law_kind K) := by
  refine F.ok sc__law_kind (fun vs H Q E h => ?_) (fun cdv A outer s H vs Q E hr h => ?_)
  · obtain ⟨b, zs, c, rfl, hS, h0, hz, h6, q⟩ := h
    rfl
  obtain ⟨b, zs, c, rfl, hS, h0, hz, h6, q⟩ := h
  refine ⟨_, (pss_cons (ps_set (i := 2) sc__law_kind.nd rfl (Or.inl rfl) (pe_op op_mod (pe_op op_fdiv (pv 0) pe_int) (pe_callB call_len_seq rfl z_len bt_len (pa_cons (pv 1) pa_nil))))
      (pss_cons (ps_if (pt_cmpR op_eq (pe_op op_mod (pv 0) pe_int) pe_int (nomark _)) (pss_one (ps_ret (pe_tup (pa_cons pe_str pa_nil)))) pss_nil)
      (pss_cons (ps_if (pt_cmpR op_eq (pe_op op_mod (pv 0) pe_int) pe_int (nomark _)) (pss_one (ps_ret (pe_tup (pa_cons pe_str pa_nil)))) pss_nil)
      (pss_cons (ps_if (pt_cmpR op_eq (pe_op op_mod (pv 0) pe_int) pe_int (nomark _)) (pss_one (ps_ret (pe_tup (pa_cons pe_str (pa_cons (pv 2) pa_nil))))) pss_nil)
      (pss_one (ps_ret (pe_tup (pa_cons pe_str (pa_cons (pv 2) (pa_cons (pe_op op_mod (pe_op op_fdiv (pv 0) pe_int) (pe_op op_shl pe_int (pe_ix ix_list (pv 1) (pv 2) (fun _ _ => rfl)))) pa_nil)))))))))), ?_⟩
  have hlen : 0 < (((natsV zs).length : Nat) : Int) := by rw [List.length_map]; omega
  walk_at "rd"
  refine ⟨b, _, rfl, .inl hS, _, _, rfl, rfl, hlen, ?_⟩
  have c0 : 0 ≤ c / 4 % (((natsV zs).length : Nat) : Int) := Int.emod_nonneg _ (by omega)
  have c1 : c / 4 % (((natsV zs).length : Nat) : Int) < (zs.length : Int) := by
    have := Int.emod_lt_of_pos (c / 4) hlen
    rw [List.length_map] at this ⊢
    exact this
  dsimp only
  generalize c / 4 % (((natsV zs).length : Nat) : Int) = e at c0 c1 ⊢
  have ee : ((e.toNat : Nat) : Int) = e := by omega
  walk_at "rd"
  refine ite2 (fun _ => ?_) (fun _ => ?_)
  · exact ⟨by show 1 ≤ sizeLine; decide, fun p hp => q .any p _ trivial (same_new hp _) upd_same⟩
  walk_at "rd"
  refine ite2 (fun _ => ?_) (fun _ => ?_)
  · exact ⟨by show 1 ≤ sizeLine; decide, fun p hp => q .num p _ trivial (same_new hp _) upd_same⟩
  walk_at "rd"
  refine ite2 (fun _ => ?_) (fun _ => ?_)
  · refine ⟨_, rfl, by show 2 ≤ sizeLine; decide, fun p hp => q (.whole e.toNat) p _ (by show e.toNat < zs.length; omega) (same_new hp _) ?_⟩
    rw [upd_same]
    show _ = some (HO.tup [.str "whole", .int ((e.toNat : Nat) : Int)])
    rw [ee]
  · obtain ⟨z, hz1, hz2⟩ := nats_at c0 c1
    have hz6 := h6 z (List.mem_of_getElem? hz1)
    have hp2 : (0 : Int) < 1 * 2 ^ ((z : Int).toNat) := by
      have := Int.pow_pos (n := 2) (m := (z : Int).toNat) (by decide)
      omega
    refine ⟨_, rfl, _, rfl, _, _, rfl, rfl, ⟨by decide, by decide⟩, _, rfl, _, rfl, b, _, _, _, rfl, rfl, hS, hz2, _, _, rfl, rfl, ⟨by omega, by omega, by decide⟩, _, _, rfl, rfl, hp2, by show 3 ≤ sizeLine; decide, fun p hp => ?_⟩
    have m0 : 0 ≤ c / 32 % (1 * 2 ^ ((z : Int).toNat)) := Int.emod_nonneg _ (by omega)
    have m1 : c / 32 % (1 * 2 ^ ((z : Int).toNat)) < 1 * 2 ^ ((z : Int).toNat) := Int.emod_lt_of_pos _ hp2
    dsimp only
    generalize hm : c / 32 % (1 * 2 ^ ((z : Int).toNat)) = mk at m0 m1 ⊢
    have em : ((mk.toNat : Nat) : Int) = mk := by omega
    refine q (.raw e.toNat mk.toNat) p _ ⟨z, hz1, ?_⟩ (same_new hp _) ?_
    · have e2 : ((2 ^ z : Nat) : Int) = 2 ^ ((z : Int).toNat) := by simp
      have : (mk.toNat : Int) < ((2 ^ z : Nat) : Int) := by rw [e2, em]; omega
      exact Int.ofNat_lt.mp this
    · rw [upd_same]
      show _ = some (HO.tup [.str "raw", .int ((e.toNat : Nat) : Int), .int ((mk.toNat : Nat) : Int)])
      rw [ee, em]
theorem sc__law_makes : FnScope ["_law_script", "_law_at", "_law_shapes", "_law_sizes", "_law_c", "_law_cell", "_law_elder", "_law_makes_here", "_law_own"] ["_law_script", "_law_at"] (defScope s_law_makes) := ⟨rfl, rfl, rfl, by decide +kernel, rfl, by decide +kernel, by decide +kernel⟩
theorem ok__law_makes {f : Addr} {fd : FuncData} (F : Fun K "_law_makes" "_law_makes" s_law_makes f fd) (z_len : mg "len" = none) (z_range : mg "range" = none) (h__law_draw : Has P w K mg base CX0 "_law_draw" 1 ["_law_script", "_law_k"] (sp_law_draw K)) (h__law_kind : Has P w K mg base CX0 "_law_kind" 1 ["_law_cell", "_law_sizes"] (sp_law_kind K)) : FnOk P w K mg base CX0 2 f fd ["_law_script", "_law_at"] (sp_law_makes K) := by
  refine F.ok sc__law_makes (fun vs H Q E h => ?_) (fun cdv A outer s H vs Q E hr h => ?_)
  · obtain ⟨a, ns, at', rfl, hS, h0, h1, q⟩ := h
    rfl
  obtain ⟨a, ns, at', rfl, hS, h0, h1, q⟩ := h
  refine ⟨_, (pss_cons (ps_set (i := 2) sc__law_makes.nd rfl (Or.inl rfl) (pe_lst (pa_cons (pe_tup (pa_cons pe_non (pa_cons pe_int pa_nil))) pa_nil)))
      (pss_cons (ps_set (i := 3) sc__law_makes.nd rfl (Or.inr rfl) (pe_lst (pa_cons pe_int pa_nil)))
      (pss_cons (ps_for PassesOwn.never rfl (pi_range2 rfl z_range (pa_cons pe_int (pa_cons (pe_op op_add pe_int (pe_op op_mod (pe_ch h__law_draw (hr.mono (by decide)) rfl (pa_cons (pv 0) (pa_cons (pv 1) pa_nil))) pe_int)) pa_nil))) (pg_name (i := 4) sc__law_makes.nd rfl (Or.inr rfl)) (pss_cons (ps_set (i := 5) sc__law_makes.nd rfl (Or.inl rfl) (pe_ch h__law_draw (hr.mono (by decide)) rfl (pa_cons (pv 0) (pa_cons (pe_op op_add (pv 1) (pv 4)) pa_nil))))
      (pss_cons (ps_set (i := 6) sc__law_makes.nd rfl (Or.inl rfl) (pe_op op_mod (pv 5) (pv 4)))
      (pss_cons (ps_if (pt_cmpR op_eq (pe_op op_mod (pe_op op_fdiv (pe_ch h__law_draw (hr.mono (by decide)) rfl (pa_cons (pv 0) (pa_cons (pv 1) pa_nil))) pe_int) pe_int) pe_int (nomark _)) (pss_one (ps_set (i := 6) sc__law_makes.nd rfl (Or.inl rfl) (pe_op op_sub (pv 4) pe_int))) pss_nil)
      (pss_cons (ps_expr (pe_bm PySem.F.plainAttrs_list PySem.F.slot_list_append PySem.F.type_list_append mt_append (pv 2) (pa_cons (pe_tup (pa_cons (pv 6) (pa_cons (pe_op op_mod (pe_op op_fdiv (pv 5) pe_int) (pe_op op_sub pe_int (pe_ix ix_list (pv 3) (pv 6) (fun _ _ => rfl)))) pa_nil))) pa_nil)))
      (pss_one (ps_expr (pe_bm PySem.F.plainAttrs_list PySem.F.slot_list_append PySem.F.type_list_append mt_append (pv 3) (pa_cons (pe_op op_add (pe_ix ix_list (pv 3) (pv 6) (fun _ _ => rfl)) (pe_ix ix_tup (pe_ix ix_list (pv 2) (pv 4) (fun _ _ => rfl)) pe_int (fun _ _ => rfl))) pa_nil)))))))))
      (pss_cons (ps_set (i := 7) sc__law_makes.nd rfl (Or.inl rfl) (pe_lst pa_nil))
      (pss_cons (ps_for PassesOwn.never rfl (pi_range1 rfl z_range (pa_cons (pe_callB call_len_seq rfl z_len bt_len (pa_cons (pv 2) pa_nil)) pa_nil)) (pg_name (i := 4) sc__law_makes.nd rfl (Or.inr rfl)) (pss_cons (ps_setLC (i := 8) sc__law_makes.nd rfl (Or.inl rfl) 1 ["_law_k", "_law_sizes", "_law_script", "_law_at", "_law_c"] [3, 0, 1, 4] ⟨rfl, rfl, rfl, rfl, rfl, rfl, rfl, rfl⟩ (pi_range1 rfl z_range (pa_cons (pe_ix ix_tup (pe_ix ix_list (pv 2) (pv 4) (fun _ _ => rfl)) pe_int (fun _ _ => rfl)) pa_nil)) (fun _ _ _ _ => ⟨(pg_name (i := 0) (show List.Nodup (["_law_k", "_law_sizes", "_law_script", "_law_at", "_law_c"] : List Str) by decide +kernel) rfl (Or.inl rfl)), pif_nil, (pe_ch h__law_kind (hr.mono (by decide)) rfl (pa_cons (pe_ch h__law_draw (hr.mono (by decide)) rfl (pa_cons (pv 2) (pa_cons (pe_op op_add (pe_op op_add (pe_op op_add (pv 3) pe_int) (pe_op op_mul pe_int (pv 4))) (pv 0)) pa_nil))) (pa_cons (pv 1) pa_nil)))⟩))
      (pss_one (ps_expr (pe_bm PySem.F.plainAttrs_list PySem.F.slot_list_append PySem.F.type_list_append mt_append (pv 7) (pa_cons (pe_tup (pa_cons (pe_ix ix_tup (pe_ix ix_list (pv 2) (pv 4) (fun _ _ => rfl)) pe_int (fun _ _ => rfl)) (pa_cons (pv 8) pa_nil))) pa_nil))))))
      (pss_one (ps_ret (pv 7)))))))), ?_⟩
  refine ⟨(by show 2 ≤ sizeLine; decide), fun t0 ht0 => ⟨(by show 1 ≤ sizeLine; decide), fun r1 hr1 => ?_⟩⟩
  refine ⟨(by show 1 ≤ sizeLine; decide), fun r2 hr2 => ?_⟩
  have n12 : r1 ≠ r2 := ne_of_none upd_same hr2
  have s1 := (same_new ht0 (.tup [.non, .int 0])).trans ((same_new hr1 (.lst [.ref t0])).trans (same_new hr2 (.lst [.int 0])))
  have k0 : SqT K (upd (upd (upd H t0 (.tup [.non, .int 0])) r1 (.lst [.ref t0])) r2 (.lst [.int 0])) t0 [.non, .int 0] := SqT.of (by
    have e1 : (upd H t0 (.tup [.non, .int 0])) t0 = some (.tup [.non, .int 0]) := upd_same
    have e2 := (same_new hr1 (.lst [.ref t0])) _ _ e1
    exact (same_new hr2 (.lst [.int 0])) _ _ e2)
  refine ⟨_, rfl, _, rfl, a, ns, _, rfl, s1.seq hS, h0, by omega, fun v v0 v1 => ?_⟩
  refine ⟨_, _, rfl, rfl, (by walk_at "cond"), _, _, rfl, rfl, _, _, rfl, ⟨by decide, by decide, by omega, by omega⟩, ?_⟩
  have hn7 : (1 + v % 8 - 1).toNat ≤ 7 := by omega
  refine for_range (lo := 1) (n := (1 + v % 8 - 1).toNat) (fun i σ H2 => ∃ (sh : List (Option Nat × Nat)) (zs : List Nat) (xs : List V) (o4 o5 o6 : Option V), σ = [some (.ref a), some (.int at'), some (.ref r1), some (.ref r2), o4, o5, o6, none, none] ∧ Same H H2 ∧ H2 r1 = some (.lst xs) ∧ H2 r2 = some (.lst (natsV zs)) ∧ ShIt K H2 xs sh ∧ ShOk sh zs ∧ sh.length = i + 1) ?_ ?_ ?_
  · refine ⟨[(none, 0)], [0], [.ref t0], none, none, none, rfl, s1, by rw [upd_ne n12]; exact upd_same, upd_same, (ShIt.nil K _).snoc (s := (none, 0)) k0, ?_, rfl⟩
    exact ⟨rfl, by decide, rfl, rfl, fun z hz => by simp at hz; omega, fun i s hi hs => by
      have : i < 1 := (List.getElem?_eq_some_iff.mp hs).1
      omega⟩
  · rintro i σ H2 hi ⟨sh, zs, xs, o4, o5, o6, rfl, sm, g1, g2, hI, hO, hl⟩
    refine ⟨_, rfl, _, rfl, _, rfl, _, _, rfl, rfl, a, ns, _, rfl, sm.seq hS, by omega, by omega, fun v5 w0 w1 => ?_⟩
    refine ⟨_, rfl, _, rfl, _, _, rfl, rfl, by omega, ?_⟩
    refine ⟨_, rfl, _, rfl, a, ns, _, rfl, sm.seq hS, h0, by omega, fun v6 x0 x1 => ?_⟩
    refine ⟨_, _, rfl, rfl, ⟨by decide, by decide⟩, _, _, rfl, rfl, (by walk_at "cond"), rfl, _, rfl, ?_⟩
    obtain ⟨e0, he0, hle0⟩ : ∃ e0 : Nat, v5 % (1 + (i : Int)) = (e0 : Int) ∧ e0 ≤ i := by
      have a0 := Int.emod_nonneg v5 (show (1 + (i : Int)) ≠ 0 by omega)
      have a1 := Int.emod_lt_of_pos v5 (show (0 : Int) < 1 + (i : Int) by omega)
      exact ⟨(v5 % (1 + (i : Int))).toNat, by omega, by omega⟩
    have lz := hO.len
    have lx := hI.1
    dsimp only
    rw [he0]
    refine cutW (R := ?R) (fun σ' H' => ∃ e : Nat, e ≤ i ∧ H2 = H' ∧ σ' = [some (.ref a), some (.int at'), some (.ref r1), some (.ref r2), some (.int (1 + (i : Int))), some (.int v5), some (.int (e : Int)), none, none]) (fun kk => ?mm) ?kk
    case mm =>
      refine ite2 (fun _ => ?_) (fun _ => ?_)
      · refine ⟨_, rfl, _, _, rfl, rfl, ?_⟩
        have e1 : (1 + (i : Int) - 1) = (i : Int) := by omega
        dsimp only
        rw [e1]
        dsimp only [gName]
        exact kk _ _ ⟨i, Nat.le_refl _, rfl, rfl⟩
      · dsimp only [tNext]
        exact kk _ _ ⟨e0, hle0, rfl, rfl⟩
    clear he0 hle0
    rintro σ' H' ⟨e0, hle0, rfl, rfl⟩
    have he' : e0 < zs.length := by omega
    have hes : e0 < sh.length := by omega
    obtain ⟨z, hz1, hz2⟩ := nat_item he'
    have hz6 := hO.six z (List.mem_of_getElem? hz1)
    obtain ⟨n, hn, hn6⟩ : ∃ n : Nat, v5 / 8 % (7 - (z : Int)) = (n : Int) ∧ z + n ≤ 6 := by
      have a0 := Int.emod_nonneg (v5 / 8) (show (7 - (z : Int)) ≠ 0 by omega)
      have a1 := Int.emod_lt_of_pos (v5 / 8) (show (0 : Int) < 7 - (z : Int) by omega)
      exact ⟨(v5 / 8 % (7 - (z : Int))).toNat, by omega, by omega⟩
    refine ⟨_, rfl, .inl ⟨rfl, _, SqL.of g1⟩, _, rfl, _, rfl, _, _, rfl, rfl, ⟨by decide, by decide⟩, _, rfl, _, rfl, r2, _, _, _, rfl, rfl, SqL.of g2, hz2, _, _, rfl, rfl, _, _, rfl, rfl, by omega, (by show 2 ≤ sizeLine; decide), fun t ht => ?_⟩
    dsimp only
    rw [hn]
    have nt1 : r1 ≠ t := ne_of_none g1 ht
    have nt2 : r2 ≠ t := ne_of_none g2 ht
    have g1' : (upd H2 t (.tup [.int (e0 : Int), .int (n : Int)])) r1 = some (.lst xs) := by rw [upd_ne nt1]; exact g1
    refine ⟨r1, xs, _, rfl, rfl, g1', small1000 (by omega), ?_⟩
    have s4 : Same H (upd (upd H2 t (.tup [.int (e0 : Int), .int (n : Int)])) r1 (.lst (xs ++ [.ref t]))) := fun b o e => by
      have hb1 : b ≠ r1 := fun z => by subst z; exact absurd ((Same.trans (same_new ht0 _) (Same.refl _)).free hr1) (by rw [e]; intro z; cases z)
      rw [upd_ne hb1]
      exact same_new ht _ b o (sm b o e)
    have g1'' : (upd (upd H2 t (.tup [.int (e0 : Int), .int (n : Int)])) r1 (.lst (xs ++ [.ref t]))) r1 = some (.lst (xs ++ [.ref t])) := upd_same
    have g2'' : (upd (upd H2 t (.tup [.int (e0 : Int), .int (n : Int)])) r1 (.lst (xs ++ [.ref t]))) r2 = some (.lst (natsV zs)) := by rw [upd_ne n12.symm, upd_ne nt2]; exact g2
    have gt : SqT K (upd (upd H2 t (.tup [.int (e0 : Int), .int (n : Int)])) r1 (.lst (xs ++ [.ref t]))) t [elV (some e0), .int (n : Int)] := SqT.of (by rw [upd_ne nt1.symm]; exact upd_same)
    have hlast : atI (xs ++ [V.ref t]) (1 + (i : Int)) = some (.ref t) := by
      have e : (1 + (i : Int)) = ((i + 1 : Nat) : Int) := by omega
      rw [e]
      exact atI_nat (by rw [List.getElem?_append_right (by omega), show i + 1 - xs.length = 0 by omega]; rfl)
    refine ⟨_, rfl, .inl ⟨rfl, _, SqL.of g2''⟩, _, rfl, _, rfl, r2, _, _, _, rfl, rfl, SqL.of g2'', hz2, _, rfl, _, rfl, r1, _, _, _, rfl, rfl, SqL.of g1'', hlast, t, _, _, _, rfl, rfl, gt, atI_nat (j := 1) rfl, _, _, rfl, rfl, r2, _, _, rfl, rfl, g2'', small1000 (by rw [List.length_map]; omega), ?_⟩
    refine ⟨sh ++ [(some e0, n)], zs ++ [z + n], xs ++ [.ref t], _, _, _, rfl, fun b o e => ?_, by rw [upd_ne n12]; exact upd_same, ?_, ?_, hO.snoc hes hz1 hn6, by simp; omega⟩
    · have hb2 : b ≠ r2 := fun z => by subst z; exact absurd (((same_new ht0 _).trans (same_new hr1 _)).free hr2) (by rw [e]; intro z; cases z)
      rw [upd_ne hb2]
      exact s4 b o e
    · rw [upd_same]; show _ = some (HO.lst (List.map _ (zs ++ [z + n]))); rw [List.map_append]; rfl
    · exact (((hI.same (same_new ht _)).upd (o := .lst (xs ++ [.ref t])) g1').snoc (s := (some e0, n)) gt).upd g2''
  · rintro σ H2 ⟨sh, zs, xs, o4, o5, o6, rfl, sm, g1, g2, hI, hO, hl⟩
    refine ⟨(by show 0 ≤ sizeLine; decide), fun r3 hr3 => ?_⟩
    have lx := hI.1
    have lz := hO.len
    have sm3 := sm.trans (same_new hr3 (.lst []))
    have g13 := same_new hr3 (.lst []) _ _ g1
    have g23 := same_new hr3 (.lst []) _ _ g2
    have hI3 := hI.same (same_new hr3 (.lst []))
    have n13 : r1 ≠ r3 := ne_of_none g1 hr3
    have n23 : r2 ≠ r3 := ne_of_none g2 hr3
    have Hr3 : H r3 = none := sm.free hr3
    refine ⟨_, rfl, r1, xs, rfl, .inl (SqL.of g13), _, rfl, by omega, by omega, ?_⟩
    refine for_range (lo := 0) (n := ((xs.length : Nat) : Int).toNat) (fun i σ H4 => ∃ (ms : Mks) (ys : List V) (o4 o8 : Option V), σ = [some (.ref a), some (.int at'), some (.ref r1), some (.ref r2), o4, o5, o6, some (.ref r3), o8] ∧ SameB r3 (upd H2 r3 (.lst [])) H4 ∧ H4 r3 = some (.lst ys) ∧ MFr K H4 r3 ys ms ∧ ms.length = i ∧
      (∀ (j : Nat) m, ms[j]? = some m → ∃ s, sh[j]? = some s ∧ m.1 = s.1 ∧ m.2.length = s.2 ∧ ∀ k ∈ m.2, KdOk zs k)) ?_ ?_ ?_
    · exact ⟨[], [], _, _, rfl, SameB.refl _ _, upd_same, fun o => MIt.nil K _, rfl, fun j m h => by simp at h⟩
    · rintro i σ H4 hi ⟨ms, ys, p4, p8, rfl, sb, g3, hF, hlm, hag⟩
      have hix : i < xs.length := by omega
      have his : i < sh.length := by omega
      have k1 : H4 r1 = some (.lst xs) := sb _ _ n13 g13
      have k2 : H4 r2 = some (.lst (natsV zs)) := sb _ _ n23 g23
      have smH : Same H H4 := fun b o e => sb b o (ne_of_none e Hr3) (sm3 b o e)
      obtain ⟨t, hx, ht3⟩ := hI3.2 i _ _ (List.getElem?_eq_getElem hix) (List.getElem?_eq_getElem his)
      have ht4 : SqT K H4 t [elV (sh[i]).1, .int ((sh[i]).2 : Int)] := tup_sb ht3 upd_same sb
      have hat : atI xs (0 + (i : Int)) = some (.ref t) := by
        have e : (0 + (i : Int)) = ((i : Nat) : Int) := by omega
        rw [e, ← hx]
        exact atI_nat (List.getElem?_eq_getElem hix)
      have hn6 : (sh[i]).2 ≤ 6 := by
        rcases Nat.eq_zero_or_pos i with z | z
        · subst z
          have := hO.s0
          rw [List.getElem?_eq_getElem his] at this
          rw [Option.some.inj this]
          decide
        · obtain ⟨j, z', _, _, _, e4⟩ := hO.go i _ z (List.getElem?_eq_getElem his)
          have := hO.six _ (List.mem_of_getElem? e4)
          omega
      refine ⟨_, rfl, _, rfl, r1, xs, _, _, rfl, rfl, SqL.of k1, hat, t, _, _, _, rfl, rfl, ht4, atI_nat (j := 1) rfl, _, rfl, by omega, by omega, fun D hD => ?_⟩
      have nD3 : D ≠ r3 := (ne_of_none g3 hD).symm
      refine lc_range (lo := 0) (n := ((sh[i]).2 : Int).toNat) (fun j ws H5 => Same H4 H5 ∧ H5 D = some (.lst ws) ∧ ∃ ks : List Kd, ks.length = j ∧ KIt K H5 ws ks ∧ ∀ k ∈ ks, KdOk zs k) (Nat.le_of_lt (small1000 (by omega))) ⟨same_new hD _, upd_same, [], rfl, KIt.nil K _, fun k hk => nomatch hk⟩ ?_ ?_ ?_
      · rintro j ws H5 ⟨_, e1, ks, e2, e3, _⟩
        exact ⟨e1, by rw [e3.1, e2]; exact Nat.le_refl _⟩
      · rintro j ws H5 hj ⟨s5, d5, ks, hks, hK, hok⟩
        refine ⟨rfl, ?_⟩
        refine ⟨_, rfl, _, rfl, _, _, rfl, rfl, _, rfl, _, _, rfl, rfl, .inl ⟨by decide, by decide⟩, _, _, rfl, rfl, _, rfl, _, _, rfl, rfl, a, ns, _, rfl, s5.seq (smH.seq hS), by omega, by omega, fun v7 y0 y1 => ?_⟩
        refine ⟨_, rfl, r2, zs, _, rfl, SqL.of (s5 _ _ k2), y0, by omega, hO.six, fun k u H6 hk s6 hu => ?_⟩
        have d6 : H6 D = some (.lst ws) := s6 _ _ d5
        refine ⟨d6, fun b o e => ?_, upd_same, ks ++ [k], by simp [hks], ((hK.same s6).snoc (SqT.of hu)).upd d6, fun k' hk' => ?_⟩
        · rw [upd_ne (ne_of_none e hD)]
          exact s6 b o (s5 b o e)
        · rcases List.mem_append.mp hk' with z | z
          · exact hok k' z
          · simp at z; rw [z]; exact hk
      · rintro ws H5 ⟨s5, d5, ks, hks, hK, hok⟩
        have j1 : H5 r1 = some (.lst xs) := s5 _ _ k1
        have j3 : H5 r3 = some (.lst ys) := s5 _ _ g3
        refine ⟨_, rfl, .inl ⟨rfl, _, SqL.of j3⟩, _, rfl, _, rfl, r1, xs, _, _, rfl, rfl, SqL.of j1, hat, t, _, _, _, rfl, rfl, s5.tup ht4, atI_nat (j := 0) rfl, _, rfl, (by show 2 ≤ sizeLine; decide), fun u hu => ?_⟩
        have j3' := same_new hu (.tup [elV (sh[i]).1, .ref D]) _ _ j3
        have hly : ys.length = i := by rw [(hF (.lst [])).1]; exact hlm
        refine ⟨r3, ys, _, rfl, rfl, j3', small1000 (by omega), ?_⟩
        have nu3 : u ≠ r3 := (ne_of_none j3 hu).symm
        have sb6 : SameB r3 H4 (upd (upd H5 u (.tup [elV (sh[i]).1, .ref D])) r3 (.lst (ys ++ [.ref u]))) := fun b o n e => by rw [upd_ne n]; exact same_new hu _ b o (s5 b o e)
        refine ⟨ms ++ [((sh[i]).1, ks)], ys ++ [.ref u], _, _, rfl, sb.trans sb6, upd_same, fun o => ?_, by simp [hlm], fun j m hm => ?_⟩
        · refine ((hF.mono sb6) o).snoc ⟨u, D, ws, rfl, ?_, ?_, ?_⟩
          · exact SqT.of (by rw [upd_ne nu3, upd_ne nu3]; exact upd_same)
          · exact SqL.of (by rw [upd_ne nD3, upd_ne nD3]; exact same_new hu _ _ _ d5)
          · refine KIt.rd ?_
            have z := (hK.same (same_new hu (.tup [elV (sh[i]).1, .ref D]))).upd (o := o) j3'
            rw [upd_upd]
            exact z
        · by_cases hjl : j < ms.length
          · rw [List.getElem?_append_left hjl] at hm
            exact hag j m hm
          · have hjl2 : j < (ms ++ [((sh[i]).1, ks)]).length := (List.getElem?_eq_some_iff.mp hm).1
            have e : j = ms.length := by simp at hjl2; omega
            subst e
            rw [List.getElem?_append_right (Nat.le_refl _)] at hm
            simp at hm
            subst hm
            refine ⟨sh[i], by rw [hlm]; exact List.getElem?_eq_getElem his, rfl, ?_, hok⟩
            rw [hks]
            omega
    · rintro σ H4 ⟨ms, ys, p4, p8, rfl, sb, g3, hF, hlm, hag⟩
      have smH : Same H H4 := fun b o e => sb b o (ne_of_none e Hr3) (sm3 b o e)
      have hlen : ms.length = sh.length := by omega
      refine ⟨_, rfl, q r3 ms zs ys H4 smH Hr3 g3 hF ?_⟩
      have get : ∀ (i : Nat) m, ms[i]? = some m → ∃ s, sh[i]? = some s ∧ m.1 = s.1 ∧ m.2.length = s.2 ∧ ∀ k ∈ m.2, KdOk zs k := hag
      refine ⟨⟨by rw [hlen]; exact hO.ne, by omega, fun m hm => ?_, fun i m hm hi => ?_⟩, by omega, fun m hm => ?_, hO.z0, hO.six, fun i m hi hm => ?_, fun i m hm => (get i m hm).choose_spec.2.2.2⟩
      · obtain ⟨s, e1, e2, _⟩ := get 0 m hm
        rw [hO.s0] at e1
        cases e1
        exact e2
      · obtain ⟨s, e1, e2, _⟩ := get i m hm
        obtain ⟨j, z, f1, f2, _⟩ := hO.go i s hi e1
        exact ⟨j, by rw [e2]; exact f1, f2⟩
      · obtain ⟨s, e1, _, e3, _⟩ := get 0 m hm
        rw [hO.s0] at e1
        cases e1
        exact List.length_eq_zero_iff.mp e3
      · obtain ⟨s, e1, e2, e3, _⟩ := get i m hm
        obtain ⟨j, z, f1, f2, f3, f4⟩ := hO.go i s hi e1
        exact ⟨j, z, by rw [e2]; exact f1, f2, f3, by rw [e3]; exact f4⟩
theorem sc__law_last : FnScope ["_law_cell", "_law_many"] ["_law_cell", "_law_many"] (defScope s_law_last) := ⟨rfl, rfl, rfl, by decide +kernel, rfl, by decide +kernel, by decide +kernel⟩
theorem ok__law_last {f : Addr} {fd : FuncData} (F : Fun K "_law_last" "_law_last" s_law_last f fd) : FnOk P w K mg base CX0 1 f fd ["_law_cell", "_law_many"] (sp_law_last K) := by
  refine F.ok sc__law_last (fun vs H Q E h => ?_) (fun cdv A outer s H vs Q E hr h => ?_)
  · obtain ⟨c, nr, rfl, h0, hn, q⟩ := h
    rfl
  obtain ⟨c, nr, rfl, h0, hn, q⟩ := h
  refine ⟨_, (pss_one (ps_ret (pe_ix ix_list (pe_lst (pa_cons (pe_tup (pa_cons pe_str (pa_cons (pe_op op_mod (pe_op op_fdiv (pv 0) pe_int) (pv 1)) pa_nil))) (pa_cons (pe_tup (pa_cons pe_str pa_nil)) (pa_cons (pe_tup (pa_cons pe_str pa_nil)) pa_nil)))) (pe_op op_mod (pv 0) pe_int) (fun _ _ => rfl)))), ?_⟩
  obtain ⟨k, hk, hlt⟩ := modN (e := c / 3) hn
  refine ⟨_, rfl, _, _, rfl, rfl, ⟨by decide, by decide⟩, _, rfl, _, _, rfl, rfl, (by show (0 : Int) < (nr : Int); omega), (by show 2 ≤ sizeLine; decide), fun t1 n1 => ⟨(by show 1 ≤ sizeLine; decide), fun t2 n2 => ⟨(by show 1 ≤ sizeLine; decide), fun t3 n3 => ⟨(by show 3 ≤ sizeLine; decide), fun l nl => ?_⟩⟩⟩⟩
  have u1 := same_new n1 (.tup [.str "jump", .int (c / 3 % (nr : Int))])
  have u2 := same_new n2 (.tup [.str "toss"])
  have u3 := same_new n3 (.tup [.str "give"])
  have u4 := same_new nl (.lst [.ref t1, .ref t2, .ref t3])
  obtain ⟨i, hi, hi3⟩ := modN (e := c) (n := 3) (by decide)
  have S := u1.trans (u2.trans (u3.trans u4))
  refine ⟨_, rfl, _, _, rfl, rfl, (by show (0 : Int) < 3; decide), ?_⟩
  have e1 := u4 _ _ (u3 _ _ (u2 _ _ (upd_same (H := H) (a := t1) (o := .tup [.str "jump", .int (c / 3 % (nr : Int))]))))
  have e2 := u4 _ _ (u3 _ _ (upd_same (a := t2) (o := .tup [.str "toss"])))
  have e3 := u4 _ _ (upd_same (a := t3) (o := .tup [.str "give"]))
  have hc3 : c % 3 = (i : Int) := hi
  match i, hi3, hc3 with
  | 0, _, hc3 => exact ⟨l, _, _, V.ref t1, rfl, rfl, SqL.of upd_same, (by show atI _ (c % 3) = some (V.ref t1); rw [hc3]; rfl), q (.jump k) t1 _ (.inr (.inr ⟨k, rfl, hlt⟩)) S (SqT.of (by rw [hk] at e1; exact e1))⟩
  | 1, _, hc3 => exact ⟨l, _, _, V.ref t2, rfl, rfl, SqL.of upd_same, (by show atI _ (c % 3) = some (V.ref t2); rw [hc3]; rfl), q (.bare "toss") t2 _ (.inl rfl) S (SqT.of e2)⟩
  | 2, _, hc3 => exact ⟨l, _, _, V.ref t3, rfl, rfl, SqL.of upd_same, (by show atI _ (c % 3) = some (V.ref t3); rw [hc3]; rfl), q (.bare "give") t3 _ (.inr (.inl rfl)) S (SqT.of e3)⟩
theorem sc__law_signs : FnScope ["_law_some"] [] (defScope s_law_signs) := ⟨rfl, rfl, rfl, by decide +kernel, rfl, by decide +kernel, by decide +kernel⟩
theorem ok__law_signs {f : Addr} {fd : FuncData} (F : Fun K "_law_signs" "_law_signs" s_law_signs f fd) : FnOk P w K mg base CX0 1 f fd [] (sp_law_signs K) := by
  refine F.ok sc__law_signs (fun vs H Q E h => ?_) (fun cdv A outer s H vs Q E hr h => ?_)
  · obtain ⟨rfl, q⟩ := h
    rfl
  obtain ⟨rfl, q⟩ := h
  refine ⟨_, (pss_cons (ps_set (i := 0) sc__law_signs.nd rfl (Or.inl rfl) pe_str)
      (pss_one (ps_ret (pe_bm PySem.F.plainAttrs_str PySem.F.slot_str_split PySem.F.type_str_split mt_split (pe_op op_add_str (pv 0) pe_str) (pa_cons pe_str pa_nil))))), ?_⟩
  exact ⟨_, rfl, _, _, rfl, rfl, by decide +kernel, rfl, _, _, rfl, rfl, by decide +kernel, by decide +kernel, by decide +kernel, by decide +kernel, fun p hp => by rw [signs_cut]; exact q p _ (same_new hp _) hp upd_same⟩
theorem sc__law_row : FnScope ["_law_cell", "_law_sizes", "_law_parts", "_law_boxes", "_law_many", "_law_sign", "_law_rest", "_law_c"] ["_law_cell", "_law_sizes", "_law_parts", "_law_boxes", "_law_many"] (defScope s_law_row) := ⟨rfl, rfl, rfl, by decide +kernel, rfl, by decide +kernel, by decide +kernel⟩
theorem ok__law_row {f : Addr} {fd : FuncData} (F : Fun K "_law_row" "_law_row" s_law_row f fd) (z_int : mg "int" = none) (z_len : mg "len" = none) (z_max : mg "max" = none) (h__law_signs : Has P w K mg base CX0 "_law_signs" 1 [] (sp_law_signs K)) : FnOk P w K mg base CX0 2 f fd ["_law_cell", "_law_sizes", "_law_parts", "_law_boxes", "_law_many"] (sp_law_row K) := by
  refine F.ok sc__law_row (fun vs H Q E h => ?_) (fun cdv A outer s H vs Q E hr h => ?_)
  · obtain ⟨c, D, zs, np, nb, nr, rfl, hD, hz, hp, hn, q⟩ := h
    rfl
  obtain ⟨c, D, zs, np, nb, nr, rfl, hD, hz, hp, hn, q⟩ := h
  refine ⟨_, (pss_cons (ps_set (i := 5) sc__law_row.nd rfl (Or.inl rfl) (pe_ix ix_list (pe_ch0 h__law_signs (hr.mono (by decide)) rfl) (pe_op op_mod (pv 0) pe_int) (fun _ _ => rfl)))
      (pss_cons (ps_set (i := 6) sc__law_row.nd rfl (Or.inl rfl) (pe_op op_fdiv (pv 0) pe_int))
      (pss_cons (ps_set (i := 7) sc__law_row.nd rfl (Or.inl rfl) (pe_op op_mod (pv 6) (pe_callB call_len_seq rfl z_len bt_len (pa_cons (pv 1) pa_nil))))
      (pss_cons (ps_if (pt_cmpR op_eq (pv 5) pe_str (nomark _)) (pss_one (ps_ret (pe_tup (pa_cons (pv 5) (pa_cons (pe_op op_sub (pe_op op_mod (pv 6) pe_int) pe_int) pa_nil))))) pss_nil)
      (pss_cons (ps_if (pt_cmpR op_in_seq (pv 5) (pe_tup (pa_cons pe_str (pa_cons pe_str pa_nil))) rfl) (pss_one (ps_ret (pe_ix ix_list (pe_lst (pa_cons (pe_tup (pa_cons (pv 5) (pa_cons (pe_op op_mod (pv 6) (pe_callB (call_max2 rfl) rfl z_max bt_max (pa_cons (pv 3) (pa_cons pe_int pa_nil)))) pa_nil))) (pa_cons (pe_tup (pa_cons pe_str pa_nil)) pa_nil))) (pe_callTy call_int1 rfl z_int bt_int (pa_cons (pe_cmpR op_eq (pv 3) pe_int (nomark _)) pa_nil)) (fun _ _ => rfl)))) pss_nil)
      (pss_cons (ps_if (pt_cmpR op_in_seq (pv 5) (pe_tup (pa_cons pe_str (pa_cons pe_str pa_nil))) rfl) (pss_one (ps_ret (pe_tup (pa_cons (pv 5) (pa_cons (pe_op op_mod (pv 6) (pv 4)) pa_nil))))) pss_nil)
      (pss_cons (ps_if (pt_cmpR op_eq (pv 5) pe_str (nomark _)) (pss_one (ps_ret (pe_tup (pa_cons (pv 5) (pa_cons (pv 7) (pa_cons (pe_op op_mod (pe_op op_fdiv (pv 6) pe_int) (pv 4)) pa_nil)))))) pss_nil)
      (pss_cons (ps_if (pt_cmpR op_eq (pv 5) pe_str (nomark _)) (pss_one (ps_ret (pe_tup (pa_cons (pv 5) (pa_cons (pe_op op_mod (pv 6) (pv 2)) pa_nil))))) pss_nil)
      (pss_cons (ps_if (PW.pt (pw_and (pt_cmpR op_in_seq (pv 5) (pe_tup (pa_cons pe_str (pa_cons pe_str (pa_cons pe_str pa_nil)))) rfl) (pw_and1 (pt_cmpR op_gt (pe_ix ix_list (pv 1) (pv 7) (fun _ _ => rfl)) pe_int (nomark _))))) (pss_one (ps_ret (pe_tup (pa_cons (pv 5) (pa_cons (pv 7) (pa_cons (pe_op op_mod (pe_op op_fdiv (pv 6) pe_int) (pe_ix ix_list (pv 1) (pv 7) (fun _ _ => rfl))) pa_nil)))))) pss_nil)
      (pss_cons (ps_if (pt_cmpR op_in_seq (pv 5) (pe_tup (pa_cons pe_str (pa_cons pe_str (pa_cons pe_str (pa_cons pe_str (pa_cons pe_str pa_nil)))))) rfl) (pss_one (ps_ret (pe_tup (pa_cons (pe_ix ix_list (pe_lst (pa_cons pe_str (pa_cons pe_str pa_nil))) (pe_op op_mod (pv 6) pe_int) (fun _ _ => rfl)) (pa_cons (pv 7) pa_nil))))) pss_nil)
      (pss_one (ps_ret (pe_tup (pa_cons (pv 5) pa_nil)))))))))))))), ?_⟩
  refine cutR (R := ?R) (fun σ' H' => ∃ (x : Str) (e : Int) (k : Nat), x ∈ signsL ∧ k < zs.length ∧ Same H H' ∧ σ' = [some (.int c), some (.ref D), some (.int (np : Int)), some (.int (nb : Int)), some (.int (nr : Int)), some (.str x), some (.int e), some (.int (k : Int))]) (fun kk => ?mm) ?kk
  case mm =>
    refine ⟨rfl, fun sl H1 s1 n1 g1 => ?_⟩
    obtain ⟨i, hi, hil⟩ := modN (e := c) (n := 25) (by decide)
    have hsl : signsL.length = 25 := rfl
    have hxi := List.getElem?_eq_getElem (l := signsL) (i := i) (by omega)
    have hx := List.getElem_mem (l := signsL) (n := i) (by omega)
    generalize signsL[i] = x at hxi hx
    refine ⟨_, rfl, _, _, rfl, rfl, (by show (0 : Int) < 25; decide), sl, _, _, .str x, rfl, rfl, SqL.of g1, ?_, ?_⟩
    · show atI (signsL.map V.str) (c % 25) = some (.str x)
      rw [show c % 25 = (i : Int) from hi]
      exact atI_nat (by rw [List.getElem?_map, hxi]; rfl)
    have hD1 := s1.seq hD
    refine ⟨_, rfl, _, _, rfl, rfl, ⟨by decide, by decide⟩, ?_⟩
    have lz : (natsV zs).length = zs.length := List.length_map ..
    obtain ⟨k, hk, hkl⟩ := modN (e := c / 25) hz
    refine ⟨_, rfl, _, rfl, D, _, rfl, .inl hD1, _, _, rfl, rfl, (by rw [lz]; omega), ?_⟩
    dsimp only [gName]
    refine kk _ _ ⟨x, c / 25, k, hx, hkl, s1, ?_⟩
    rw [← hk, ← lz]
    rfl
  rintro σ' H1 ⟨x, e, k, hx, hkl, s1, rfl⟩
  refine ⟨_, rfl, rfl, _, rfl, ite2 (fun z => ?_) (fun z => ?_)⟩
  · have z' : x = "push" := V.str.inj (of_decide_eq_true z)
    refine ⟨_, rfl, _, rfl, _, _, rfl, rfl, (by show (0 : Int) < 4294967296; decide), _, _, rfl, rfl, (by show 2 ≤ sizeLine; decide), fun t ht => ?_⟩
    have w0 := Int.emod_nonneg e (show (4294967296 : Int) ≠ 0 by decide)
    have w1 := Int.emod_lt_of_pos e (show (0 : Int) < 4294967296 by decide)
    exact q (.push (e % 4294967296 - 2147483648)) t _ ⟨by omega, by omega⟩ (s1.trans (same_new ht _)) (SqT.of (by rw [upd_same, z']; rfl))
  have zA : ¬ x = "push" := fun y => z (decide_eq_true (congrArg V.str y))
  dsimp only [tNext]
  refine ⟨_, rfl, (by show 2 ≤ sizeLine; decide), fun t ht => ⟨t, _, rfl, .inr (SqT.of upd_same), rfl, rfl, _, rfl, ?_⟩⟩
  have s2 := s1.trans (same_new ht (.tup [.str "load", .str "store"]))
  generalize upd H1 t (.tup [.str "load", .str "store"]) = H2 at s2 ⊢
  show if (inV (.str x) ((["load", "store"] : List Str).map V.str)) = true then _ else _
  rw [inV_strs]
  refine ite2 (fun z => ?_) (fun z => ?_)
  · have zB : x ∈ (["load", "store"] : List Str) := of_decide_eq_true z
    refine ⟨_, rfl, _, rfl, _, rfl, _, _, rfl, _, _, rfl, rfl, ?_, (by show 2 ≤ sizeLine; decide), fun t1 h1 => ⟨(by show 1 ≤ sizeLine; decide), fun t2 h2 => ⟨(by show 2 ≤ sizeLine; decide), fun l hl => ?_⟩⟩⟩
    · show (0 : Int) < if (1 : Int) > (nb : Int) then 1 else (nb : Int)
      split <;> omega
    have u1 := same_new h1 (.tup [.str x, .int (e % (if (1 : Int) > (nb : Int) then 1 else (nb : Int)))])
    have u2 := same_new h2 (.tup [.str "drop"])
    have u3 := same_new hl (.lst [.ref t1, .ref t2])
    have S := s2.trans (u1.trans (u2.trans u3))
    have e1 := u3 _ _ (u2 _ _ (upd_same (H := H2) (a := t1) (o := .tup [.str x, .int (e % (if (1 : Int) > (nb : Int) then 1 else (nb : Int)))])))
    have e2 := u3 _ _ (upd_same (a := t2) (o := .tup [.str "drop"]))
    refine ⟨_, rfl, rfl, .inr ⟨_, rfl, ?_⟩⟩
    by_cases hb : nb = 0
    · refine ⟨l, _, 1, .ref t2, rfl, ?_, SqL.of upd_same, rfl, q (.bare "drop") t2 _ (show ("drop" : Str) ∈ bareL by decide +kernel) S (SqT.of e2)⟩
      rw [decide_eq_true (by rw [hb]; rfl)]
      rfl
    · obtain ⟨b, hb1, hb2⟩ := modN (e := e) (n := nb) (by omega)
      refine ⟨l, _, 0, .ref t1, rfl, ?_, SqL.of upd_same, rfl, ?_⟩
      · rw [decide_eq_false (fun y => hb (by have := V.int.inj y; omega))]
        rfl
      have hnb : ¬ (1 : Int) > (nb : Int) := by omega
      simp only [List.mem_cons, List.not_mem_nil, or_false] at zB
      rcases zB with zB | zB
      · exact q (.load b) t1 _ hb2 S (SqT.of (e1.trans (by rw [zB, if_neg hnb, hb1]; rfl)))
      · exact q (.store b) t1 _ hb2 S (SqT.of (e1.trans (by rw [zB, if_neg hnb, hb1]; rfl)))
  have zB : ¬ x ∈ (["load", "store"] : List Str) := of_decide_eq_false (Bool.eq_false_iff.mpr z)
  dsimp only [tNext]
  refine ⟨_, rfl, (by show 2 ≤ sizeLine; decide), fun t ht => ⟨t, _, rfl, .inr (SqT.of upd_same), rfl, rfl, _, rfl, ?_⟩⟩
  have s3 := s2.trans (same_new ht (.tup [.str "jump", .str "zero"]))
  generalize upd H2 t (.tup [.str "jump", .str "zero"]) = H3 at s3 ⊢
  show if (inV (.str x) ((["jump", "zero"] : List Str).map V.str)) = true then _ else _
  rw [inV_strs]
  obtain ⟨a, ha, hal⟩ := modN (e := e) hn
  obtain ⟨b, hb, hbl⟩ := modN (e := e / 8) hn
  refine ite2 (fun z => ?_) (fun z => ?_)
  · have zC : x ∈ (["jump", "zero"] : List Str) := of_decide_eq_true z
    refine ⟨_, rfl, _, rfl, _, rfl, _, _, rfl, rfl, (by show (0 : Int) < (nr : Int); omega), (by show 2 ≤ sizeLine; decide), fun t ht => ?_⟩
    have S := s3.trans (same_new ht (.tup [.str x, .int (e % (nr : Int))]))
    simp only [List.mem_cons, List.not_mem_nil, or_false] at zC
    rcases zC with zC | zC
    · exact q (.jump a) t _ hal S (SqT.of (by rw [upd_same]; show some (HO.tup [V.str x, V.int (e % (nr : Int))]) = _; rw [zC, ha]; rfl))
    · exact q (.zero a) t _ hal S (SqT.of (by rw [upd_same]; show some (HO.tup [V.str x, V.int (e % (nr : Int))]) = _; rw [zC, ha]; rfl))
  have zC : ¬ x ∈ (["jump", "zero"] : List Str) := of_decide_eq_false (Bool.eq_false_iff.mpr z)
  dsimp only [tNext]
  refine ⟨_, rfl, rfl, _, rfl, ite2 (fun z => ?_) (fun z => ?_)⟩
  · have z' : x = "kin" := V.str.inj (of_decide_eq_true z)
    refine ⟨_, rfl, _, rfl, _, rfl, _, _, rfl, rfl, ⟨by decide, by decide⟩, _, rfl, _, _, rfl, rfl, (by show (0 : Int) < (nr : Int); omega), (by show 3 ≤ sizeLine; decide), fun t ht => ?_⟩
    exact q (.kin k b) t _ ⟨hkl, hbl⟩ (s3.trans (same_new ht _)) (SqT.of (by rw [upd_same]; refine congrArg (fun l => some (HO.tup l)) ?_; show [V.str x, V.int (k : Int), V.int (e / 8 % (nr : Int))] = _; rw [hb, z']; rfl))
  have zD : ¬ x = "kin" := fun y => z (decide_eq_true (congrArg V.str y))
  dsimp only [tNext]
  refine ⟨_, rfl, rfl, _, rfl, ite2 (fun z => ?_) (fun z => ?_)⟩
  · have z' : x = "call" := V.str.inj (of_decide_eq_true z)
    obtain ⟨p, hp1, hp2⟩ := modN (e := e) hp
    refine ⟨_, rfl, _, rfl, _, rfl, _, _, rfl, rfl, (by show (0 : Int) < (np : Int); omega), (by show 2 ≤ sizeLine; decide), fun t ht => ?_⟩
    exact q (.call p) t _ hp2 (s3.trans (same_new ht _)) (SqT.of (by rw [upd_same]; refine congrArg (fun l => some (HO.tup l)) ?_; show [V.str x, V.int (e % (np : Int))] = _; rw [hp1, z']; rfl))
  have zE : ¬ x = "call" := fun y => z (decide_eq_true (congrArg V.str y))
  dsimp only [tNext]
  refine ⟨_, rfl, (by show 3 ≤ sizeLine; decide), fun t ht => ⟨t, _, rfl, .inr (SqT.of upd_same), rfl, rfl, _, rfl, ?_⟩⟩
  have s4 := s3.trans (same_new ht (.tup [.str "fill", .str "get", .str "put"]))
  generalize upd H3 t (.tup [.str "fill", .str "get", .str "put"]) = H4 at s4 ⊢
  show if (inV (.str x) ((["fill", "get", "put"] : List Str).map V.str)) = true then _ else _
  rw [inV_strs]
  obtain ⟨zk, hzk1, hzk2⟩ := nat_item (zs := zs) hkl
  refine cutR (R := ?R2) (fun σ' H' => σ' = [some (.int c), some (.ref D), some (.int (np : Int)), some (.int (nb : Int)), some (.int (nr : Int)), some (.str x), some (.int e), some (.int (k : Int))] ∧ H4 = H') (fun kk => ?mm2) ?kk2
  case mm2 =>
    refine ite2 (fun z => ?_) (fun z => ?_)
    · have zF : x ∈ (["fill", "get", "put"] : List Str) := of_decide_eq_true z
      refine ⟨_, rfl, _, rfl, D, _, _, _, rfl, rfl, (s4.seq hD), hzk2, _, _, rfl, rfl, _, rfl, ite2 (fun y => ?_) (fun y => ?_)⟩
      · have y' : (0 : Int) < (zk : Int) := of_decide_eq_true y
        obtain ⟨f, hf1, hf2⟩ := modN (e := e / 8) (n := zk) (by omega)
        refine ⟨_, rfl, _, rfl, _, rfl, _, _, rfl, rfl, ⟨by decide, by decide⟩, _, rfl, _, rfl, D, _, _, _, rfl, rfl, (s4.seq hD), hzk2, _, _, rfl, rfl, y', (by show 3 ≤ sizeLine; decide), fun t ht => ?_⟩
        have S := s4.trans (same_new ht (.tup [.str x, .int (k : Int), .int (e / 8 % (zk : Int))]))
        simp only [List.mem_cons, List.not_mem_nil, or_false] at zF
        rcases zF with zF | zF | zF
        · exact q (.fill k f) t _ ⟨zk, hzk1, hf2⟩ S (SqT.of (by rw [upd_same]; show some (HO.tup [V.str x, V.int (k : Int), V.int (e / 8 % (zk : Int))]) = _; rw [zF, hf1]; rfl))
        · exact q (.get k f) t _ ⟨zk, hzk1, hf2⟩ S (SqT.of (by rw [upd_same]; show some (HO.tup [V.str x, V.int (k : Int), V.int (e / 8 % (zk : Int))]) = _; rw [zF, hf1]; rfl))
        · exact q (.put k f) t _ ⟨zk, hzk1, hf2⟩ S (SqT.of (by rw [upd_same]; show some (HO.tup [V.str x, V.int (k : Int), V.int (e / 8 % (zk : Int))]) = _; rw [zF, hf1]; rfl))
      · dsimp only [tNext]
        exact kk _ _ ⟨rfl, rfl⟩
    · dsimp only [tNext]
      exact kk _ _ ⟨rfl, rfl⟩
  case kk2 =>
    rintro σ' H' ⟨rfl, rfl⟩
    refine ⟨_, rfl, (by show 5 ≤ sizeLine; decide), fun t ht => ⟨t, _, rfl, .inr (SqT.of upd_same), rfl, rfl, _, rfl, ?_⟩⟩
    have s5 := s4.trans (same_new ht (.tup [.str "make", .str "fill", .str "begin", .str "get", .str "put"]))
    generalize upd H4 t (.tup [.str "make", .str "fill", .str "begin", .str "get", .str "put"]) = H5 at s5 ⊢
    show if (inV (.str x) ((["make", "fill", "begin", "get", "put"] : List Str).map V.str)) = true then _ else _
    rw [inV_strs]
    refine ite2 (fun z => ?_) (fun z => ?_)
    · obtain ⟨j, hj, hjl⟩ := modN (e := e) (n := 2) (by decide)
      refine ⟨(by show 2 ≤ sizeLine; decide), fun l hl => ?_⟩
      have u1 := same_new hl (.lst [.str "make", .str "begin"])
      have hj2 : e % 2 = (j : Int) := hj
      refine ⟨_, rfl, _, _, rfl, rfl, (by show (0 : Int) < 2; decide), ?_⟩
      match j, hjl, hj2 with
      | 0, _, hj2 =>
        refine ⟨l, _, _, .str "make", rfl, rfl, SqL.of upd_same, (by show atI _ (e % 2) = _; rw [hj2]; rfl), _, rfl, (by show 2 ≤ sizeLine; decide), fun t ht => ?_⟩
        exact q (.make k) t _ hkl (s5.trans (u1.trans (same_new ht _))) (SqT.of upd_same)
      | 1, _, hj2 =>
        refine ⟨l, _, _, .str "begin", rfl, rfl, SqL.of upd_same, (by show atI _ (e % 2) = _; rw [hj2]; rfl), _, rfl, (by show 2 ≤ sizeLine; decide), fun t ht => ?_⟩
        exact q (.beg k) t _ hkl (s5.trans (u1.trans (same_new ht _))) (SqT.of upd_same)
    · have zG : ¬ x ∈ (["make", "fill", "begin", "get", "put"] : List Str) := of_decide_eq_false (Bool.eq_false_iff.mpr z)
      refine ⟨_, rfl, (by show 1 ≤ sizeLine; decide), fun t ht => ?_⟩
      refine q (.bare x) t _ ?_ (s5.trans (same_new ht _)) (SqT.of upd_same)
      rcases signs_all x hx with h | h | h | h | h | h | h | h
      · exact absurd h zA
      · exact absurd h zB
      · exact absurd h zC
      · exact absurd h zD
      · exact absurd h zE
      · exact absurd (by simp only [List.mem_cons, List.not_mem_nil, or_false] at h ⊢; rcases h with h | h | h <;> simp [h]) zG
      · exact absurd h zG
      · exact h
theorem sc__law_stretch : FnScope ["_law_cell", "_law_other", "_law_many", "_law_first"] ["_law_cell", "_law_other", "_law_many"] (defScope s_law_stretch) := ⟨rfl, rfl, rfl, by decide +kernel, rfl, by decide +kernel, by decide +kernel⟩
theorem ok__law_stretch {f : Addr} {fd : FuncData} (F : Fun K "_law_stretch" "_law_stretch" s_law_stretch f fd) : FnOk P w K mg base CX0 1 f fd ["_law_cell", "_law_other", "_law_many"] (sp_law_stretch K) := by
  refine F.ok sc__law_stretch (fun vs H Q E h => ?_) (fun cdv A outer s H vs Q E hr h => ?_)
  · obtain ⟨c, d, nr, rfl, hn, q⟩ := h
    rfl
  obtain ⟨c, d, nr, rfl, hn, q⟩ := h
  refine ⟨_, (pss_cons (ps_set (i := 3) sc__law_stretch.nd rfl (Or.inl rfl) (pe_op op_mod (pv 0) (pv 2)))
      (pss_one (ps_ret (pe_tup (pa_cons (pv 3) (pa_cons (pe_op op_add (pe_op op_add (pv 3) pe_int) (pe_op op_mod (pe_op op_fdiv (pv 0) pe_int) (pe_op op_sub (pv 2) (pv 3)))) (pa_cons (pe_op op_mod (pv 1) (pv 2)) pa_nil))))))), ?_⟩
  obtain ⟨k, hk, hlt⟩ := modN (e := c) hn
  obtain ⟨m, hm, hmt⟩ := modN (e := d) hn
  obtain ⟨j, hj, hjt⟩ := modN (e := c / 100) (n := nr - k) (by omega)
  refine ⟨_, rfl, _, rfl, _, _, rfl, rfl, (by show (0 : Int) < (nr : Int); omega), ?_⟩
  refine ⟨_, rfl, _, rfl, _, _, rfl, rfl, _, rfl, _, _, rfl, rfl, ⟨by decide, by decide⟩, _, rfl, _, rfl, _, _, rfl, rfl, _, _, rfl, rfl, (by show (0 : Int) < (nr : Int) - c % (nr : Int); omega), _, _, rfl, rfl, _, rfl, _, rfl, _, _, rfl, rfl, (by show (0 : Int) < (nr : Int); omega), (by show 3 ≤ sizeLine; decide), fun t ht => ?_⟩
  refine q (k, k + 1 + j, m) t _ ⟨by show k < k + 1 + j; omega, by show k + 1 + j ≤ nr; omega, hmt⟩ (same_new ht _) (SqT.of (by rw [upd_same]; refine congrArg (fun l => some (HO.tup l)) ?_; show [V.int (c % (nr : Int)), V.int (c % (nr : Int) + 1 + c / 100 % ((nr : Int) - c % (nr : Int))), V.int (d % (nr : Int))] = [V.int (k : Int), V.int ((k + 1 + j : Nat) : Int), V.int (m : Int)]; rw [hk, hm, show (nr : Int) - (k : Int) = ((nr - k : Nat) : Int) by omega, hj]; rfl))
theorem sc__law_part : FnScope ["_law_script", "_law_at", "_law_sizes", "_law_parts", "_law_cell", "_law_many", "_law_boxes", "_law_takes", "_law_gives", "_law_seed", "_law_cells", "_law_rows", "_law_stretches", "_law_k"] ["_law_script", "_law_at", "_law_sizes", "_law_parts"] (defScope s_law_part) := ⟨rfl, rfl, rfl, by decide +kernel, rfl, by decide +kernel, by decide +kernel⟩
theorem ok__law_part {f : Addr} {fd : FuncData} (F : Fun K "_law_part" "_law_part" s_law_part f fd) (z_range : mg "range" = none) (h__law_draw : Has P w K mg base CX0 "_law_draw" 1 ["_law_script", "_law_k"] (sp_law_draw K)) (h__law_kind : Has P w K mg base CX0 "_law_kind" 1 ["_law_cell", "_law_sizes"] (sp_law_kind K)) (h__law_last : Has P w K mg base CX0 "_law_last" 1 ["_law_cell", "_law_many"] (sp_law_last K)) (h__law_row : Has P w K mg base CX0 "_law_row" 2 ["_law_cell", "_law_sizes", "_law_parts", "_law_boxes", "_law_many"] (sp_law_row K)) (h__law_stretch : Has P w K mg base CX0 "_law_stretch" 1 ["_law_cell", "_law_other", "_law_many"] (sp_law_stretch K)) : FnOk P w K mg base CX0 3 f fd ["_law_script", "_law_at", "_law_sizes", "_law_parts"] (sp_law_part K) := by
  refine F.ok sc__law_part (fun vs H Q E h => ?_) (fun cdv A outer s H vs Q E hr h => ?_)
  · obtain ⟨a, ns, at', D, zs, np, rfl, hS, h0, h1, hD, hz, h6, hp, q⟩ := h
    rfl
  obtain ⟨a, ns, at', D, zs, np, rfl, hS, h0, h1, hD, hz, h6, hp, q⟩ := h
  refine ⟨_, (pss_cons (ps_set (i := 4) sc__law_part.nd rfl (Or.inl rfl) (pe_ch h__law_draw (hr.mono (by decide)) rfl (pa_cons (pv 0) (pa_cons (pv 1) pa_nil))))
      (pss_cons (ps_set (i := 5) sc__law_part.nd rfl (Or.inr rfl) (pe_op op_add pe_int (pe_op op_mod (pv 4) pe_int)))
      (pss_cons (ps_if (pt_cmpR op_eq (pe_op op_mod (pe_op op_fdiv (pv 4) pe_int) pe_int) pe_int (nomark _)) (pss_one (ps_set (i := 5) sc__law_part.nd rfl (Or.inr rfl) (pe_op op_sub pe_int (pe_op op_mod (pe_op op_fdiv (pv 4) pe_int) pe_int)))) pss_nil)
      (pss_cons (ps_set (i := 6) sc__law_part.nd rfl (Or.inr rfl) (pe_op op_mod (pe_op op_fdiv (pv 4) pe_int) pe_int))
      (pss_cons (ps_setLC (i := 7) sc__law_part.nd rfl (Or.inl rfl) 1 ["_law_k", "_law_sizes", "_law_script", "_law_at"] [2, 0, 1] ⟨rfl, rfl, rfl, rfl, rfl, rfl, rfl, rfl⟩ (pi_range1 rfl z_range (pa_cons (pe_op op_mod (pe_op op_fdiv (pv 4) pe_int) (pe_op op_add (pv 6) pe_int)) pa_nil)) (fun _ _ _ _ => ⟨(pg_name (i := 0) (show List.Nodup (["_law_k", "_law_sizes", "_law_script", "_law_at"] : List Str) by decide +kernel) rfl (Or.inl rfl)), pif_nil, (pe_ch h__law_kind (hr.mono (by decide)) rfl (pa_cons (pe_ch h__law_draw (hr.mono (by decide)) rfl (pa_cons (pv 2) (pa_cons (pe_op op_add (pe_op op_add (pv 3) pe_int) (pv 0)) pa_nil))) (pa_cons (pv 1) pa_nil)))⟩))
      (pss_cons (ps_set (i := 8) sc__law_part.nd rfl (Or.inl rfl) (pe_ch h__law_kind (hr.mono (by decide)) rfl (pa_cons (pe_ch h__law_draw (hr.mono (by decide)) rfl (pa_cons (pv 0) (pa_cons (pe_op op_add (pv 1) pe_int) pa_nil))) (pa_cons (pv 2) pa_nil))))
      (pss_cons (ps_set (i := 9) sc__law_part.nd rfl (Or.inr rfl) (pe_op op_mod (pe_ch h__law_draw (hr.mono (by decide)) rfl (pa_cons (pv 0) (pa_cons (pe_op op_add (pv 1) pe_int) pa_nil))) pe_int))
      (pss_cons (ps_setLC (i := 10) sc__law_part.nd rfl (Or.inl rfl) 1 ["_law_k", "_law_script", "_law_seed", "_law_at"] [0, 9, 1] ⟨rfl, rfl, rfl, rfl, rfl, rfl, rfl, rfl⟩ (pi_range1 rfl z_range (pa_cons (pe_op op_sub (pv 5) pe_int) pa_nil)) (fun _ _ _ _ => ⟨(pg_name (i := 0) (show List.Nodup (["_law_k", "_law_script", "_law_seed", "_law_at"] : List Str) by decide +kernel) rfl (Or.inl rfl)), pif_nil, (pe_op op_add (pe_ch h__law_draw (hr.mono (by decide)) rfl (pa_cons (pv 1) (pa_cons (pe_op op_add (pe_op op_add (pv 3) pe_int) (pv 0)) pa_nil))) (pe_op op_mod (pe_op op_mul (pv 2) (pe_op op_mul (pe_op op_fdiv (pv 0) pe_int) (pv 0))) pe_int))⟩))
      (pss_cons (ps_set (i := 11) sc__law_part.nd rfl (Or.inl rfl) (pe_op op_catS (pe_lc 1 ["_law_one", "_law_sizes", "_law_parts", "_law_boxes", "_law_many"] [2, 3, 6, 5] ⟨rfl, rfl, rfl, rfl, rfl, rfl, rfl, rfl⟩ (pi_list (pv 10)) (fun _ _ _ _ => ⟨(pg_name (i := 0) (show List.Nodup (["_law_one", "_law_sizes", "_law_parts", "_law_boxes", "_law_many"] : List Str) by decide +kernel) rfl (Or.inl rfl)), pif_nil, (pe_ch h__law_row (hr.mono (by decide)) rfl (pa_cons (pv 0) (pa_cons (pv 1) (pa_cons (pv 2) (pa_cons (pv 3) (pa_cons (pv 4) pa_nil))))))⟩)) (pe_lst (pa_cons (pe_ch h__law_last (hr.mono (by decide)) rfl (pa_cons (pv 9) (pa_cons (pv 5) pa_nil))) pa_nil))))
      (pss_cons (ps_set (i := 12) sc__law_part.nd rfl (Or.inl rfl) (pe_lst pa_nil))
      (pss_cons (ps_for PassesOwn.never rfl (pi_range1 rfl z_range (pa_cons (pe_op op_mod (pe_ch h__law_draw (hr.mono (by decide)) rfl (pa_cons (pv 0) (pa_cons (pe_op op_add (pv 1) pe_int) pa_nil))) pe_int) pa_nil)) (pg_name (i := 13) sc__law_part.nd rfl (Or.inl rfl)) (pss_one (ps_expr (pe_bm PySem.F.plainAttrs_list PySem.F.slot_list_append PySem.F.type_list_append mt_append (pv 12) (pa_cons (pe_ch h__law_stretch (hr.mono (by decide)) rfl (pa_cons (pe_ch h__law_draw (hr.mono (by decide)) rfl (pa_cons (pv 0) (pa_cons (pe_op op_add (pe_op op_add (pv 1) pe_int) (pv 13)) pa_nil))) (pa_cons (pe_op op_fdiv (pe_ch h__law_draw (hr.mono (by decide)) rfl (pa_cons (pv 0) (pa_cons (pe_op op_add (pe_op op_add (pv 1) pe_int) (pv 13)) pa_nil))) pe_int) (pa_cons (pv 5) pa_nil)))) pa_nil)))))
      (pss_one (ps_ret (pe_tup (pa_cons (pv 7) (pa_cons (pv 8) (pa_cons (pv 6) (pa_cons (pe_op op_add pe_int (pe_op op_mod (pe_op op_fdiv (pv 4) pe_int) pe_int)) (pa_cons (pv 11) (pa_cons (pv 12) pa_nil)))))))))))))))))))), ?_⟩
  refine ⟨_, rfl, _, rfl, a, ns, _, rfl, hS, by omega, by omega, fun v0 y0 y1 => ?_⟩
  refine ⟨_, rfl, _, _, rfl, rfl, (by show (0 : Int) < 6; decide), _, _, rfl, rfl, ?_⟩
  refine ⟨_, rfl, _, _, rfl, rfl, ⟨by decide, by decide⟩, _, _, rfl, rfl, (by show (0 : Int) < 8; decide), rfl, _, rfl, ?_⟩
  refine cutR (R := ?R) (fun σ' H' => ∃ nr : Nat, 1 ≤ nr ∧ nr ≤ 100 ∧ H = H' ∧ σ' = [some (.ref a), some (.int at'), some (.ref D), some (.int (np : Int)), some (.int v0), some (.int (nr : Int)), none, none, none, none, none, none, none, none]) (fun kk => ?mm) ?kk
  case mm =>
    refine ite2 (fun z => ?_) (fun z => ?_)
    rotate_left
    · dsimp only [tNext]
      have a0 := Int.emod_nonneg v0 (show (6 : Int) ≠ 0 by decide)
      have a1 := Int.emod_lt_of_pos v0 (show (0 : Int) < 6 by decide)
      refine kk _ _ ⟨(1 + v0 % 6).toNat, by omega, by omega, rfl, ?_⟩
      rw [show (((1 + v0 % 6).toNat : Nat) : Int) = 1 + v0 % 6 by omega]
      rfl
    · refine ⟨_, rfl, _, _, rfl, rfl, ⟨by decide, by decide⟩, _, _, rfl, rfl, (by show (0 : Int) < 40; decide), _, _, rfl, rfl, ?_⟩
      have a0 := Int.emod_nonneg (v0 / 48) (show (40 : Int) ≠ 0 by decide)
      have a1 := Int.emod_lt_of_pos (v0 / 48) (show (0 : Int) < 40 by decide)
      refine kk _ _ ⟨(100 - v0 / 48 % 40).toNat, by omega, by omega, rfl, ?_⟩
      rw [show (((100 - v0 / 48 % 40).toNat : Nat) : Int) = 100 - v0 / 48 % 40 by omega]
      rfl
  case kk =>
    rintro σ' H' ⟨nr, hn1, hn100, rfl, rfl⟩
    obtain ⟨nb, hb1, hb2⟩ := modN (e := v0 / 2000) (n := 9) (by decide)
    have hb1' : v0 / 2000 % 9 = (nb : Int) := hb1
    refine ⟨_, rfl, _, _, rfl, rfl, ⟨by decide, by decide⟩, _, _, rfl, rfl, (by show (0 : Int) < 9; decide), ?_⟩
    rw [show (fun (i j : Int) => V.int (i % j)) ((fun (i j : Int) => i / j) v0 2000) 9 = V.int (nb : Int) from by show V.int (v0 / 2000 % 9) = _; rw [hb1']]
    obtain ⟨nt, ht1, ht2⟩ := modN (e := v0 / 18000) (n := nb + 1) (by omega)
    refine ⟨_, rfl, _, _, rfl, rfl, ⟨by decide, by decide⟩, _, rfl, _, _, rfl, rfl, _, _, rfl, rfl, (by show (0 : Int) < (nb : Int) + 1; omega), ?_⟩
    have ht1' : v0 / 18000 % ((nb : Int) + 1) = (nt : Int) := ht1
    refine ⟨_, rfl, by show -(2 ^ 62 : Int) ≤ v0 / 18000 % ((nb : Int) + 1); omega, by show v0 / 18000 % ((nb : Int) + 1) < (2 ^ 62 : Int); omega, fun T hT => ?_⟩
    refine lc_range (lo := 0) (n := (v0 / 18000 % ((nb : Int) + 1)).toNat) (fun j ws H5 => Same H H5 ∧ H5 T = some (.lst ws) ∧ ∃ ks : List Kd, ks.length = j ∧ KIt K H5 ws ks ∧ ∀ k ∈ ks, KdOk zs k) (Nat.le_of_lt (small1000 (by omega))) ⟨same_new hT _, upd_same, [], rfl, KIt.nil K _, (fun k hk => nomatch hk)⟩ ?_ ?_ ?_
    · rintro j ws H5 ⟨_, e1, ks, e2, e3, _⟩
      exact ⟨e1, by rw [e3.1, e2]; exact Nat.le_refl _⟩
    · rintro j ws H5 hj ⟨s5, d5, ks, hks, hK, hO⟩
      refine ⟨rfl, ?_⟩
      refine ⟨_, rfl, _, rfl, _, _, rfl, rfl, _, rfl, _, _, rfl, rfl, a, ns, _, rfl, s5.seq hS, by omega, by omega, fun v7 w0 w1 => ?_⟩
      refine ⟨_, rfl, D, zs, _, rfl, s5.seq hD, w0, hz, h6, fun k u H6 hk s6 hu => ?_⟩
      have d6 : H6 T = some (.lst ws) := s6 _ _ d5
      refine ⟨d6, fun c o e => ?_, upd_same, ks ++ [k], by simp [hks], ((hK.same s6).snoc (SqT.of hu)).upd d6, all_snoc hO hk⟩
      rw [upd_ne (ne_of_none e hT)]
      exact s6 c o (s5 c o e)
    · rintro ws H5 ⟨s5, d5, ks, hks, hK, hO⟩
      rw [ht1', Int.toNat_natCast] at hks
      refine ⟨_, rfl, _, rfl, _, _, rfl, rfl, a, ns, _, rfl, s5.seq hS, by omega, by omega, fun v8 w0 w1 => ?_⟩
      refine ⟨_, rfl, D, zs, _, rfl, s5.seq hD, w0, hz, h6, fun g u H6 hg s6 hu => ?_⟩
      have S6 := s5.trans s6
      refine ⟨_, rfl, _, rfl, _, _, rfl, rfl, a, ns, _, rfl, S6.seq hS, by omega, by omega, fun v9 x0 x1 => ?_⟩
      have sd0 := Int.emod_nonneg v9 (show (1000003 : Int) ≠ 0 by decide)
      have sd1 := Int.emod_lt_of_pos v9 (show (0 : Int) < 1000003 by decide)
      refine ⟨_, _, rfl, rfl, (by show (0 : Int) < 1000003; decide), ?_⟩
      refine ⟨_, rfl, _, _, rfl, rfl, _, rfl, by omega, by omega, fun C hC => ?_⟩
      refine lc_range (lo := 0) (n := ((nr : Int) - 1).toNat) (fun j cs H7 => Same H6 H7 ∧ H7 C = some (.lst cs) ∧ ∃ ns : List Int, ns.length = j ∧ cs = ns.map V.int) (Nat.le_of_lt (small1000 (by omega))) ⟨same_new hC _, upd_same, [], rfl, rfl⟩ ?_ ?_ ?_
      · rintro j cs H7 ⟨_, e1, ms, e2, rfl⟩
        exact ⟨e1, by rw [List.length_map, e2]; exact Nat.le_refl _⟩
      · rintro j cs H7 hj ⟨s7, d7, ms, e2, rfl⟩
        refine ⟨rfl, ?_⟩
        have hj0 : (0 : Int) ≤ (0 + (j : Int)) / 6 * (0 + (j : Int)) := Int.mul_nonneg (by omega) (by omega)
        refine ⟨_, rfl, _, rfl, _, _, rfl, rfl, _, rfl, _, _, rfl, rfl, a, ns, _, rfl, s7.seq (S6.seq hS), by omega, by omega, fun va q0 q1 => ?_⟩
        refine ⟨_, rfl, _, rfl, _, _, rfl, rfl, ⟨by decide, by decide⟩, _, rfl, _, _, rfl, rfl, .inr ⟨by rw [p64]; omega, by rw [p64]; omega⟩, _, _, rfl, rfl, .inl ⟨by rw [p64]; omega, by rw [p64]; omega⟩, _, _, rfl, rfl, (by show (0 : Int) < 1000033; decide), _, _, rfl, rfl, ?_⟩
        refine ⟨d7, fun c o e => ?_, upd_same, ms ++ [_], by simp [e2], by rw [List.map_append]; rfl⟩
        rw [upd_ne (ne_of_none e hC)]
        exact s7 c o e
      · rintro cs H7 ⟨s7, d7, ms, lms, rfl⟩
        have S7 := S6.trans s7
        refine ⟨_, rfl, C, rfl, ⟨_, SqL.of d7⟩, fun R hR => ?_⟩
        refine lc_list (xs := ms.map V.int) (fun j ys H8 => Same H7 H8 ∧ H8 R = some (.lst ys) ∧ ∃ rs : List Rw, rs.length = j ∧ TIt rwV K H8 ys rs ∧ ∀ r ∈ rs, r.Ok zs np nb nr) (Nat.le_of_lt (small1000 (by rw [List.length_map]; omega))) ⟨same_new hR _, upd_same, [], rfl, TIt.nil K _, (fun k hk => nomatch hk)⟩ ?_ ?_ ?_
        · rintro j ys H8 hj ⟨s8, e1, rs, e2, e3, _⟩
          exact ⟨e1, by rw [e3.1, e2]; exact Nat.le_refl _, SqL.of (s8 _ _ d7)⟩
        · rintro j y ys H8 hy ⟨s8, d8, rs, e2, e3, e4⟩
          rw [List.getElem?_map] at hy
          cases ey : ms[j]? with
          | none => rw [ey] at hy; cases hy
          | some m =>
            rw [ey] at hy
            cases hy
            refine ⟨rfl, ?_⟩
            refine ⟨_, rfl, _, rfl, _, rfl, _, rfl, _, rfl, m, D, zs, np, nb, nr, rfl, (S7.trans s8).seq hD, hz, hp, by omega, fun r t H9 hr s9 ht => ?_⟩
            have d9 := s9 _ _ d8
            refine ⟨d9, fun c o e => ?_, upd_same, rs ++ [r], by simp [e2], ((e3.same s9).snoc ht).upd d9, fun r' hr' => ?_⟩
            · rw [upd_ne (ne_of_none e hR)]
              exact s9 c o (s8 c o e)
            · rcases List.mem_append.mp hr' with z | z
              · exact e4 r' z
              · simp at z; rw [z]; exact hr
        · rintro ys H8 ⟨s8, d8, rs, e2, e3, e4⟩
          rw [List.length_map] at e2
          refine ⟨_, rfl, _, rfl, (v9 % 1000003), nr, rfl, sd0, by omega, fun lr lt H9 hlr s9 hlt => ?_⟩
          refine ⟨(by show 1 ≤ sizeLine; decide), fun B hB => ?_⟩
          have s10 := same_new hB (.lst [.ref lt])
          have g10 := upd_same (H := H9) (a := B) (o := .lst [.ref lt])
          have d10 := s10 _ _ (s9 _ _ d8)
          refine ⟨R, B, ys, _, rfl, rfl, SqL.of d10, SqL.of g10, Nat.le_of_lt (small1000 (by rw [e3.1, e2]; simp; omega)), fun W hW => ?_⟩
          have s11 := same_new hW (.lst (ys ++ [.ref lt]))
          have g11 := upd_same (H := upd H9 B (.lst [.ref lt])) (a := W) (o := .lst (ys ++ [.ref lt]))
          have S11 := S7.trans (s8.trans (s9.trans (s10.trans s11)))
          have K11 := hK.same (s6.trans (s7.trans (s8.trans (s9.trans (s10.trans s11)))))
          have T11 : TIt rwV K _ (ys ++ [.ref lt]) (rs ++ [lr]) := TIt.snoc (e3.same (s9.trans (s10.trans s11))) ((s10.trans s11).tup hlt)
          have t11 := (s7.trans (s8.trans (s9.trans (s10.trans s11)))) _ _ (s6 _ _ d5)
          have u11 := (s7.trans (s8.trans (s9.trans (s10.trans s11)))) _ _ hu
          generalize upd (upd H9 B (.lst [.ref lt])) W (.lst (ys ++ [.ref lt])) = H11 at g11 S11 K11 T11 t11 u11 ⊢
          refine ⟨(by show 0 ≤ sizeLine; decide), fun Z hZ => ?_⟩
          have s12 := same_new hZ (.lst [])
          refine ⟨_, rfl, _, rfl, _, _, rfl, rfl, a, ns, _, rfl, (S11.trans s12).seq hS, by omega, by omega, fun vb b0 b1 => ?_⟩
          have m0 := Int.emod_nonneg vb (show (9 : Int) ≠ 0 by decide)
          have m1 := Int.emod_lt_of_pos vb (show (0 : Int) < 9 by decide)
          refine ⟨_, _, rfl, rfl, (by show (0 : Int) < 9; decide), _, rfl, by omega, by omega, ?_⟩
          refine for_range (lo := 0) (n := (vb % 9).toNat) (fun j σ HA => ∃ (zs' : List V) (ss : List (Nat × Nat × Nat)) (o13 : Option V), σ = [some (.ref a), some (.int at'), some (.ref D), some (.int (np : Int)), some (.int v0), some (.int (nr : Int)), some (.int (nb : Int)), some (.ref T), some (.ref u), some (.int (v9 % 1000003)), some (.ref C), some (.ref W), some (.ref Z), o13] ∧ Same H11 HA ∧ HA Z = some (.lst zs') ∧ ss.length = j ∧ TIt stV K HA zs' ss ∧ ∀ s ∈ ss, s.1 < s.2.1 ∧ s.2.1 ≤ nr ∧ s.2.2 < nr) ⟨[], [], _, rfl, s12, upd_same, rfl, TIt.nil K _, (fun k hk => nomatch hk)⟩ ?_ ?_
          · rintro j σ HA hj ⟨zs', ss, o13, rfl, sA, gA, lss, tA, oA⟩
            refine ⟨_, rfl, .inl ⟨rfl, _, SqL.of gA⟩, _, rfl, _, rfl, _, _, rfl, rfl, _, rfl, _, _, rfl, rfl, a, ns, _, rfl, (S11.trans sA).seq hS, by omega, by omega, fun vc c0 c1 => ?_⟩
            refine ⟨_, rfl, _, rfl, _, _, rfl, rfl, _, rfl, _, _, rfl, rfl, a, ns, _, rfl, (S11.trans sA).seq hS, by omega, by omega, fun vd f0 f1 => ?_⟩
            refine ⟨_, _, rfl, rfl, ⟨by decide, by decide⟩, _, rfl, vc, vd / 3, nr, rfl, by omega, fun s t HB hs sB ht => ?_⟩
            have gB := sB _ _ gA
            have lz' : zs'.length = j := by rw [tA.1, lss]
            refine ⟨Z, _, _, rfl, rfl, gB, small1000 (by omega), ?_⟩
            refine ⟨zs' ++ [.ref t], ss ++ [s], _, rfl, fun c o e => ?_, upd_same, by simp [lss], ((tA.same sB).snoc ht).upd gB, fun s' hs' => ?_⟩
            · rw [upd_ne (ne_of_none e hZ)]
              exact sB c o (sA c o e)
            · rcases List.mem_append.mp hs' with z | z
              · exact oA s' z
              · simp at z; rw [z]; exact hs
          · rintro σ HA ⟨zs', ss, o13, rfl, sA, gA, lss, tA, oA⟩
            obtain ⟨ht', hh1, hh2⟩ := modN (e := v0 / 7) (n := 8) (by decide)
            have hh1' : v0 / 7 % 8 = (ht' : Int) := hh1
            refine ⟨_, rfl, _, rfl, _, rfl, _, rfl, _, _, rfl, rfl, ⟨by decide, by decide⟩, _, _, rfl, rfl, (by show (0 : Int) < 8; decide), _, _, rfl, rfl, _, rfl, _, rfl, (by show 6 ≤ sizeLine; decide), fun t ht => ?_⟩
            have sE := same_new ht (.tup [.ref T, .ref u, .int (nb : Int), .int (1 + v0 / 7 % 8), .ref W, .ref Z])
            have gE := upd_same (H := HA) (a := t) (o := .tup [.ref T, .ref u, .int (nb : Int), .int (1 + v0 / 7 % 8), .ref W, .ref Z])
            have hhe : (1 + v0 / 7 % 8 : Int) = ((1 + ht' : Nat) : Int) := by rw [hh1']; omega
            have lr1 : (rs ++ [lr]).length = nr := by rw [List.length_append, e2, lms, List.length_singleton]; omega
            have SE := S11.trans (sA.trans sE)
            have K1 := K11.same (sA.trans sE)
            have T1 := T11.same (sA.trans sE)
            have T2 := tA.same sE
            have q1 := sE _ _ (sA _ _ t11)
            have q2 := sE _ _ (sA _ _ u11)
            have q3 := sE _ _ (sA _ _ g11)
            have q4 := sE _ _ gA
            have nW : H W = none := by
              cases e : H W with
              | none => rfl
              | some o => rw [(S7.trans (s8.trans (s9.trans s10))) _ _ e] at hW; cases hW
            have nZ : H Z = none := S11.free hZ
            have nt : H t = none := (S11.trans sA).free ht
            generalize upd HA t (.tup [.ref T, .ref u, .int (nb : Int), .int (1 + v0 / 7 % 8), .ref W, .ref Z]) = HE at gE SE K1 T1 T2 q1 q2 q3 q4 ⊢
            rw [hhe] at gE
            have rd : ∀ HX, HX T = some (.lst ws) → HX W = some (.lst (ys ++ [.ref lt])) → HX Z = some (.lst zs') → HX t = some (.tup [.ref T, .ref u, .int (nb : Int), .int ((1 + ht' : Nat) : Int), .ref W, .ref Z]) → KIt K HX ws ks → SqT K HX u (kdV g) → TIt rwV K HX (ys ++ [.ref lt]) (rs ++ [lr]) → TIt stV K HX zs' ss → RdV K HX (.ref t) (ptD ⟨ks, g, nb, 1 + ht', rs ++ [lr], ss⟩) := fun HX x1 x2 x3 x4 x5 x6 x7 x8 =>
              .tup' (SqT.of x4) (.cons (.lst' (SqL.of x1) (KIt.rd x5)) (.cons (rd_kd x6) (.cons (.int _) (.cons (.int _) (.cons (.lst' (SqL.of x2) (TIt.rd (fun _ _ h => rd_rw h) x7)) (.cons (.lst' (SqL.of x3) (TIt.rd (fun _ _ h => rd_st h) x8)) .nil))))))
            refine q t ⟨ks, g, nb, 1 + ht', rs ++ [lr], ss⟩ _ SE (rd _ q1 q3 q4 gE K1 (SqT.of q2) T1 T2) (fun r xs o hr => ?_) ?_
            · have hrE := SE _ _ hr
              exact rd _ (by rw [upd_ne (ne_of_none hr hT).symm]; exact q1) (by rw [upd_ne (ne_of_none hr nW).symm]; exact q3) (by rw [upd_ne (ne_of_none hr nZ).symm]; exact q4) (by rw [upd_ne (ne_of_none hr nt).symm]; exact gE) (K1.upd hrE) (tup_upd (SqT.of q2) hrE) (T1.upd hrE) (T2.upd hrE)
            · refine ⟨hO, hg, by show nb ≤ 8; omega, by show ks.length ≤ nb; omega, by show 1 ≤ 1 + ht'; omega, by show 1 + ht' ≤ 8; omega, by show 1 ≤ (rs ++ [lr]).length; omega, by show (rs ++ [lr]).length ≤ 100; omega, fun r hr => ?_, ⟨rs, lr, rfl, ?_⟩, by show ss.length ≤ 8; omega, fun s hs => ?_⟩
              · show r.Ok zs np nb (rs ++ [lr]).length
                rw [lr1]
                rcases List.mem_append.mp hr with z | z
                · exact e4 r z
                · simp at z
                  subst z
                  rcases hlr with rfl | rfl | ⟨t', rfl, h'⟩
                  · show _ ∈ bareL; decide +kernel
                  · show _ ∈ bareL; decide +kernel
                  · exact h'
              · rcases hlr with h | h | ⟨t', h, _⟩
                · exact .inl h
                · exact .inr (.inl h)
                · exact .inr (.inr ⟨t', h⟩)
              · show s.1 < s.2.1 ∧ s.2.1 ≤ (rs ++ [lr]).length ∧ s.2.2 < (rs ++ [lr]).length
                rw [lr1]
                exact oA s hs
theorem sc__law_book : FnScope ["_law_script", "_law_at", "_law_makes_here", "_law_sizes", "_law_parts"] ["_law_script", "_law_at"] (defScope s_law_book) := ⟨rfl, rfl, rfl, by decide +kernel, rfl, by decide +kernel, by decide +kernel⟩
theorem ok__law_book {f : Addr} {fd : FuncData} (F : Fun K "_law_book" "_law_book" s_law_book f fd) (z_len : mg "len" = none) (z_range : mg "range" = none) (h__law_draw : Has P w K mg base CX0 "_law_draw" 1 ["_law_script", "_law_k"] (sp_law_draw K)) (h__law_fields : Has P w K mg base CX0 "_law_fields" 2 ["_law_makes_here", "_law_c"] (sp_law_fields K)) (h__law_makes : Has P w K mg base CX0 "_law_makes" 2 ["_law_script", "_law_at"] (sp_law_makes K)) (h__law_part : Has P w K mg base CX0 "_law_part" 3 ["_law_script", "_law_at", "_law_sizes", "_law_parts"] (sp_law_part K)) : FnOk P w K mg base CX0 4 f fd ["_law_script", "_law_at"] (sp_law_book K) := by
  refine F.ok sc__law_book (fun vs H Q E h => ?_) (fun cdv A outer s H vs Q E hr h => ?_)
  · obtain ⟨a, ns, at', rfl, hS, h0, h1, q⟩ := h
    rfl
  obtain ⟨a, ns, at', rfl, hS, h0, h1, q⟩ := h
  refine ⟨_, (pss_cons (ps_set (i := 2) sc__law_book.nd rfl (Or.inr rfl) (pe_ch h__law_makes (hr.mono (by decide)) rfl (pa_cons (pv 0) (pa_cons (pe_op op_add (pv 1) pe_int) pa_nil))))
      (pss_cons (ps_set (i := 3) sc__law_book.nd rfl (Or.inr rfl) (pe_lc 1 ["_law_c", "_law_makes_here"] [2] ⟨rfl, rfl, rfl, rfl, rfl, rfl, rfl, rfl⟩ (pi_range1 rfl z_range (pa_cons (pe_callB call_len_seq rfl z_len bt_len (pa_cons (pv 2) pa_nil)) pa_nil)) (fun _ _ _ _ => ⟨(pg_name (i := 0) (show List.Nodup (["_law_c", "_law_makes_here"] : List Str) by decide +kernel) rfl (Or.inl rfl)), pif_nil, (pe_callB (r := rLen K) call_len_seq rfl z_len bt_len (pa_cons (pe_ch h__law_fields (hr.mono (by decide)) rfl (pa_cons (pv 1) (pa_cons (pv 0) pa_nil))) pa_nil))⟩)))
      (pss_cons (ps_set (i := 4) sc__law_book.nd rfl (Or.inr rfl) (pe_op op_add pe_int (pe_op op_mod (pe_ch h__law_draw (hr.mono (by decide)) rfl (pa_cons (pv 0) (pa_cons (pv 1) pa_nil))) pe_int)))
      (pss_one (ps_ret (pe_tup (pa_cons (pv 2) (pa_cons (pe_lc 1 ["_law_p", "_law_script", "_law_sizes", "_law_parts", "_law_at"] [0, 3, 4, 1] ⟨rfl, rfl, rfl, rfl, rfl, rfl, rfl, rfl⟩ (pi_range1 rfl z_range (pa_cons (pv 4) pa_nil)) (fun _ _ _ _ => ⟨(pg_name (i := 0) (show List.Nodup (["_law_p", "_law_script", "_law_sizes", "_law_parts", "_law_at"] : List Str) by decide +kernel) rfl (Or.inl rfl)), pif_nil, (pe_ch h__law_part (hr.mono (by decide)) rfl (pa_cons (pv 1) (pa_cons (pe_op op_add (pe_op op_add (pv 4) pe_int) (pe_op op_mul pe_int (pv 0))) (pa_cons (pv 2) (pa_cons (pv 3) pa_nil)))))⟩)) pa_nil)))))))), ?_⟩
  refine ⟨_, rfl, _, rfl, _, _, rfl, rfl, a, ns, _, rfl, hS, by omega, by omega, fun b ms zs xs H1 s1 n1 g1 f1 hg => ?_⟩
  have hM : MksAt K H1 b ms := ⟨xs, SqL.of g1, f1.it g1⟩
  have sB : SqL K H1 b xs := SqL.of g1
  have lx := (f1.it g1).1
  have lz := hg.len
  have few := hg.wf.few
  have ne := hg.wf.ne
  refine ⟨_, rfl, b, xs, rfl, .inl sB, _, rfl, by omega, by omega, fun D hD => ?_⟩
  refine lc_range (lo := 0) (n := ((xs.length : Nat) : Int).toNat) (fun i ys H2 => Same H1 H2 ∧ H2 D = some (.lst ys) ∧ ys = natsV (zs.take i)) (Nat.le_of_lt (small1000 (by omega))) ⟨same_new hD _, upd_same, rfl⟩ ?_ ?_ ?_
  · rintro i ys H2 ⟨_, e1, rfl⟩
    exact ⟨e1, by simp; omega⟩
  · rintro i ys H2 hi ⟨s2, d2, rfl⟩
    have e0 : (0 + (i : Int)) = ((i : Nat) : Int) := by omega
    rw [e0]
    have him : i < ms.length := by omega
    refine ⟨rfl, ?_⟩
    refine ⟨_, rfl, _, rfl, b, ms, zs, i, rfl, hM.same s2, hg, him, fun r ks H3 s3 n3 g3 hR => ?_⟩
    refine ⟨r, ks, rfl, .inl (SqL.of g3), s3 _ _ d2, fun c o e => ?_, upd_same, ?_⟩
    · rw [upd_ne (ne_of_none e hD)]
      exact s3 c o (s2 c o e)
    · obtain ⟨z, hz1, hz2⟩ := hg.fields_len i him
      have l1 := hR.1
      rw [List.length_map, hz2] at l1
      have hz : i < zs.length := by omega
      rw [List.getElem?_eq_getElem hz] at hz1
      have hz3 := Option.some.inj hz1
      show _ = List.map _ (zs.take (i + 1))
      rw [List.take_succ_eq_append_getElem hz, List.map_append, hz3, l1]
      rfl
  · rintro ys H2 ⟨s2, d2, rfl⟩
    have ez : zs.take (((xs.length : Nat) : Int).toNat) = zs := List.take_of_length_le (by omega)
    rw [ez] at d2
    have S2 := s1.trans s2
    obtain ⟨m, hm1, hm2⟩ := modN (e := 0) (n := 8) (by decide)
    clear hm1 hm2 m
    refine ⟨_, rfl, _, rfl, a, ns, _, rfl, S2.seq hS, by omega, by omega, fun v0 y0 y1 => ?_⟩
    obtain ⟨m, hm1, hm2⟩ := modN (e := v0) (n := 8) (by decide)
    have hm1' : v0 % 8 = (m : Int) := hm1
    refine ⟨_, _, rfl, rfl, (by show (0 : Int) < 8; decide), _, _, rfl, rfl, ?_⟩
    rw [show (fun (i j : Int) => V.int (i + j)) 1 ((fun (i j : Int) => i % j) v0 8) = V.int ((1 + m : Nat) : Int) from by show V.int (1 + v0 % 8) = _; rw [hm1']; rfl]
    generalize hnp : 1 + m = np
    refine ⟨_, rfl, _, rfl, _, rfl, by omega, by omega, fun L hL => ?_⟩
    refine lc_range (lo := 0) (n := ((np : Nat) : Int).toNat) (fun i ys H4 => Same H2 H4 ∧ H4 L = some (.lst ys) ∧ ∃ ps : List Pt, ps.length = i ∧ (∀ o, RdAll K (upd H4 L o) ys (ps.map ptD)) ∧ ∀ p ∈ ps, PtOk zs np p) (Nat.le_of_lt (small1000 (by omega))) ⟨same_new hL _, upd_same, [], rfl, fun o => .nil, (fun p hp => nomatch hp)⟩ ?_ ?_ ?_
    · rintro i ys H4 ⟨_, e1, ps, e2, e3, _⟩
      exact ⟨e1, by rw [(e3 (.lst [])).1, List.length_map, e2]; exact Nat.le_refl _⟩
    · rintro i ys H4 hi ⟨s4, d4, ps, e2, e3, e4⟩
      refine ⟨rfl, ?_⟩
      refine ⟨_, rfl, _, rfl, _, _, rfl, rfl, _, rfl, _, _, rfl, rfl, .inl ⟨by decide, by decide⟩, _, _, rfl, rfl, _, rfl, _, rfl, ?_⟩
      refine ⟨a, ns, _, D, zs, np, rfl, (S2.trans s4).seq hS, by omega, by omega, SqL.of (s4 _ _ d2), by omega, hg.six, by omega, fun t p H5 s5 r5 f5 o5 => ?_⟩
      have d5 := s5 _ _ d4
      refine ⟨d5, fun c o e => ?_, upd_same, ps ++ [p], by simp [e2], fun o => ?_, fun p' hp' => ?_⟩
      · rw [upd_ne (ne_of_none e hL)]
        exact s5 c o (s4 c o e)
      · rw [upd_upd, List.map_append]
        exact RdAll.snoc ((e3 o).same ((Same.b s5).over o)) (f5 L ys o d4)
      · rcases List.mem_append.mp hp' with z | z
        · exact e4 p' z
        · simp at z; rw [z]; exact o5
    · rintro ys H4 ⟨s4, d4, ps, e2, e3, e4⟩
      refine ⟨(by show 2 ≤ sizeLine; decide), fun bk hbk => ?_⟩
      have s5 := same_new hbk (.tup [.ref b, .ref L])
      have z := e3 (.lst ys)
      rw [upd_self d4] at z
      rw [Int.toNat_natCast] at e2
      refine q bk ms zs ps _ (S2.trans (s4.trans s5)) ?_ hg (by omega) (by omega) (by rw [e2]; exact e4)
      exact .tup' (SqT.of upd_same) (.cons (hM.same (s2.trans (s4.trans s5))).rd (.cons (.lst' (SqL.of (s5 _ _ d4)) (z.same s5)) .nil))
theorem sc__law_asked : FnScope ["_law_book_here", "_law_part_here", "_law_row_here", "_law_sign", "_law_fields_here"] ["_law_book_here", "_law_part_here", "_law_row_here"] (defScope s_law_asked) := ⟨rfl, rfl, rfl, by decide +kernel, rfl, by decide +kernel, by decide +kernel⟩
theorem ok__law_asked {f : Addr} {fd : FuncData} (F : Fun K "_law_asked" "_law_asked" s_law_asked f fd) (z_int : mg "int" = none) (z_len : mg "len" = none) (h__law_fields : Has P w K mg base CX0 "_law_fields" 2 ["_law_makes_here", "_law_c"] (sp_law_fields K)) : FnOk P w K mg base CX0 3 f fd ["_law_book_here", "_law_part_here", "_law_row_here"] (sp_law_asked K) := by
  refine F.ok sc__law_asked (fun vs H Q E h => ?_) (fun cdv A outer s H vs Q E hr h => ?_)
  · obtain ⟨b, ms, zs, ps, j, p, rt, r, rfl, hB, hg, hp, hR, hok, q⟩ := h
    rfl
  obtain ⟨b, ms, zs, ps, j, p, rt, r, rfl, hB, hg, hp, hR, hok, q⟩ := h
  refine ⟨_, (pss_cons (ps_set (i := 3) sc__law_asked.nd rfl (Or.inl rfl) (pe_ix ix_tup (pv 2) pe_int (fun _ _ => rfl)))
      (pss_cons (ps_if (pt_cmpR op_in_seq (pv 3) (pe_tup (pa_cons pe_str (pa_cons pe_str (pa_cons pe_str pa_nil)))) rfl) (pss_one (ps_ret (pe_lst (pa_cons (pe_tup (pa_cons pe_str pa_nil)) pa_nil)))) pss_nil)
      (pss_cons (ps_if (pt_cmpR op_eq (pv 3) pe_str (nomark _)) (pss_one (ps_ret (pe_lst (pa_cons (pe_tup (pa_cons pe_str pa_nil)) (pa_cons (pe_tup (pa_cons pe_str pa_nil)) pa_nil))))) pss_nil)
      (pss_cons (ps_if (pt_cmpR op_in_seq (pv 3) (pe_tup (pa_cons pe_str (pa_cons pe_str (pa_cons pe_str (pa_cons pe_str (pa_cons pe_str (pa_cons pe_str (pa_cons pe_str pa_nil)))))))) rfl) (pss_one (ps_ret (pe_lst (pa_cons (pe_tup (pa_cons pe_str pa_nil)) (pa_cons (pe_tup (pa_cons pe_str pa_nil)) pa_nil))))) pss_nil)
      (pss_cons (ps_if (pt_cmpR op_in_seq (pv 3) (pe_tup (pa_cons pe_str (pa_cons pe_str (pa_cons pe_str pa_nil)))) rfl) (pss_one (ps_ret (pe_lst (pa_cons (pe_tup (pa_cons pe_str pa_nil)) pa_nil)))) pss_nil)
      (pss_cons (ps_if (pt_cmpR op_in_seq (pv 3) (pe_tup (pa_cons pe_str (pa_cons pe_str (pa_cons pe_str (pa_cons pe_str pa_nil))))) rfl) (pss_one (ps_ret (pe_lst pa_nil))) pss_nil)
      (pss_cons (ps_if (pt_cmpR op_eq (pv 3) pe_str (nomark _)) (pss_one (ps_ret (pe_lst (pa_cons (pe_tup (pa_cons pe_str (pa_cons pe_int pa_nil))) pa_nil)))) pss_nil)
      (pss_cons (ps_if (pt_cmpR op_eq (pv 3) pe_str (nomark _)) (pss_one (ps_ret (pe_ix ix_tup (pe_ix ix_list (pe_ix ix_tup (pv 0) pe_int (fun _ _ => rfl)) (pe_ix ix_tup (pv 2) pe_int (fun _ _ => rfl)) (fun _ _ => rfl)) pe_int (fun _ _ => rfl)))) pss_nil)
      (pss_cons (ps_if (pt_cmpR op_eq (pv 3) pe_str (nomark _)) (pss_one (ps_ret (pe_lst (pa_cons (pe_ix ix_tup (pe_ix ix_list (pe_ix ix_tup (pv 0) pe_int (fun _ _ => rfl)) (pv 1) (fun _ _ => rfl)) pe_int (fun _ _ => rfl)) pa_nil)))) pss_nil)
      (pss_cons (ps_set (i := 4) sc__law_asked.nd rfl (Or.inl rfl) (pe_ch h__law_fields (hr.mono (by decide)) rfl (pa_cons (pe_ix ix_tup (pv 0) pe_int (fun _ _ => rfl)) (pa_cons (pe_ix ix_tup (pv 2) pe_int (fun _ _ => rfl)) pa_nil))))
      (pss_cons (ps_if (pt_cmpR op_eq (pv 3) pe_str (nomark _)) (pss_one (ps_ret (pe_lst (pa_cons (pe_tup (pa_cons pe_str (pa_cons (pe_ix ix_tup (pv 2) pe_int (fun _ _ => rfl)) (pa_cons (pe_op op_sub (pe_op op_shl pe_int (pe_callB call_len_seq rfl z_len bt_len (pa_cons (pv 4) pa_nil))) pe_int) pa_nil)))) pa_nil)))) pss_nil)
      (pss_cons (ps_if (pt_cmpR op_eq (pv 3) pe_str (nomark _)) (pss_one (ps_ret (pe_lst (pa_cons (pe_tup (pa_cons pe_str (pa_cons (pe_ix ix_tup (pv 2) pe_int (fun _ _ => rfl)) pa_nil))) pa_nil)))) pss_nil)
      (pss_one (ps_ret (pe_lst (pa_cons (pe_ix ix_list (pe_lst (pa_cons (pe_tup (pa_cons pe_str (pa_cons (pe_ix ix_tup (pv 2) pe_int (fun _ _ => rfl)) (pa_cons pe_int pa_nil)))) (pa_cons (pe_tup (pa_cons pe_str (pa_cons (pe_ix ix_tup (pv 2) pe_int (fun _ _ => rfl)) pa_nil))) pa_nil))) (pe_callTy call_int1 rfl z_int bt_int (pa_cons (pe_cmpR op_eq (pv 3) pe_str (nomark _)) pa_nil)) (fun _ _ => rfl)) (pa_cons (pe_ix ix_list (pv 4) (pe_ix ix_tup (pv 2) pe_int (fun _ _ => rfl)) (fun _ _ => rfl)) pa_nil))))))))))))))))), ?_⟩
  obtain ⟨b', mk, pl, xs, e, hT, hM, hL, hP⟩ := bk_inv hB
  cases e
  refine ⟨_, rfl, rt, _, _, _, rfl, rfl, hR, atI_nat (j := 0) rfl, ?_⟩
  have s0 := Same.refl H
  have cl : ∀ c, c < zs.length → c < ms.length := fun c h => by rw [hg.len]; exact h
  refine ⟨_, rfl, (by show 3 ≤ sizeLine; decide), fun t1 h1 => ⟨t1, _, rfl, .inr (SqT.of upd_same), rfl, rfl, _, rfl, ?_⟩⟩
  have s1 := s0.trans (same_new h1 (.tup [.str "store", .str "dup", .str "drop"]))
  generalize upd H t1 (.tup [.str "store", .str "dup", .str "drop"]) = H1 at s1 ⊢
  show if (inV (.str (rwS r)) ((["store", "dup", "drop"] : List Str).map V.str)) = true then _ else _
  rw [inV_strs]
  refine ite2 (fun z => ?_) (fun z1 => ?_)
  · rw [ask_l1 (ms := ms) (ps := ps) (p := p) hok (of_decide_eq_true z)] at q
    refine ⟨(by show 1 ≤ sizeLine; decide), fun u0 g0 => ?_⟩
    have w0 := same_new g0 (.tup [.str "any"])
    have e0 := upd_same (H := H1) (a := u0) (o := .tup [.str "any"])
    generalize upd H1 u0 (.tup [.str "any"]) = G0 at w0 e0 ⊢
    refine ⟨(by show 1 ≤ sizeLine; decide), fun lz gz => ?_⟩
    have wz := same_new gz (.lst [.ref u0])
    exact q lz _ _ (s1.trans (w0.trans (wz))) (SqL.of upd_same) (.cons (rd_kd (k := .any) (SqT.of (wz _ _ e0))) .nil)
  dsimp only [tNext]
  refine ⟨_, rfl, rfl, _, rfl, ite2 (fun z => ?_) (fun z2 => ?_)⟩
  · rw [ask_l2 (ms := ms) (ps := ps) (p := p) hok (V.str.inj (of_decide_eq_true z))] at q
    refine ⟨(by show 1 ≤ sizeLine; decide), fun u0 g0 => ?_⟩
    have w0 := same_new g0 (.tup [.str "any"])
    have e0 := upd_same (H := H1) (a := u0) (o := .tup [.str "any"])
    generalize upd H1 u0 (.tup [.str "any"]) = G0 at w0 e0 ⊢
    refine ⟨(by show 1 ≤ sizeLine; decide), fun u1 g1 => ?_⟩
    have w1 := same_new g1 (.tup [.str "any"])
    have e1 := upd_same (H := G0) (a := u1) (o := .tup [.str "any"])
    generalize upd G0 u1 (.tup [.str "any"]) = G1 at w1 e1 ⊢
    refine ⟨(by show 2 ≤ sizeLine; decide), fun lz gz => ?_⟩
    have wz := same_new gz (.lst [.ref u0, .ref u1])
    exact q lz _ _ (s1.trans (w0.trans (w1.trans (wz)))) (SqL.of upd_same) (.cons (rd_kd (k := .any) (SqT.of (wz _ _ (w1 _ _ e0)))) (.cons (rd_kd (k := .any) (SqT.of (wz _ _ e1))) .nil))
  dsimp only [tNext]
  refine ⟨_, rfl, (by show 7 ≤ sizeLine; decide), fun t2 h2 => ⟨t2, _, rfl, .inr (SqT.of upd_same), rfl, rfl, _, rfl, ?_⟩⟩
  have s2 := s1.trans (same_new h2 (.tup [.str "add", .str "sub", .str "mul", .str "div", .str "rem", .str "less", .str "same"]))
  generalize upd H1 t2 (.tup [.str "add", .str "sub", .str "mul", .str "div", .str "rem", .str "less", .str "same"]) = H2 at s2 ⊢
  show if (inV (.str (rwS r)) ((["add", "sub", "mul", "div", "rem", "less", "same"] : List Str).map V.str)) = true then _ else _
  rw [inV_strs]
  refine ite2 (fun z => ?_) (fun z3 => ?_)
  · rw [ask_l3 (ms := ms) (ps := ps) (p := p) hok (of_decide_eq_true z)] at q
    refine ⟨(by show 1 ≤ sizeLine; decide), fun u0 g0 => ?_⟩
    have w0 := same_new g0 (.tup [.str "number"])
    have e0 := upd_same (H := H2) (a := u0) (o := .tup [.str "number"])
    generalize upd H2 u0 (.tup [.str "number"]) = G0 at w0 e0 ⊢
    refine ⟨(by show 1 ≤ sizeLine; decide), fun u1 g1 => ?_⟩
    have w1 := same_new g1 (.tup [.str "number"])
    have e1 := upd_same (H := G0) (a := u1) (o := .tup [.str "number"])
    generalize upd G0 u1 (.tup [.str "number"]) = G1 at w1 e1 ⊢
    refine ⟨(by show 2 ≤ sizeLine; decide), fun lz gz => ?_⟩
    have wz := same_new gz (.lst [.ref u0, .ref u1])
    exact q lz _ _ (s2.trans (w0.trans (w1.trans (wz)))) (SqL.of upd_same) (.cons (rd_kd (k := .num) (SqT.of (wz _ _ (w1 _ _ e0)))) (.cons (rd_kd (k := .num) (SqT.of (wz _ _ e1))) .nil))
  dsimp only [tNext]
  refine ⟨_, rfl, (by show 3 ≤ sizeLine; decide), fun t3 h3 => ⟨t3, _, rfl, .inr (SqT.of upd_same), rfl, rfl, _, rfl, ?_⟩⟩
  have s3 := s2.trans (same_new h3 (.tup [.str "zero", .str "toss", .str "say"]))
  generalize upd H2 t3 (.tup [.str "zero", .str "toss", .str "say"]) = H3 at s3 ⊢
  show if (inV (.str (rwS r)) ((["zero", "toss", "say"] : List Str).map V.str)) = true then _ else _
  rw [inV_strs]
  refine ite2 (fun z => ?_) (fun z4 => ?_)
  · rw [ask_l4 (ms := ms) (ps := ps) (p := p) hok (of_decide_eq_true z)] at q
    refine ⟨(by show 1 ≤ sizeLine; decide), fun u0 g0 => ?_⟩
    have w0 := same_new g0 (.tup [.str "number"])
    have e0 := upd_same (H := H3) (a := u0) (o := .tup [.str "number"])
    generalize upd H3 u0 (.tup [.str "number"]) = G0 at w0 e0 ⊢
    refine ⟨(by show 1 ≤ sizeLine; decide), fun lz gz => ?_⟩
    have wz := same_new gz (.lst [.ref u0])
    exact q lz _ _ (s3.trans (w0.trans (wz))) (SqL.of upd_same) (.cons (rd_kd (k := .num) (SqT.of (wz _ _ e0))) .nil)
  dsimp only [tNext]
  refine ⟨_, rfl, (by show 4 ≤ sizeLine; decide), fun t4 h4 => ⟨t4, _, rfl, .inr (SqT.of upd_same), rfl, rfl, _, rfl, ?_⟩⟩
  have s4 := s3.trans (same_new h4 (.tup [.str "push", .str "load", .str "jump", .str "make"]))
  generalize upd H3 t4 (.tup [.str "push", .str "load", .str "jump", .str "make"]) = H4 at s4 ⊢
  show if (inV (.str (rwS r)) ((["push", "load", "jump", "make"] : List Str).map V.str)) = true then _ else _
  rw [inV_strs]
  refine ite2 (fun z => ?_) (fun z5 => ?_)
  · rw [ask_l5 (ms := ms) (ps := ps) (p := p) hok (of_decide_eq_true z)] at q
    refine ⟨(by show 0 ≤ sizeLine; decide), fun lz gz => ?_⟩
    have wz := same_new gz (.lst [])
    exact q lz _ _ (s4.trans (wz)) (SqL.of upd_same) .nil
  dsimp only [tNext]
  cases r with
  | push w => exact absurd (show decide (("push" : Str) ∈ (["push", "load", "jump", "make"] : List Str)) = true by decide +kernel) z5
  | load w => exact absurd (show decide (("load" : Str) ∈ (["push", "load", "jump", "make"] : List Str)) = true by decide +kernel) z5
  | jump w => exact absurd (show decide (("jump" : Str) ∈ (["push", "load", "jump", "make"] : List Str)) = true by decide +kernel) z5
  | make w => exact absurd (show decide (("make" : Str) ∈ (["push", "load", "jump", "make"] : List Str)) = true by decide +kernel) z5
  | store w => exact absurd (show decide (("store" : Str) ∈ (["store", "dup", "drop"] : List Str)) = true by decide +kernel) z1
  | zero w => exact absurd (show decide (("zero" : Str) ∈ (["zero", "toss", "say"] : List Str)) = true by decide +kernel) z4
  | bare s =>
    have hs : s = "give" := give_only s hok (fun y => z1 (decide_eq_true y)) (fun y => z2 (decide_eq_true (congrArg V.str y))) (fun y => z3 (decide_eq_true y)) (fun y => z4 (decide_eq_true y))
    subst hs
    refine ⟨_, rfl, rfl, _, rfl, ifN (c := V.str "give" = V.str "kin") (by decide +kernel) ?_⟩
    dsimp only [tNext]
    refine ⟨_, rfl, rfl, _, rfl, ifN (c := V.str "give" = V.str "call") (by decide +kernel) ?_⟩
    dsimp only [tNext]
    refine ⟨_, rfl, rfl, _, rfl, ifY rfl ?_⟩
    obtain ⟨v, hv, hvr⟩ := bk_part hP hp
    obtain ⟨t, l0, l4, l5, ks, vs4, vs5, f1, rfl, hTt, hl0, hk, rg, hl4, hk4, hl5, hk5⟩ := pt_inv hvr
    have e : askK ms ps p (.bare "give") = [p.gives] := by
      show (if ("give" : Str) ∈ (["dup", "drop"] : List Str) then [Kd.any] else if ("give" : Str) = "swap" then [Kd.any, .any] else if ("give" : Str) ∈ sevenL then [Kd.num, .num] else if ("give" : Str) ∈ (["toss", "say"] : List Str) then [Kd.num] else [p.gives]) = [p.gives]
      rw [if_neg (by decide +kernel), if_neg (by decide +kernel), if_neg (by decide +kernel), if_neg (by decide +kernel)]
    rw [e] at q
    refine ⟨_, rfl, b, _, _, _, rfl, rfl, s4.tup hT, atI_nat (j := 1) rfl, _, rfl, pl, _, _, _, rfl, rfl, s4.seq hL, atI_nat hv, t, _, _, _, rfl, rfl, s4.tup hTt, atI_nat (j := 1) rfl, (by show 1 ≤ sizeLine; decide), fun lz gz => ?_⟩
    have wz := same_new gz (.lst [f1])
    exact q lz _ _ (s4.trans wz) (SqL.of upd_same) (.cons (rg.same (s4.trans wz)) .nil)
  | kin c w =>
    refine ⟨_, rfl, rfl, _, rfl, ifY rfl ?_⟩
    refine ⟨(by show 2 ≤ sizeLine; decide), fun u0 g0 => ?_⟩
    have w0 := same_new g0 (.tup [.str "whole", .int 0])
    have e0 := upd_same (H := H4) (a := u0) (o := .tup [.str "whole", .int 0])
    generalize upd H4 u0 (.tup [.str "whole", .int 0]) = G0 at w0 e0 ⊢
    refine ⟨(by show 1 ≤ sizeLine; decide), fun lz gz => ?_⟩
    have wz := same_new gz (.lst [.ref u0])
    exact q lz _ _ (s4.trans (w0.trans (wz))) (SqL.of upd_same) (.cons (rd_kd (k := .whole 0) (SqT.of (wz _ _ e0))) .nil)
  | call w =>
    refine ⟨_, rfl, rfl, _, rfl, ifN (c := V.str "call" = V.str "kin") (by decide +kernel) ?_⟩
    dsimp only [tNext]
    refine ⟨_, rfl, rfl, _, rfl, ifY rfl ?_⟩
    have hq : w < ps.length := hok
    obtain ⟨v, hv, hvr⟩ := bk_part hP (List.getElem?_eq_getElem hq)
    obtain ⟨t, l0, l4, l5, ks, vs4, vs5, f1, rfl, hTt, hl0, hk, rg, hl4, hk4, hl5, hk5⟩ := pt_inv hvr
    have e : askK ms ps p (.call w) = ps[w].takes := by
      show ((ps[w]?).map Pt.takes).getD [] = _
      rw [List.getElem?_eq_getElem hq]
      rfl
    rw [e] at q
    exact ⟨_, rfl, b, _, _, _, rfl, rfl, s4.tup hT, atI_nat (j := 1) rfl, _, rfl, rt, _, _, _, rfl, rfl, s4.tup hR, atI_nat (j := 1) rfl, pl, _, _, _, rfl, rfl, s4.seq hL, atI_nat hv, t, _, _, _, rfl, rfl, s4.tup hTt, atI_nat (j := 0) rfl, q l0 ks _ s4 (s4.seq hl0) (hk.same s4)⟩
  | beg c =>
    refine ⟨_, rfl, rfl, _, rfl, ifN (c := V.str "begin" = V.str "kin") (by decide +kernel) ?_⟩
    dsimp only [tNext]
    refine ⟨_, rfl, rfl, _, rfl, ifN (c := V.str "begin" = V.str "call") (by decide +kernel) ?_⟩
    dsimp only [tNext]
    refine ⟨_, rfl, rfl, _, rfl, ifN (c := V.str "begin" = V.str "give") (by decide +kernel) ?_⟩
    dsimp only [tNext]
    have hc := cl c hok
    refine ⟨_, rfl, b, _, _, _, rfl, rfl, s4.tup hT, atI_nat (j := 0) rfl, _, rfl, rt, _, _, _, rfl, rfl, s4.tup hR, atI_nat (j := 1) rfl, mk, ms, zs, c, rfl, hM.same s4, hg, hc, fun fr fks HF sF nF gF hF => ?_⟩
    have SF := s4.trans sF
    have lf := hF.1
    rw [List.length_map] at lf
    refine ⟨_, rfl, rfl, _, rfl, ifY rfl ?_⟩
    have p2 : (1 : Int) * 2 ^ (((fks.length : Nat) : Int)).toNat - 1 = ((2 ^ (fields ms c).length - 1 : Nat) : Int) := by
      rw [Int.toNat_natCast, lf, Int.one_mul]
      have hp2 := Nat.pow_pos (n := (fields ms c).length) (show 0 < 2 by decide)
      have hc2 : (2 : Int) ^ (fields ms c).length = ((2 ^ (fields ms c).length : Nat) : Int) := by simp
      rw [hc2]
      generalize 2 ^ (fields ms c).length = N at hp2
      omega
    have h6 := hg.fields_six hc
    refine ⟨_, rfl, rt, _, _, _, rfl, rfl, SF.tup hR, atI_nat (j := 1) rfl, _, rfl, fr, fks, rfl, .inl (SqL.of gF), _, _, rfl, rfl, ⟨by omega, by omega, by decide⟩, _, _, rfl, rfl, (by show 3 ≤ sizeLine; decide), fun u0 g0 => ⟨(by show 1 ≤ sizeLine; decide), fun lz gz => ?_⟩⟩
    have w0 := same_new g0 (.tup [.str "raw", .int (c : Int), .int ((1 : Int) * 2 ^ (((fks.length : Nat) : Int)).toNat - 1)])
    have e0 := upd_same (H := HF) (a := u0) (o := .tup [.str "raw", .int (c : Int), .int ((1 : Int) * 2 ^ (((fks.length : Nat) : Int)).toNat - 1)])
    have wz := same_new gz (.lst [.ref u0])
    refine q lz _ _ (SF.trans (w0.trans wz)) (SqL.of upd_same) (.cons (rd_kd (k := .raw c (2 ^ (fields ms c).length - 1)) (SqT.of (wz _ _ (e0.trans ?_)))) .nil)
    rw [p2]
    rfl
  | get c f =>
    refine ⟨_, rfl, rfl, _, rfl, ifN (c := V.str "get" = V.str "kin") (by decide +kernel) ?_⟩
    dsimp only [tNext]
    refine ⟨_, rfl, rfl, _, rfl, ifN (c := V.str "get" = V.str "call") (by decide +kernel) ?_⟩
    dsimp only [tNext]
    refine ⟨_, rfl, rfl, _, rfl, ifN (c := V.str "get" = V.str "give") (by decide +kernel) ?_⟩
    dsimp only [tNext]
    obtain ⟨z, hz1, hz2⟩ : ∃ z, zs[c]? = some z ∧ f < z := hok
    have hc := cl c (List.getElem?_eq_some_iff.mp hz1).1
    obtain ⟨z', hz3, hz4⟩ := hg.fields_len c hc
    rw [hz1] at hz3
    cases hz3
    refine ⟨_, rfl, b, _, _, _, rfl, rfl, s4.tup hT, atI_nat (j := 0) rfl, _, rfl, rt, _, _, _, rfl, rfl, s4.tup hR, atI_nat (j := 1) rfl, mk, ms, zs, c, rfl, hM.same s4, hg, hc, fun fr fks HF sF nF gF hF => ?_⟩
    have SF := s4.trans sF
    have lf := hF.1
    rw [List.length_map] at lf
    refine ⟨_, rfl, rfl, _, rfl, ifN (c := V.str "get" = V.str "begin") (by decide +kernel) ?_⟩
    dsimp only [tNext]
    refine ⟨_, rfl, rfl, _, rfl, ifY rfl ?_⟩
    refine ⟨_, rfl, rt, _, _, _, rfl, rfl, SF.tup hR, atI_nat (j := 1) rfl, (by show 2 ≤ sizeLine; decide), fun u0 g0 => ⟨(by show 1 ≤ sizeLine; decide), fun lz gz => ?_⟩⟩
    have w0 := same_new g0 (.tup [.str "whole", .int (c : Int)])
    have e0 := upd_same (H := HF) (a := u0) (o := .tup [.str "whole", .int (c : Int)])
    have wz := same_new gz (.lst [.ref u0])
    exact q lz _ _ (SF.trans (w0.trans wz)) (SqL.of upd_same) (.cons (rd_kd (k := .whole c) (SqT.of (wz _ _ e0))) .nil)
  | fill c f =>
    refine ⟨_, rfl, rfl, _, rfl, ifN (c := V.str "fill" = V.str "kin") (by decide +kernel) ?_⟩
    dsimp only [tNext]
    refine ⟨_, rfl, rfl, _, rfl, ifN (c := V.str "fill" = V.str "call") (by decide +kernel) ?_⟩
    dsimp only [tNext]
    refine ⟨_, rfl, rfl, _, rfl, ifN (c := V.str "fill" = V.str "give") (by decide +kernel) ?_⟩
    dsimp only [tNext]
    obtain ⟨z, hz1, hz2⟩ : ∃ z, zs[c]? = some z ∧ f < z := hok
    have hc := cl c (List.getElem?_eq_some_iff.mp hz1).1
    obtain ⟨z', hz3, hz4⟩ := hg.fields_len c hc
    rw [hz1] at hz3
    cases hz3
    refine ⟨_, rfl, b, _, _, _, rfl, rfl, s4.tup hT, atI_nat (j := 0) rfl, _, rfl, rt, _, _, _, rfl, rfl, s4.tup hR, atI_nat (j := 1) rfl, mk, ms, zs, c, rfl, hM.same s4, hg, hc, fun fr fks HF sF nF gF hF => ?_⟩
    have SF := s4.trans sF
    have lf := hF.1
    rw [List.length_map] at lf
    refine ⟨_, rfl, rfl, _, rfl, ifN (c := V.str "fill" = V.str "begin") (by decide +kernel) ?_⟩
    dsimp only [tNext]
    refine ⟨_, rfl, rfl, _, rfl, ifN (c := V.str "fill" = V.str "get") (by decide +kernel) ?_⟩
    dsimp only [tNext]
    have hfl : f < (fields ms c).length := by omega
    obtain ⟨fv, hfv, hfr⟩ := RdAll.at (hF.same (Same.refl _)) (i := f) (d := .tuple (kdL (((fields ms c)[f]?).getD .any))) (by rw [List.getElem?_map, List.getElem?_eq_getElem hfl]; rfl)
    refine ⟨_, rfl, rt, _, _, _, rfl, rfl, SF.tup hR, atI_nat (j := 1) rfl, (by show 3 ≤ sizeLine; decide), fun u0 g0 => ?_⟩
    have w0 := same_new g0 (.tup [.str "raw", .int (c : Int), .int 0])
    have e0 := upd_same (H := HF) (a := u0) (o := .tup [.str "raw", .int (c : Int), .int 0])
    generalize upd HF u0 (.tup [.str "raw", .int (c : Int), .int 0]) = G0 at w0 e0 ⊢
    refine ⟨_, rfl, rt, _, _, _, rfl, rfl, (SF.trans w0).tup hR, atI_nat (j := 1) rfl, (by show 2 ≤ sizeLine; decide), fun u1 g1 => ?_⟩
    have w1 := same_new g1 (.tup [.str "whole", .int (c : Int)])
    have e1 := upd_same (H := G0) (a := u1) (o := .tup [.str "whole", .int (c : Int)])
    generalize upd G0 u1 (.tup [.str "whole", .int (c : Int)]) = G1 at w1 e1 ⊢
    refine ⟨(by show 2 ≤ sizeLine; decide), fun l2 g2 => ?_⟩
    have w2 := same_new g2 (.lst [.ref u0, .ref u1])
    have e2 := upd_same (H := G1) (a := l2) (o := .lst [.ref u0, .ref u1])
    generalize upd G1 l2 (.lst [.ref u0, .ref u1]) = G2 at w2 e2 ⊢
    have WW := w0.trans (w1.trans w2)
    have SG := SF.trans WW
    refine ⟨_, rfl, rfl, .inr ⟨_, rfl, ?_⟩⟩
    refine ⟨l2, _, 0, .ref u0, rfl, (congrArg V.int (if_neg (show ¬ (decide (V.str "fill" = V.str "put") = true) by decide +kernel))), SqL.of e2, rfl, ?_⟩
    refine ⟨_, rfl, _, rfl, rt, _, _, _, rfl, rfl, SG.tup hR, atI_nat (j := 2) rfl, fr, fks, _, fv, rfl, rfl, SqL.of (WW _ _ gF), atI_nat hfv, (by show 2 ≤ sizeLine; decide), fun lz gz => ?_⟩
    have wz := same_new gz (.lst [.ref u0, fv])
    exact q lz _ _ (SG.trans wz) (SqL.of upd_same) (.cons (rd_kd (k := .raw c 0) (SqT.of (wz _ _ (w2 _ _ (w1 _ _ e0))))) (.cons (hfr.same (sF.trans (WW.trans wz))) .nil))
  | put c f =>
    refine ⟨_, rfl, rfl, _, rfl, ifN (c := V.str "put" = V.str "kin") (by decide +kernel) ?_⟩
    dsimp only [tNext]
    refine ⟨_, rfl, rfl, _, rfl, ifN (c := V.str "put" = V.str "call") (by decide +kernel) ?_⟩
    dsimp only [tNext]
    refine ⟨_, rfl, rfl, _, rfl, ifN (c := V.str "put" = V.str "give") (by decide +kernel) ?_⟩
    dsimp only [tNext]
    obtain ⟨z, hz1, hz2⟩ : ∃ z, zs[c]? = some z ∧ f < z := hok
    have hc := cl c (List.getElem?_eq_some_iff.mp hz1).1
    obtain ⟨z', hz3, hz4⟩ := hg.fields_len c hc
    rw [hz1] at hz3
    cases hz3
    refine ⟨_, rfl, b, _, _, _, rfl, rfl, s4.tup hT, atI_nat (j := 0) rfl, _, rfl, rt, _, _, _, rfl, rfl, s4.tup hR, atI_nat (j := 1) rfl, mk, ms, zs, c, rfl, hM.same s4, hg, hc, fun fr fks HF sF nF gF hF => ?_⟩
    have SF := s4.trans sF
    have lf := hF.1
    rw [List.length_map] at lf
    refine ⟨_, rfl, rfl, _, rfl, ifN (c := V.str "put" = V.str "begin") (by decide +kernel) ?_⟩
    dsimp only [tNext]
    refine ⟨_, rfl, rfl, _, rfl, ifN (c := V.str "put" = V.str "get") (by decide +kernel) ?_⟩
    dsimp only [tNext]
    have hfl : f < (fields ms c).length := by omega
    obtain ⟨fv, hfv, hfr⟩ := RdAll.at (hF.same (Same.refl _)) (i := f) (d := .tuple (kdL (((fields ms c)[f]?).getD .any))) (by rw [List.getElem?_map, List.getElem?_eq_getElem hfl]; rfl)
    refine ⟨_, rfl, rt, _, _, _, rfl, rfl, SF.tup hR, atI_nat (j := 1) rfl, (by show 3 ≤ sizeLine; decide), fun u0 g0 => ?_⟩
    have w0 := same_new g0 (.tup [.str "raw", .int (c : Int), .int 0])
    have e0 := upd_same (H := HF) (a := u0) (o := .tup [.str "raw", .int (c : Int), .int 0])
    generalize upd HF u0 (.tup [.str "raw", .int (c : Int), .int 0]) = G0 at w0 e0 ⊢
    refine ⟨_, rfl, rt, _, _, _, rfl, rfl, (SF.trans w0).tup hR, atI_nat (j := 1) rfl, (by show 2 ≤ sizeLine; decide), fun u1 g1 => ?_⟩
    have w1 := same_new g1 (.tup [.str "whole", .int (c : Int)])
    have e1 := upd_same (H := G0) (a := u1) (o := .tup [.str "whole", .int (c : Int)])
    generalize upd G0 u1 (.tup [.str "whole", .int (c : Int)]) = G1 at w1 e1 ⊢
    refine ⟨(by show 2 ≤ sizeLine; decide), fun l2 g2 => ?_⟩
    have w2 := same_new g2 (.lst [.ref u0, .ref u1])
    have e2 := upd_same (H := G1) (a := l2) (o := .lst [.ref u0, .ref u1])
    generalize upd G1 l2 (.lst [.ref u0, .ref u1]) = G2 at w2 e2 ⊢
    have WW := w0.trans (w1.trans w2)
    have SG := SF.trans WW
    refine ⟨_, rfl, rfl, .inr ⟨_, rfl, ?_⟩⟩
    refine ⟨l2, _, 1, .ref u1, rfl, (congrArg V.int (if_pos (show decide (V.str "put" = V.str "put") = true by decide +kernel))), SqL.of e2, rfl, ?_⟩
    refine ⟨_, rfl, _, rfl, rt, _, _, _, rfl, rfl, SG.tup hR, atI_nat (j := 2) rfl, fr, fks, _, fv, rfl, rfl, SqL.of (WW _ _ gF), atI_nat hfv, (by show 2 ≤ sizeLine; decide), fun lz gz => ?_⟩
    have wz := same_new gz (.lst [.ref u1, fv])
    exact q lz _ _ (SG.trans wz) (SqL.of upd_same) (.cons (rd_kd (k := .whole c) (SqT.of (wz _ _ (w2 _ _ e1)))) (.cons (hfr.same (sF.trans (WW.trans wz))) .nil))
theorem sc__law_below : FnScope ["_law_makes_here", "_law_kind_here", "_law_other"] ["_law_makes_here", "_law_kind_here", "_law_other"] (defScope s_law_below) := ⟨rfl, rfl, rfl, by decide +kernel, rfl, by decide +kernel, by decide +kernel⟩
theorem ok__law_below {f : Addr} {fd : FuncData} (F : Fun K "_law_below" "_law_below" s_law_below f fd) (h__law_elders : Has P w K mg base CX0 "_law_elders" 1 ["_law_makes_here", "_law_c"] (sp_law_elders K)) : FnOk P w K mg base CX0 2 f fd ["_law_makes_here", "_law_kind_here", "_law_other"] (sp_law_below K) := by
  refine F.ok sc__law_below (fun vs H Q E h => ?_) (fun cdv A outer s H vs Q E hr h => ?_)
  · obtain ⟨a, ms, t, u, k, o, rfl, hM, hw, ht', hu', hc, q⟩ := h
    rfl
  obtain ⟨a, ms, t, u, k, o, rfl, hM, hw, ht', hu', hc, q⟩ := h
  refine ⟨_, (pss_cons (ps_if (pt_cmpR (op_eqD (hr.units)) (pv 2) (pe_tup (pa_cons pe_str pa_nil)) (nomark _)) (pss_one (ps_ret pe_bl)) pss_nil)
      (pss_cons (ps_if (pt_cmpR op_ne (pe_ix ix_tup (pv 1) pe_int (fun _ _ => rfl)) (pe_ix ix_tup (pv 2) pe_int (fun _ _ => rfl)) (nomark _)) (pss_one (ps_ret pe_bl)) pss_nil)
      (pss_cons (ps_if (pt_cmpR op_eq (pe_ix ix_tup (pv 1) pe_int (fun _ _ => rfl)) pe_str (nomark _)) (pss_one (ps_ret (pe_cmpR op_in_seq (pe_ix ix_tup (pv 2) pe_int (fun _ _ => rfl)) (pe_ch h__law_elders (hr.mono (by decide)) rfl (pa_cons (pv 0) (pa_cons (pe_ix ix_tup (pv 1) pe_int (fun _ _ => rfl)) pa_nil))) rfl))) pss_nil)
      (pss_cons (ps_if (pt_cmpR op_eq (pe_ix ix_tup (pv 1) pe_int (fun _ _ => rfl)) pe_str (nomark _)) (pss_one (ps_ret (pe_and (pe_cmpR op_eq (pe_ix ix_tup (pv 1) pe_int (fun _ _ => rfl)) (pe_ix ix_tup (pv 2) pe_int (fun _ _ => rfl)) (nomark _)) (pe_one (pe_cmpR op_eq (pe_op op_and (pe_ix ix_tup (pv 1) pe_int (fun _ _ => rfl)) (pe_ix ix_tup (pv 2) pe_int (fun _ _ => rfl))) (pe_ix ix_tup (pv 2) pe_int (fun _ _ => rfl)) (nomark _)))))) pss_nil)
      (pss_one (ps_ret pe_bl)))))), ?_⟩
  refine ⟨_, rfl, (by show 1 ≤ sizeLine; decide), fun p hp => ?_⟩
  have sp := same_new hp (.tup [.str "any"])
  have ht := sp.tup ht'
  have hu := sp.tup hu'
  have hMp := hM.same sp
  have q0 := q _ sp
  refine ⟨_, _, rd_kd hu, rd_kd (k := .any) (SqT.of upd_same), kdD_ok o, kdD_ok .any, _, rfl, ?_⟩
  cases o with
  | any =>
    refine ifB (by decide +kernel) ?_
    cases k <;> exact q0
  | num =>
    refine ifC (by decide +kernel) ?_
    cases k with
    | any => exact ⟨_, rfl, t, _, _, _, rfl, rfl, ht, atI_nat (j := 0) rfl, _, rfl, u, _, _, _, rfl, rfl, hu, atI_nat (j := 0) rfl, rfl, _, rfl, ifYn nAN q0⟩
    | num =>
      refine ⟨_, rfl, t, _, _, _, rfl, rfl, ht, atI_nat (j := 0) rfl, _, rfl, u, _, _, _, rfl, rfl, hu, atI_nat (j := 0) rfl, rfl, _, rfl, ifNn rfl ?_⟩
      refine ⟨_, rfl, t, _, _, _, rfl, rfl, ht, atI_nat (j := 0) rfl, rfl, _, rfl, ifN nNW ?_⟩
      exact ⟨_, rfl, t, _, _, _, rfl, rfl, ht, atI_nat (j := 0) rfl, rfl, _, rfl, ifN nNR q0⟩
    | whole c => exact ⟨_, rfl, t, _, _, _, rfl, rfl, ht, atI_nat (j := 0) rfl, _, rfl, u, _, _, _, rfl, rfl, hu, atI_nat (j := 0) rfl, rfl, _, rfl, ifYn nWN q0⟩
    | raw c m => exact ⟨_, rfl, t, _, _, _, rfl, rfl, ht, atI_nat (j := 0) rfl, _, rfl, u, _, _, _, rfl, rfl, hu, atI_nat (j := 0) rfl, rfl, _, rfl, ifYn nRN q0⟩
  | whole d =>
    refine ifC (by simp only [kdL, PyData.eqv, PyData.eqvAll]; decide +kernel) ?_
    cases k with
    | any => exact ⟨_, rfl, t, _, _, _, rfl, rfl, ht, atI_nat (j := 0) rfl, _, rfl, u, _, _, _, rfl, rfl, hu, atI_nat (j := 0) rfl, rfl, _, rfl, ifYn nAW q0⟩
    | num => exact ⟨_, rfl, t, _, _, _, rfl, rfl, ht, atI_nat (j := 0) rfl, _, rfl, u, _, _, _, rfl, rfl, hu, atI_nat (j := 0) rfl, rfl, _, rfl, ifYn nNW q0⟩
    | whole c =>
      refine ⟨_, rfl, t, _, _, _, rfl, rfl, ht, atI_nat (j := 0) rfl, _, rfl, u, _, _, _, rfl, rfl, hu, atI_nat (j := 0) rfl, rfl, _, rfl, ifNn rfl ?_⟩
      refine ⟨_, rfl, t, _, _, _, rfl, rfl, ht, atI_nat (j := 0) rfl, rfl, _, rfl, ifY rfl ?_⟩
      refine ⟨_, rfl, u, _, _, _, rfl, rfl, hu, atI_nat (j := 1) rfl, _, rfl, _, rfl, t, _, _, _, rfl, rfl, ht, atI_nat (j := 1) rfl, a, ms, c, rfl, hMp, hw, hc c rfl, fun r H2 sm _ hr2 => ?_⟩
      refine ⟨r, _, rfl, .inl (SqL.of hr2), rfl, flat_nats _, ?_⟩
      show Q (.bl (inV (.int (d : Int)) (natsV (elders ms c)))) H2
      rw [inV_nats]
      exact q H2 (sp.trans sm)
    | raw c m => exact ⟨_, rfl, t, _, _, _, rfl, rfl, ht, atI_nat (j := 0) rfl, _, rfl, u, _, _, _, rfl, rfl, hu, atI_nat (j := 0) rfl, rfl, _, rfl, ifYn nRW q0⟩
  | raw d n =>
    refine ifC (by simp only [kdL, PyData.eqv, PyData.eqvAll]; decide +kernel) ?_
    cases k with
    | any => exact ⟨_, rfl, t, _, _, _, rfl, rfl, ht, atI_nat (j := 0) rfl, _, rfl, u, _, _, _, rfl, rfl, hu, atI_nat (j := 0) rfl, rfl, _, rfl, ifYn nAR q0⟩
    | num => exact ⟨_, rfl, t, _, _, _, rfl, rfl, ht, atI_nat (j := 0) rfl, _, rfl, u, _, _, _, rfl, rfl, hu, atI_nat (j := 0) rfl, rfl, _, rfl, ifYn nNR q0⟩
    | whole c => exact ⟨_, rfl, t, _, _, _, rfl, rfl, ht, atI_nat (j := 0) rfl, _, rfl, u, _, _, _, rfl, rfl, hu, atI_nat (j := 0) rfl, rfl, _, rfl, ifYn nWR q0⟩
    | raw c m =>
      refine ⟨_, rfl, t, _, _, _, rfl, rfl, ht, atI_nat (j := 0) rfl, _, rfl, u, _, _, _, rfl, rfl, hu, atI_nat (j := 0) rfl, rfl, _, rfl, ifNn rfl ?_⟩
      refine ⟨_, rfl, t, _, _, _, rfl, rfl, ht, atI_nat (j := 0) rfl, rfl, _, rfl, ifN nRW ?_⟩
      refine ⟨_, rfl, t, _, _, _, rfl, rfl, ht, atI_nat (j := 0) rfl, rfl, _, rfl, ifY rfl ?_⟩
      refine ⟨_, rfl, t, _, _, _, rfl, rfl, ht, atI_nat (j := 1) rfl, _, rfl, u, _, _, _, rfl, rfl, hu, atI_nat (j := 1) rfl, rfl, _, rfl, ?_⟩
      have qq : Q (.bl (decide (c = d) && decide (m &&& n = n))) _ := q0
      rw [dec_nat]
      by_cases e : c = d
      · rw [decide_eq_true e] at qq ⊢
        refine iteT ⟨_, rfl, t, _, _, _, rfl, rfl, ht, atI_nat (j := 2) rfl, _, rfl, u, _, _, _, rfl, rfl, hu, atI_nat (j := 2) rfl, _, _, rfl, rfl, _, rfl, u, _, _, _, rfl, rfl, hu, atI_nat (j := 2) rfl, rfl, ?_⟩
        show Q (.bl (decide (V.int (Builtin.bitAnd (m : Int) (n : Int)) = V.int (n : Int)))) _
        rw [bitAnd_nat, dec_nat]
        simpa using qq
      · rw [decide_eq_false e] at qq ⊢
        exact iteF qq
theorem sc__law_break : FnScope ["_law_book_here", "_law_part_here", "_law_row_here", "_law_stand_here", "_law_due", "_law_stack", "_law_low", "_law_k", "_law_many"] ["_law_book_here", "_law_part_here", "_law_row_here", "_law_stand_here"] (defScope s_law_break) := ⟨rfl, rfl, rfl, by decide +kernel, rfl, by decide +kernel, by decide +kernel⟩
theorem ok__law_break {f : Addr} {fd : FuncData} (F : Fun K "_law_break" "_law_break" s_law_break f fd) (z_len : mg "len" = none) (z_range : mg "range" = none) (h__law_asked : Has P w K mg base CX0 "_law_asked" 3 ["_law_book_here", "_law_part_here", "_law_row_here"] (sp_law_asked K)) (h__law_below : Has P w K mg base CX0 "_law_below" 2 ["_law_makes_here", "_law_kind_here", "_law_other"] (sp_law_below K)) : FnOk P w K mg base CX0 4 f fd ["_law_book_here", "_law_part_here", "_law_row_here", "_law_stand_here"] (sp_law_break K) := by
  refine F.ok sc__law_break (fun vs H Q E h => ?_) (fun cdv A outer s H vs Q E hr h => ?_)
  · obtain ⟨b, ms, zs, ps, j, p, rt, r, v, bx, st, rfl, hB, hg, hp, hR, hok, hv, h50, hin, q⟩ := h
    rfl
  obtain ⟨b, ms, zs, ps, j, p, rt, r, v, bx, st, rfl, hB, hg, hp, hR, hok, hv, h50, hin, q⟩ := h
  refine ⟨_, (pss_cons (ps_set (i := 4) sc__law_break.nd rfl (Or.inl rfl) (pe_ch h__law_asked (hr.mono (by decide)) rfl (pa_cons (pv 0) (pa_cons (pv 1) (pa_cons (pv 2) pa_nil)))))
      (pss_cons (ps_set (i := 5) sc__law_break.nd rfl (Or.inl rfl) (pe_ix ix_tup (pv 3) pe_int (fun _ _ => rfl)))
      (pss_cons (ps_set (i := 6) sc__law_break.nd rfl (Or.inl rfl) (pe_op op_sub (pe_callB call_len_seq rfl z_len bt_len (pa_cons (pv 5) pa_nil)) (pe_callB call_len_seq rfl z_len bt_len (pa_cons (pv 4) pa_nil))))
      (pss_cons (ps_if (pt_cmpR op_lt (pv 6) pe_int (nomark _)) (pss_one (ps_ret pe_str)) pss_nil)
      (pss_cons (ps_for PassesOwn.never rfl (pi_range1 rfl z_range (pa_cons (pe_callB call_len_seq rfl z_len bt_len (pa_cons (pv 4) pa_nil)) pa_nil)) (pg_name (i := 7) sc__law_break.nd rfl (Or.inl rfl)) (pss_one (ps_if (pt_not (pt_val (pe_ch h__law_below (hr.mono (by decide)) rfl (pa_cons (pe_ix ix_tup (pv 0) pe_int (fun _ _ => rfl)) (pa_cons (pe_ix ix_tup (pv 5) (pe_op op_add (pv 6) (pv 7)) (fun _ _ => rfl)) (pa_cons (pe_ix ix_list (pv 4) (pv 7) (fun _ _ => rfl)) pa_nil)))))) (pss_one (ps_ret pe_str)) pss_nil)))
      (pss_cons (ps_set (i := 8) sc__law_break.nd rfl (Or.inl rfl) pe_int)
      (pss_cons (ps_if (pt_cmpR op_in_seq (pe_ix ix_tup (pv 2) pe_int (fun _ _ => rfl)) (pe_tup (pa_cons pe_str (pa_cons pe_str pa_nil))) rfl) (pss_one (ps_set (i := 8) sc__law_break.nd rfl (Or.inl rfl) pe_int)) pss_nil)
      (pss_cons (ps_if (pt_cmpR op_in_seq (pe_ix ix_tup (pv 2) pe_int (fun _ _ => rfl)) (pe_tup (pa_cons pe_str (pa_cons pe_str (pa_cons pe_str (pa_cons pe_str (pa_cons pe_str (pa_cons pe_str (pa_cons pe_str (pa_cons pe_str pa_nil))))))))) rfl) (pss_one (ps_set (i := 8) sc__law_break.nd rfl (Or.inl rfl) pe_int)) pss_nil)
      (pss_cons (ps_if (pt_cmpR op_gt (pe_op op_add (pv 6) (pv 8)) (pe_ix ix_tup (pe_ix ix_list (pe_ix ix_tup (pv 0) pe_int (fun _ _ => rfl)) (pv 1) (fun _ _ => rfl)) pe_int (fun _ _ => rfl)) (nomark _)) (pss_one (ps_ret pe_str)) pss_nil)
      (pss_one (ps_ret pe_non))))))))))), ?_⟩
  obtain ⟨b', mk, pl, xs, e, hT, hM, hL, hP⟩ := bk_inv hB
  cases e
  obtain ⟨w0, hw0, hwr⟩ := bk_part hP hp
  obtain ⟨t, l0, l4, l5, ks, vs4, vs5, f1, rfl, hTt, hl0, hk, rg, hl4, hk4, hl5, hk5⟩ := pt_inv hwr
  obtain ⟨vt, vx, rfl, hVT, hVX⟩ := RdV.tupInv hv
  obtain ⟨s1v, hs1, hs1r⟩ := RdAll.at hVX (i := 1) (d := .tuple (kdsD st)) rfl
  obtain ⟨sa, sx, rfl, hSA, hSX⟩ := RdV.tupInv hs1r
  have lsx := hSX.1
  rw [List.length_map] at lsx
  refine ⟨_, rfl, _, rfl, _, rfl, b, ms, zs, ps, j, p, rt, r, rfl, hB, hg, hp, hR, hok, fun da ds H1 s1 hD hDs => ?_⟩
  have lds := hDs.1
  rw [List.length_map] at lds
  generalize hA : askK ms ps p r = ak at hDs lds
  have qb : breakK ms ps p r st = (if st.length < ak.length then some ("empty" : Str) else if belowAll ms (st.drop (st.length - ak.length)) ak = false then some ("kind" : Str) else if (p.height : Int) < ((st.length - ak.length : Nat) : Int) + manyOf (rwS r) then some ("high" : Str) else none) := by unfold breakK; rw [hA]
  rw [qb] at q
  refine ⟨_, rfl, vt, _, _, _, rfl, rfl, s1.tup hVT, atI_nat hs1, ?_⟩
  refine ⟨_, rfl, sa, sx, rfl, .inr (s1.tup hSA), _, rfl, da, ds, rfl, .inl hD, _, _, rfl, rfl, ?_⟩
  refine ⟨_, rfl, _, _, rfl, rfl, _, rfl, ite2 (fun z => ?_) (fun z => ?_)⟩
  · have z' : ((sx.length : Nat) : Int) - ((ds.length : Nat) : Int) < 0 := of_decide_eq_true z
    rw [if_pos (by omega)] at q
    exact q H1 s1
  have z' : ¬ ((sx.length : Nat) : Int) - ((ds.length : Nat) : Int) < 0 := fun y => z (decide_eq_true y)
  rw [if_neg (by omega)] at q
  dsimp only [tNext]
  have eu : ((sx.length : Nat) : Int) - ((ds.length : Nat) : Int) = ((st.length - ak.length : Nat) : Int) := by omega
  have hSK := KIt.ofRd hSX
  have hDK := KIt.ofRd hDs
  refine ⟨_, rfl, da, ds, rfl, .inl hD, _, rfl, by omega, by omega, ?_⟩
  refine for_range (lo := 0) (n := ((ds.length : Nat) : Int).toNat) (fun i σ H2 => ∃ (o7 : Option V), σ = [some (.ref b), some (.int (j : Int)), some (.ref rt), some (.ref vt), some (.ref da), some (.ref sa), some (.int (((sx.length : Nat) : Int) - ((ds.length : Nat) : Int))), o7, none] ∧ Same H1 H2 ∧ ∀ m k o, m < i → st[st.length - ak.length + m]? = some k → ak[m]? = some o → below ms k o = true) ⟨_, rfl, Same.refl _, fun m k o h => absurd h (Nat.not_lt_zero _)⟩ ?_ ?_
  · rintro i σ H2 hi ⟨o7, rfl, s2, hF⟩
    have e0 : (0 + (i : Int)) = ((i : Nat) : Int) := by omega
    rw [e0]
    have S2 := s1.trans s2
    have hia : i < ak.length := by omega
    have his : st.length - ak.length + i < sx.length := by omega
    obtain ⟨k, hk1, t1, hk2, hk3⟩ := KIt.at hSK (List.getElem?_eq_getElem his)
    obtain ⟨o, ho1, t2, ho2, ho3⟩ := KIt.at hDK (List.getElem?_eq_getElem (show i < ds.length by omega))
    have x1 : sx[st.length - ak.length + i]? = some (.ref t1) := by rw [List.getElem?_eq_getElem his, hk2]
    have x2 : ds[i]? = some (.ref t2) := by rw [List.getElem?_eq_getElem (show i < ds.length by omega), ho2]
    refine ⟨_, rfl, b, _, _, _, rfl, rfl, S2.tup hT, atI_nat (j := 0) rfl, _, rfl, _, rfl, _, rfl, _, _, rfl, rfl, sa, sx, _, .ref t1, rfl, rfl, S2.tup hSA, ?_, _, rfl, _, rfl, da, ds, _, _, rfl, rfl, s2.seq hD, atI_nat x2, mk, ms, t1, t2, k, o, rfl, hM.same S2, hg.wf, S2.tup hk3, s2.tup ho3, hin k (List.mem_of_getElem? hk1), fun H3 s3 => ⟨_, rfl, ?_⟩⟩
    · show atI sx (((sx.length : Nat) : Int) - ((ds.length : Nat) : Int) + (i : Int)) = some (.ref t1)
      rw [eu, show ((st.length - ak.length : Nat) : Int) + (i : Int) = ((st.length - ak.length + i : Nat) : Int) by omega]
      exact atI_nat x1
    cases hbl : below ms k o with
    | true =>
      refine iteF ⟨_, rfl, s2.trans s3, fun m k' o' hm hk' ho' => ?_⟩
      by_cases em : m = i
      · subst em
        rw [hk1] at hk'
        cases hk'
        rw [ho1] at ho'
        cases ho'
        exact hbl
      · exact hF m k' o' (by omega) hk' ho'
    | false =>
      refine iteT ?_
      have hba : belowAll ms (st.drop (st.length - ak.length)) ak = false := by
        unfold belowAll
        rw [show ((List.zipWith (below ms) (st.drop (st.length - ak.length)) ak).all id) = false by
          rw [List.all_eq_false]
          exact ⟨below ms k o, List.mem_of_getElem? (i := i) (by rw [List.getElem?_zipWith, List.getElem?_drop, hk1, ho1]), by simp [hbl]⟩, Bool.and_false]
      rw [if_pos hba] at q
      exact q H3 (S2.trans s3)
  · rintro σ H2 ⟨o7, rfl, s2, hF⟩
    have S2 := s1.trans s2
    have hba : belowAll ms (st.drop (st.length - ak.length)) ak = true := by
      unfold belowAll
      rw [decide_eq_true (by rw [List.length_drop]; omega), Bool.true_and, List.all_eq_true]
      intro x hx
      obtain ⟨m, hm⟩ := List.getElem?_of_mem hx
      rw [List.getElem?_zipWith, List.getElem?_drop] at hm
      cases e1 : st[st.length - ak.length + m]? with
      | none => rw [e1] at hm; cases hm
      | some k =>
        cases e2 : ak[m]? with
        | none => rw [e1, e2] at hm; cases hm
        | some o =>
          rw [e1, e2] at hm
          cases hm
          exact hF m k o (by have := (List.getElem?_eq_some_iff.mp e2).1; omega) e1 e2
    rw [if_neg (by rw [hba]; simp)] at q
    have r0 : atI (rwV r) 0 = some (.str (rwS r)) := atI_nat (j := 0) rfl
    refine cutR (R := ?R) (fun σ' H' => ∃ m : Int, m = (if rwS r ∈ (["dup", "swap"] : List Str) then 2 else 1) ∧ Same H H' ∧ σ' = [some (.ref b), some (.int (j : Int)), some (.ref rt), some (.ref vt), some (.ref da), some (.ref sa), some (.int (((sx.length : Nat) : Int) - ((ds.length : Nat) : Int))), o7, some (.int m)]) (fun kk => ?mm) ?kk
    case mm =>
      refine ⟨_, rfl, rt, _, _, _, rfl, rfl, S2.tup hR, r0, (by show 2 ≤ sizeLine; decide), fun t9 h9 => ⟨t9, _, rfl, .inr (SqT.of upd_same), rfl, rfl, _, rfl, ?_⟩⟩
      show if (inV (.str (rwS r)) ((["dup", "swap"] : List Str).map V.str)) = true then _ else _
      rw [inV_strs]
      have S9 := S2.trans (same_new h9 (.tup [.str "dup", .str "swap"]))
      refine ite2 (fun y => ?_) (fun y => ?_)
      rotate_left
      · dsimp only [tNext]
        refine kk _ _ ⟨1, by rw [if_neg (of_decide_eq_false (Bool.eq_false_iff.mpr y))], S9, rfl⟩
      · exact kk _ _ ⟨2, by rw [if_pos (of_decide_eq_true y)], S9, rfl⟩
    rintro σ' H' ⟨m1, hm1, S3, rfl⟩
    refine cutR (R := ?R2) (fun σ' H' => Same H H' ∧ σ' = [some (.ref b), some (.int (j : Int)), some (.ref rt), some (.ref vt), some (.ref da), some (.ref sa), some (.int (((sx.length : Nat) : Int) - ((ds.length : Nat) : Int))), o7, some (.int (manyOf (rwS r)))]) (fun kk => ?mm2) ?kk2
    case mm2 =>
      refine ⟨_, rfl, rt, _, _, _, rfl, rfl, S3.tup hR, r0, (by show 8 ≤ sizeLine; decide), fun t9 h9 => ⟨t9, _, rfl, .inr (SqT.of upd_same), rfl, rfl, _, rfl, ?_⟩⟩
      show if (inV (.str (rwS r)) ((["store", "drop", "jump", "zero", "put", "toss", "say", "give"] : List Str).map V.str)) = true then _ else _
      rw [inV_strs]
      have S9 := S3.trans (same_new h9 (.tup [.str "store", .str "drop", .str "jump", .str "zero", .str "put", .str "toss", .str "say", .str "give"]))
      refine ite2 (fun y => ?_) (fun y => ?_)
      rotate_left
      · dsimp only [tNext]
        have em : m1 = manyOf (rwS r) := by
          unfold manyOf
          rw [if_neg (of_decide_eq_false (Bool.eq_false_iff.mpr y)), hm1]
        rw [← em] at kk
        exact kk _ _ ⟨S9, rfl⟩
      · have em : manyOf (rwS r) = 0 := by
          unfold manyOf
          rw [if_pos (of_decide_eq_true y)]
        rw [em] at kk
        exact kk _ _ ⟨S9, rfl⟩
    rintro σ' H' ⟨S4, rfl⟩
    refine ⟨_, rfl, _, rfl, _, _, rfl, rfl, _, rfl, b, _, _, _, rfl, rfl, S4.tup hT, atI_nat (j := 1) rfl, _, rfl, pl, _, _, _, rfl, rfl, S4.seq hL, atI_nat hw0, t, _, _, _, rfl, rfl, S4.tup hTt, atI_nat (j := 3) rfl, _, _, rfl, rfl, _, rfl, ite2 (fun y => ?_) (fun y => ?_)⟩
    · have y' : (p.height : Int) < ((sx.length : Nat) : Int) - ((ds.length : Nat) : Int) + manyOf (rwS r) := of_decide_eq_true y
      rw [eu] at y'
      rw [if_pos y'] at q
      exact q H' S4
    · have y' : ¬ (p.height : Int) < ((sx.length : Nat) : Int) - ((ds.length : Nat) : Int) + manyOf (rwS r) := fun e => y (decide_eq_true e)
      rw [eu] at y'
      rw [if_neg y'] at q
      exact q H' S4
theorem sc__law_copy : FnScope ["_law_makes_here"] ["_law_makes_here"] (defScope s_law_copy) := ⟨rfl, rfl, rfl, by decide +kernel, rfl, by decide +kernel, by decide +kernel⟩
theorem ok__law_copy {f : Addr} {fd : FuncData} (F : Fun K "_law_copy" "_law_copy" s_law_copy f fd) (z_list : mg "list" = none) : FnOk P w K mg base CX0 1 f fd ["_law_makes_here"] (sp_law_copy K) := by
  refine F.ok sc__law_copy (fun vs H Q E h => ?_) (fun cdv A outer s H vs Q E hr h => ?_)
  · obtain ⟨a, ms, rfl, ⟨xs, hS, hI⟩, h8, q⟩ := h
    rfl
  obtain ⟨a, ms, rfl, ⟨xs, hS, hI⟩, h8, q⟩ := h
  refine ⟨_, (pss_one (ps_ret (pe_lc 2 ["_law_elder", "_law_own"] [] ⟨rfl, rfl, rfl, rfl, rfl, rfl, rfl, rfl⟩ (pi_list (pv 0)) (fun _ _ _ _ => ⟨(show PG _ _ (gTup K 2 _) from (pg_tup rfl (pgs_cons (pg_name (i := 0) (show List.Nodup (["_law_elder", "_law_own"] : List Str) by decide +kernel) rfl (Or.inl rfl)) (pgs_cons (pg_name (i := 1) (show List.Nodup (["_law_elder", "_law_own"] : List Str) by decide +kernel) rfl (Or.inl rfl)) pgs_nil)))), pif_nil, (pe_tup (pa_cons (pv 0) (pa_cons (pe_callTy (r := rListOf K) call_list_of rfl z_list bt_list (pa_cons (pv 1) pa_nil)) pa_nil)))⟩)))), ?_⟩
  have lx := hI.1
  refine ⟨_, rfl, a, rfl, ⟨_, hS⟩, fun D hD => ?_⟩
  refine lc_list (xs := xs) (fun i ys H2 => Same H H2 ∧ H2 D = some (.lst ys) ∧ (∀ HX, (∀ c o, c ≠ D → H2 c = some o → (∀ zs, H c ≠ some (.lst zs)) → HX c = some o) → MIt K HX ys (ms.take i)) ∧ ys.length = i) (Nat.le_of_lt (small1000 (by omega))) ⟨same_new hD _, upd_same, fun HX _ => MIt.nil K _, rfl⟩ ?_ ?_ ?_
  · rintro i ys H2 hi ⟨s2, d2, _, hl⟩
    exact ⟨d2, Nat.le_of_eq hl, s2.seq hS⟩
  · rintro i x ys H2 hx ⟨s2, d2, hF, hl⟩
    have hix : i < xs.length := (List.getElem?_eq_some_iff.mp hx).1
    have him : i < ms.length := by omega
    obtain ⟨t, l, ks, rfl, e2', e3', e4⟩ := hI.2 i x _ hx (List.getElem?_eq_getElem him)
    have e2 := s2.tup e2'
    have e3 := s2.seq e3'
    refine ⟨t, _, rfl, e2, rfl, _, _, rfl, _, _, rfl, rfl, rfl, ?_⟩
    refine ⟨_, rfl, _, rfl, l, _, rfl, .inl e3, fun l2 hl2 => ?_⟩
    refine ⟨(by show 2 ≤ sizeLine; decide), fun u hu => ?_⟩
    have nl : l2 ≠ D := (ne_of_none d2 hl2).symm
    have s3 := same_new hl2 (.lst ks)
    have s4 := same_new hu (.tup [elV (ms[i]).1, .ref l2])
    have d4 := s4 _ _ (s3 _ _ d2)
    have nu : u ≠ D := (ne_of_none (s3 _ _ d2) hu).symm
    have fl : H l2 = none := s2.free hl2
    have fu : H u = none := (s2.trans s3).free hu
    refine ⟨d4, fun b o e => ?_, upd_same, fun HX hX => ?_, by simp [hl]⟩
    · rw [upd_ne (ne_of_none e hD)]
      exact s4 b o (s3 b o (s2 b o e))
    · have z := hF HX fun c o n e hc => hX c o n (by rw [upd_ne n]; exact s4 c o (s3 c o e)) hc
      have ht : ms.take (i + 1) = ms.take i ++ [ms[i]] := by rw [List.take_succ_eq_append_getElem him]
      rw [ht]
      refine z.snoc ⟨u, l2, ks, rfl, ?_, ?_, ?_⟩
      · exact SqT.of (hX u _ nu (by rw [upd_ne nu]; exact upd_same) (fun zs e => by rw [fu] at e; cases e))
      · exact SqL.of (hX l2 _ nl (by rw [upd_ne nl]; exact s4 _ _ upd_same) (fun zs e => by rw [fl] at e; cases e))
      · exact rdAll_kd_keep (fun c o e n => hX c o (ne_of_none e hD) (by rw [upd_ne (ne_of_none e hD)]; exact s4 c o (s3 c o (s2 c o e))) (fun zs e' => by rw [e] at e'; cases e'; exact n zs rfl)) e4
  · rintro ys H2 ⟨s2, d2, hF, hl⟩
    have e : ms.take xs.length = ms := List.take_of_length_le (by omega)
    rw [e] at hF
    exact q D ys H2 s2 hD d2 fun HX hX => hF HX fun c o _ e hc => hX c o e hc
theorem sc__law_copied : FnScope ["_law_book_here", "_law_parts", "_law_takes", "_law_gives", "_law_boxes", "_law_height", "_law_rows", "_law_stretches"] ["_law_book_here"] (defScope s_law_copied) := ⟨rfl, rfl, rfl, by decide +kernel, rfl, by decide +kernel, by decide +kernel⟩
theorem ok__law_copied {f : Addr} {fd : FuncData} (F : Fun K "_law_copied" "_law_copied" s_law_copied f fd) (z_list : mg "list" = none) (h__law_copy : Has P w K mg base CX0 "_law_copy" 1 ["_law_makes_here"] (sp_law_copy K)) : FnOk P w K mg base CX0 2 f fd ["_law_book_here"] (sp_law_copied K) := by
  refine F.ok sc__law_copied (fun vs H Q E h => ?_) (fun cdv A outer s H vs Q E hr h => ?_)
  · obtain ⟨b, ms, ps, rfl, hB, h8, hp8, q⟩ := h
    rfl
  obtain ⟨b, ms, ps, rfl, hB, h8, hp8, q⟩ := h
  refine ⟨_, (pss_cons (ps_set (i := 1) sc__law_copied.nd rfl (Or.inl rfl) (pe_lst pa_nil))
      (pss_cons (ps_for PassesOwn.never rfl (pi_list (pe_ix ix_tup (pv 0) pe_int (fun _ _ => rfl))) (pg_tup rfl (pgs_cons (pg_name (i := 2) sc__law_copied.nd rfl (Or.inl rfl)) (pgs_cons (pg_name (i := 3) sc__law_copied.nd rfl (Or.inl rfl)) (pgs_cons (pg_name (i := 4) sc__law_copied.nd rfl (Or.inl rfl)) (pgs_cons (pg_name (i := 5) sc__law_copied.nd rfl (Or.inl rfl)) (pgs_cons (pg_name (i := 6) sc__law_copied.nd rfl (Or.inl rfl)) (pgs_cons (pg_name (i := 7) sc__law_copied.nd rfl (Or.inl rfl)) pgs_nil))))))) (pss_one (ps_expr (pe_bm PySem.F.plainAttrs_list PySem.F.slot_list_append PySem.F.type_list_append mt_append (pv 1) (pa_cons (pe_tup (pa_cons (pe_callTy call_list_of rfl z_list bt_list (pa_cons (pv 2) pa_nil)) (pa_cons (pv 3) (pa_cons (pv 4) (pa_cons (pv 5) (pa_cons (pe_callTy call_list_of rfl z_list bt_list (pa_cons (pv 6) pa_nil)) (pa_cons (pe_callTy call_list_of rfl z_list bt_list (pa_cons (pv 7) pa_nil)) pa_nil))))))) pa_nil)))))
      (pss_one (ps_ret (pe_tup (pa_cons (pe_ch h__law_copy (hr.mono (by decide)) rfl (pa_cons (pe_ix ix_tup (pv 0) pe_int (fun _ _ => rfl)) pa_nil)) (pa_cons (pv 1) pa_nil))))))), ?_⟩
  obtain ⟨b', mk, pl, xs, e, hT, hM, hL, hP⟩ := bk_inv hB
  cases e
  have lx := hP.1
  rw [List.length_map] at lx
  refine ⟨(by show 0 ≤ sizeLine; decide), fun r hr => ?_⟩
  have u1 := same_new hr (.lst [])
  refine ⟨_, rfl, b, _, _, _, rfl, rfl, u1.tup hT, atI_nat (j := 1) rfl, pl, rfl, ⟨_, u1.seq hL⟩, ?_⟩
  refine for_list (xs := xs) (fun i σ H2 => ∃ (ys : List V) (ls : List Addr) (o2 o3 o4 o5 o6 o7 : Option V), σ = [some (.ref b), some (.ref r), o2, o3, o4, o5, o6, o7] ∧ SameB r H H2 ∧ H2 r = some (.lst ys) ∧ ys.length = i ∧ ls.length = i ∧ ls.Nodup ∧ r ∉ ls ∧ (∀ l ∈ ls, H l = none ∧ ∃ ks, H2 l = some (.lst ks)) ∧
    ∀ HX, (∀ c o, c ∉ ls → c ≠ r → H2 c = some o → HX c = some o) → ∀ (j : Nat) p l, j < i → ps[j]? = some p → ls[j]? = some l → ∃ (t : Addr) (g r' s' : V) (ks : List V), ys[j]? = some (.ref t) ∧ SqT K HX t [.ref l, g, .int (p.boxes : Int), .int (p.height : Int), r', s'] ∧ H2 l = some (.lst ks) ∧ RdAll K HX ks (kdsD p.takes) ∧ ∀ vs tk, HX l = some (.lst vs) → RdAll K HX vs (kdsD tk) → RdV K HX (.ref t) (ptD (p.wt tk)))
    ⟨[], [], _, _, _, _, _, _, rfl, Same.b u1, upd_same, rfl, rfl, .nil, (fun h => nomatch h), (fun l h => nomatch h), (fun HX _ j p l h => absurd h (Nat.not_lt_zero _))⟩ ?_ ?_ ?_
  · rintro i σ H2 hi ⟨ys, ls, o2, o3, o4, o5, o6, o7, rfl, sb, _⟩
    exact (sb.same hr).seq hL
  · rintro i x σ H2 hx ⟨ys, ls, o2, o3, o4, o5, o6, o7, rfl, sb, g2, ly, ll, nd, nr, hls, hA⟩
    have s2 := sb.same hr
    have hix : i < xs.length := (List.getElem?_eq_some_iff.mp hx).1
    have hip : i < ps.length := by omega
    have hxr := hP.2 i x (ptD ps[i]) hx (by rw [List.getElem?_map, List.getElem?_eq_getElem hip]; rfl)
    obtain ⟨t, l0, l4, l5, ks, vs4, vs5, f1, rfl, hTt, hl0, hk, rg, hl4, hk4, hl5, hk5⟩ := pt_inv hxr
    refine ⟨t, _, rfl, s2.tup hTt, rfl, _, _, rfl, _, _, rfl, _, _, rfl, _, _, rfl, _, _, rfl, _, _, rfl, rfl, ?_⟩
    refine ⟨_, rfl, .inl ⟨rfl, _, SqL.of g2⟩, _, rfl, l0, ks, rfl, .inl (s2.seq hl0), fun a1 h1 => ?_⟩
    have b1 := same_new h1 (.lst ks)
    refine ⟨_, rfl, _, rfl, _, rfl, _, rfl, l4, vs4, rfl, .inl ((s2.trans b1).seq hl4), fun a2 h2 => ?_⟩
    have b2 := same_new h2 (.lst vs4)
    refine ⟨_, rfl, l5, vs5, rfl, .inl ((s2.trans (b1.trans b2)).seq hl5), fun a3 h3 => ⟨(by show 6 ≤ sizeLine; decide), fun t3 ht3 => ?_⟩⟩
    have b3 := same_new h3 (.lst vs5)
    have b4 := same_new ht3 (.tup [.ref a1, f1, .int (ps[i].boxes : Int), .int (ps[i].height : Int), .ref a2, .ref a3])
    have bA := b1.trans (b2.trans (b3.trans b4))
    have n1 : a1 ≠ r := (ne_of_none g2 h1).symm
    have n2 : a2 ≠ r := (ne_of_none (b1 _ _ g2) h2).symm
    have n3 : a3 ≠ r := (ne_of_none (b2 _ _ (b1 _ _ g2)) h3).symm
    have n4 : t3 ≠ r := (ne_of_none (b3 _ _ (b2 _ _ (b1 _ _ g2))) ht3).symm
    have m2 : a2 ≠ a1 := (ne_of_none (upd_same (H := H2) (a := a1) (o := .lst ks)) h2).symm
    have m3 : a3 ≠ a1 := (ne_of_none (b2 _ _ (upd_same (H := H2) (a := a1) (o := .lst ks))) h3).symm
    have m4 : t3 ≠ a1 := (ne_of_none (b3 _ _ (b2 _ _ (upd_same (H := H2) (a := a1) (o := .lst ks)))) ht3).symm
    have e1 := b4 _ _ (b3 _ _ (b2 _ _ (upd_same (H := H2) (a := a1) (o := .lst ks))))
    have e2 := b4 _ _ (b3 _ _ (upd_same (a := a2) (o := .lst vs4)))
    have e3 := b4 _ _ (upd_same (a := a3) (o := .lst vs5))
    have e4 := upd_same (H := upd (upd (upd H2 a1 (.lst ks)) a2 (.lst vs4)) a3 (.lst vs5)) (a := t3) (o := .tup [.ref a1, f1, .int (ps[i].boxes : Int), .int (ps[i].height : Int), .ref a2, .ref a3])
    have g9 := bA _ _ g2
    have nl : ∀ c, H2 c = none → c ∉ ls := fun c hc hm => by
      obtain ⟨_, ks', e⟩ := hls c hm
      rw [hc] at e
      cases e
    have k1 : a1 ∉ ls := nl _ h1
    have k2 : a2 ∉ ls := nl _ (b1.free h2)
    have k3 : a3 ∉ ls := nl _ ((b1.trans b2).free h3)
    have k4 : t3 ∉ ls := nl _ ((b1.trans (b2.trans b3)).free ht3)
    have nH1 : H a1 = none := s2.free h1
    generalize upd (upd (upd (upd H2 a1 (.lst ks)) a2 (.lst vs4)) a3 (.lst vs5)) t3 (.tup [.ref a1, f1, .int (ps[i].boxes : Int), .int (ps[i].height : Int), .ref a2, .ref a3]) = H9 at bA e1 e2 e3 e4 g9 ⊢
    refine ⟨r, _, _, rfl, rfl, g9, small1000 (by omega), ?_⟩
    refine ⟨ys ++ [.ref t3], ls ++ [a1], _, _, _, _, _, _, rfl, sb.trans ((Same.b bA).trans (SameB.at _ _)), upd_same, by simp [ly], by simp [ll], ?_, ?_, fun l hl => ?_, fun HX hX j p l hj hp hl => ?_⟩
    · rw [List.nodup_append]
      exact ⟨nd, by simp, fun c hc d hd => by simp at hd; subst hd; exact fun e => k1 (by rw [← e]; exact hc)⟩
    · simp only [List.mem_append, List.mem_singleton, not_or]
      exact ⟨nr, n1.symm⟩
    · rcases List.mem_append.mp hl with z | z
      · obtain ⟨w1, ks', w2⟩ := hls l z
        exact ⟨w1, ks', by rw [upd_ne (fun e => nr (by rw [← e]; exact z))]; exact bA _ _ w2⟩
      · simp at z
        subst z
        exact ⟨nH1, ks, by rw [upd_ne n1]; exact e1⟩
    · have hX2 : ∀ c o, c ∉ ls → c ≠ r → H2 c = some o → HX c = some o := fun c o d1 d2 d3 =>
        hX c o (by simp only [List.mem_append, List.mem_singleton, not_or]; exact ⟨d1, ne_of_none d3 h1⟩) d2 (by rw [upd_ne d2]; exact bA _ _ d3)
      have hXn : ∀ c o, c ∉ ls → c ≠ a1 → c ≠ r → H9 c = some o → HX c = some o := fun c o d1 d2 d3 d4 =>
        hX c o (by simp only [List.mem_append, List.mem_singleton, not_or]; exact ⟨d1, d2⟩) d3 (by rw [upd_ne d3]; exact d4)
      have sHX : Same H HX := fun c o e => hX2 c o (fun hm => by rw [(hls c hm).1] at e; cases e) (ne_of_none e hr) (s2 c o e)
      by_cases ej : j = i
      · subst ej
        rw [List.getElem?_eq_getElem hip] at hp
        cases hp
        rw [List.getElem?_append_right (by omega), ll] at hl
        simp at hl
        subst hl
        have tX : SqT K HX t3 [.ref a1, f1, .int (ps[j].boxes : Int), .int (ps[j].height : Int), .ref a2, .ref a3] := SqT.of (hXn _ _ k4 m4 n4 e4)
        refine ⟨t3, f1, .ref a2, .ref a3, ks, by rw [List.getElem?_append_right (by omega), ly]; simp, tX, by rw [upd_ne n1]; exact e1, hk.same sHX, fun vs tk v1 v2 => ?_⟩
        exact .tup' tX (.cons (.lst' (SqL.of v1) v2) (.cons (rg.same sHX) (.cons (.int _) (.cons (.int _) (.cons (.lst' (SqL.of (hXn _ _ k2 m2 n2 e2)) (hk4.same sHX)) (.cons (.lst' (SqL.of (hXn _ _ k3 m3 n3 e3)) (hk5.same sHX)) .nil))))))
      · rw [List.getElem?_append_left (by omega)] at hl
        obtain ⟨t', g', r', s', ks', f1', f2', f3', f4', f5'⟩ := hA HX hX2 j p l (by omega) hp hl
        exact ⟨t', g', r', s', ks', by rw [List.getElem?_append_left (by omega)]; exact f1', f2', by rw [upd_ne (fun e => nr (by rw [← e]; exact List.mem_of_getElem? hl))]; exact bA _ _ f3', f4', f5'⟩
  · rintro σ H2 ⟨ys, ls, o2, o3, o4, o5, o6, o7, rfl, sb, g2, ly, ll, nd, nr, hls, hA⟩
    have s2 := sb.same hr
    refine ⟨_, rfl, b, _, _, _, rfl, rfl, s2.tup hT, atI_nat (j := 0) rfl, mk, ms, rfl, hM.same s2, h8, fun a x3 H3 s3 n3 g3 f3 => ?_⟩
    refine ⟨_, rfl, (by show 2 ≤ sizeLine; decide), fun t ht => ?_⟩
    have s4 := same_new ht (.tup [.ref a, .ref r])
    have sA := s3.trans s4
    have a3 : a ∉ ls := fun hm => by
      obtain ⟨_, ks, e⟩ := hls a hm
      rw [n3] at e
      cases e
    have hand : HandAt K (upd H3 t (.tup [.ref a, .ref r])) a r ys ls ms ps := by
      refine ⟨by omega, nd, sA _ _ g2, nr, fun HX hX => ?_, fun HX hX j p l hp hl => ?_⟩
      · refine ⟨x3, SqL.of (hX _ _ a3 (s4 _ _ g3)), f3 HX fun c o e hc => hX c o (fun hm => ?_) (s4 _ _ e)⟩
        obtain ⟨_, ks, e'⟩ := hls c hm
        exact hc ks e'
      · obtain ⟨t', g', r', s', ks', f1', f2', f3', f4', f5'⟩ := hA HX (fun c o d1 _ d3 => hX c o d1 (sA _ _ d3)) j p l (by have := (List.getElem?_eq_some_iff.mp hp).1; omega) hp hl
        exact ⟨t', g', r', s', ks', f1', f2', sA _ _ f3', f4', f5'⟩
    refine q t a r ys ls _ (s2.trans sA) upd_same (by omega) hand ?_
    refine .tup' (SqT.of upd_same) (.cons (hand.my _ KeepX.refl).rd (.cons (.lst' (SqL.of hand.pls) (RdAll.of (by omega) fun j p hp => ?_)) .nil))
    have hj := (List.getElem?_eq_some_iff.mp hp).1
    obtain ⟨t', g', r', s', ks', f1', f2', f3', f4', f5'⟩ := hand.pt _ KeepX.refl j p _ hp (List.getElem?_eq_getElem (by omega))
    exact ⟨_, f1', f5' ks' p.takes f3' f4'⟩
theorem sc__law_lower : FnScope ["_law_makes_here", "_law_sizes", "_law_kind_here", "_law_cell", "_law_under"] ["_law_makes_here", "_law_sizes", "_law_kind_here", "_law_cell"] (defScope s_law_lower) := ⟨rfl, rfl, rfl, by decide +kernel, rfl, by decide +kernel, by decide +kernel⟩
theorem ok__law_lower {f : Addr} {fd : FuncData} (F : Fun K "_law_lower" "_law_lower" s_law_lower f fd) (z_len : mg "len" = none) (z_range : mg "range" = none) (h__law_elders : Has P w K mg base CX0 "_law_elders" 1 ["_law_makes_here", "_law_c"] (sp_law_elders K)) (h__law_kind : Has P w K mg base CX0 "_law_kind" 1 ["_law_cell", "_law_sizes"] (sp_law_kind K)) : FnOk P w K mg base CX0 2 f fd ["_law_makes_here", "_law_sizes", "_law_kind_here", "_law_cell"] (sp_law_lower K) := by
  refine F.ok sc__law_lower (fun vs H Q E h => ?_) (fun cdv A outer s H vs Q E hr h => ?_)
  · obtain ⟨a, ms, D, zs, t, k, c, rfl, hM, hg, hD, ht, hk, h0, q⟩ := h
    rfl
  obtain ⟨a, ms, D, zs, t, k, c, rfl, hM, hg, hD, ht, hk, h0, q⟩ := h
  refine ⟨_, (pss_cons (ps_if (pt_cmpR (op_eqD (hr.units)) (pv 2) (pe_tup (pa_cons pe_str pa_nil)) (nomark _)) (pss_one (ps_ret (pe_ch h__law_kind (hr.mono (by decide)) rfl (pa_cons (pv 3) (pa_cons (pv 1) pa_nil))))) pss_nil)
      (pss_cons (ps_if (pt_cmpR op_eq (pe_ix ix_tup (pv 2) pe_int (fun _ _ => rfl)) pe_str (nomark _)) (pss_cons (ps_setLC (i := 4) sc__law_lower.nd rfl (Or.inl rfl) 1 ["_law_c", "_law_kind_here", "_law_makes_here"] [2, 0] ⟨rfl, rfl, rfl, rfl, rfl, rfl, rfl, rfl⟩ (pi_range1 rfl z_range (pa_cons (pe_callB call_len_seq rfl z_len bt_len (pa_cons (pv 0) pa_nil)) pa_nil)) (fun _ _ _ _ => ⟨(pg_name (i := 0) (show List.Nodup (["_law_c", "_law_kind_here", "_law_makes_here"] : List Str) by decide +kernel) rfl (Or.inl rfl)), (pif_one (pt_cmpR (r := rIn K false) op_in_seq (pe_ix (r := rIxT K) ix_tup (pv 1) pe_int (fun _ _ => rfl)) (pe_ch h__law_elders (hr.mono (by decide)) rfl (pa_cons (pv 2) (pa_cons (pv 0) pa_nil))) rfl)), (pv 0)⟩))
      (pss_one (ps_ret (pe_tup (pa_cons pe_str (pa_cons (pe_ix ix_list (pv 4) (pe_op op_mod (pv 3) (pe_callB call_len_seq rfl z_len bt_len (pa_cons (pv 4) pa_nil))) (fun _ _ => rfl)) pa_nil)))))) pss_nil)
      (pss_cons (ps_if (pt_cmpR op_eq (pe_ix ix_tup (pv 2) pe_int (fun _ _ => rfl)) pe_str (nomark _)) (pss_one (ps_ret (pe_tup (pa_cons pe_str (pa_cons (pe_ix ix_tup (pv 2) pe_int (fun _ _ => rfl)) (pa_cons (pe_op op_or (pe_ix ix_tup (pv 2) pe_int (fun _ _ => rfl)) (pe_op op_mod (pv 3) (pe_op op_shl pe_int (pe_ix ix_list (pv 1) (pe_ix ix_tup (pv 2) pe_int (fun _ _ => rfl)) (fun _ _ => rfl))))) pa_nil)))))) pss_nil)
      (pss_one (ps_ret (pv 2)))))), ?_⟩
  have few := hg.wf.few
  have lz := hg.len
  have ne := hg.wf.ne
  refine ⟨_, rfl, (by show 1 ≤ sizeLine; decide), fun p hp => ?_⟩
  have sp := same_new hp (.tup [.str "any"])
  refine ⟨_, _, rd_kd (sp.tup ht), rd_kd (k := .any) (SqT.of upd_same), kdD_ok k, kdD_ok .any, _, rfl, ?_⟩
  rw [kd_eqv]
  generalize upd H p (.tup [.str "any"]) = H1 at sp ⊢
  cases k with
  | any =>
    refine ifB (by decide +kernel) ?_
    exact ⟨_, rfl, _, rfl, D, zs, c, rfl, sp.seq hD, h0, by omega, hg.six, fun k' t' H2 hk' s2 ht' => q k' t' H2 hk' (sp.trans s2) (SqT.of ht')⟩
  | num =>
    refine ifC (decide_eq_false (by simp)) ?_
    dsimp only [tNext]
    refine ⟨_, rfl, t, _, _, _, rfl, rfl, sp.tup ht, atI_nat (j := 0) rfl, rfl, _, rfl, ifN nNW ?_⟩
    dsimp only [tNext]
    refine ⟨_, rfl, t, _, _, _, rfl, rfl, sp.tup ht, atI_nat (j := 0) rfl, rfl, _, rfl, ifN nNR ?_⟩
    dsimp only [tNext]
    exact ⟨_, rfl, q .num t H1 trivial sp (sp.tup ht)⟩
  | raw d m =>
    refine ifC (decide_eq_false (by simp)) ?_
    dsimp only [tNext]
    refine ⟨_, rfl, t, _, _, _, rfl, rfl, sp.tup ht, atI_nat (j := 0) rfl, rfl, _, rfl, ifN nRW ?_⟩
    dsimp only [tNext]
    obtain ⟨z, hz1, hz2⟩ : ∃ z, zs[d]? = some z ∧ m < 2 ^ z := hk
    have hz6 := hg.six z (List.mem_of_getElem? hz1)
    have hdl := (List.getElem?_eq_some_iff.mp hz1).1
    have hzi : (natsV zs)[d]? = some (.int (z : Int)) := by rw [List.getElem?_map, hz1]; rfl
    have p2 : (1 : Int) * 2 ^ ((z : Int)).toNat = ((2 ^ z : Nat) : Int) := by rw [Int.toNat_natCast]; simp
    have pz : 0 < 2 ^ z := Nat.pow_pos (by decide)
    obtain ⟨y, hy1, hy2⟩ := modN (e := c) (n := 2 ^ z) pz
    refine ⟨_, rfl, t, _, _, _, rfl, rfl, sp.tup ht, atI_nat (j := 0) rfl, rfl, _, rfl, ifY rfl ?_⟩
    refine ⟨_, rfl, t, _, _, _, rfl, rfl, sp.tup ht, atI_nat (j := 1) rfl, _, rfl, t, _, _, _, rfl, rfl, sp.tup ht, atI_nat (j := 2) rfl, _, rfl, _, rfl, _, rfl, t, _, _, _, rfl, rfl, sp.tup ht, atI_nat (j := 1) rfl, D, _, _, _, rfl, rfl, sp.seq hD, atI_nat hzi, _, _, rfl, rfl, ⟨by omega, by omega, by decide⟩, _, _, rfl, rfl, (by rw [p2]; omega), _, _, rfl, rfl, (by show 3 ≤ sizeLine; decide), fun u hu => ?_⟩
    refine q (.raw d (m ||| y)) u _ ⟨z, hz1, Nat.or_lt_two_pow hz2 hy2⟩ (sp.trans (same_new hu _)) (SqT.of (upd_same.trans ?_))
    show some (HO.tup [V.str "raw", V.int (d : Int), V.int (Builtin.bitOr (m : Int) (c % ((1 : Int) * 2 ^ ((z : Int)).toNat)))]) = _
    rw [p2, hy1, bitOr_nat]
    rfl
  | whole d =>
    refine ifC (decide_eq_false (by simp)) ?_
    dsimp only [tNext]
    refine ⟨_, rfl, t, _, _, _, rfl, rfl, sp.tup ht, atI_nat (j := 0) rfl, rfl, _, rfl, ifY rfl ?_⟩
    have hd : d < ms.length := by rw [lz]; exact hk
    obtain ⟨xs, hX, hI⟩ := id hM
    have lx := hI.1
    refine ⟨_, rfl, a, xs, rfl, .inl (sp.seq hX), _, rfl, by omega, by omega, fun U hU => ?_⟩
    refine lc_range (lo := 0) (n := ((xs.length : Nat) : Int).toNat) (fun i ys H2 => Same H1 H2 ∧ H2 U = some (.lst ys) ∧ ∃ us : List Nat, ys = natsV us ∧ us.length ≤ i ∧ (∀ u ∈ us, u < ms.length) ∧ (d < i → 0 < us.length)) (Nat.le_of_lt (small1000 (by omega))) ⟨same_new hU _, upd_same, [], rfl, Nat.le_refl _, (fun u hu => nomatch hu), (fun h => absurd h (Nat.not_lt_zero _))⟩ ?_ ?_ ?_
    · rintro i ys H2 ⟨_, e1, us, rfl, e3, _⟩
      exact ⟨e1, by rw [List.length_map]; exact e3⟩
    · rintro i ys H2 hi ⟨s2, d2, us, rfl, e3, e4, e5⟩
      have e0 : (0 + (i : Int)) = ((i : Nat) : Int) := by omega
      rw [e0]
      have S2 := sp.trans s2
      have him : i < ms.length := by omega
      refine ⟨rfl, ?_⟩
      refine ⟨_, rfl, t, _, _, _, rfl, rfl, S2.tup ht, atI_nat (j := 1) rfl, _, rfl, _, rfl, a, ms, i, rfl, hM.same S2, hg.wf, him, fun r H3 s3 n3 g3 => ?_⟩
      refine ⟨r, _, rfl, .inl (SqL.of g3), rfl, flat_nats _, _, rfl, ?_⟩
      have d3 := s3 _ _ d2
      show if (inV (.int (d : Int)) (natsV (elders ms i))) = true then _ else _
      rw [inV_nats]
      refine ite2 (fun y => ?_) (fun y => ?_)
      · refine ⟨_, rfl, d3, fun c o e => ?_, upd_same, us ++ [i], by simp [natsV], by simp; omega, fun u hu => ?_, fun _ => by simp⟩
        · rw [upd_ne (ne_of_none e hU)]
          exact s3 c o (s2 c o e)
        · rcases List.mem_append.mp hu with z | z
          · exact e4 u z
          · simp at z; omega
      · refine ⟨s2.trans s3, d3, us, rfl, by omega, e4, fun hdi => ?_⟩
        by_cases edi : d = i
        · subst edi
          exact absurd (decide_eq_true (by rw [elders_step hg.wf hd]; exact List.mem_cons_self)) y
        · exact e5 (by omega)
    · rintro ys H2 ⟨s2, d2, us, rfl, e3, e4, e5⟩
      have hpos := e5 (by omega)
      have ln : (natsV us).length = us.length := List.length_map ..
      obtain ⟨i, hi1, hi2⟩ := modN (e := c) hpos
      have hui : (natsV us)[i]? = some (.int ((us[i] : Nat) : Int)) := by rw [List.getElem?_map, List.getElem?_eq_getElem hi2]; rfl
      refine ⟨_, rfl, _, rfl, _, rfl, U, _, rfl, .inl (SqL.of d2), _, _, rfl, rfl, (by rw [ln]; omega), U, _, _, .int ((us[i] : Nat) : Int), rfl, rfl, SqL.of d2, ?_, (by show 2 ≤ sizeLine; decide), fun u hu => ?_⟩
      · show atI (natsV us) (c % (((natsV us).length : Nat) : Int)) = _
        rw [ln, hi1]
        exact atI_nat hui
      · exact q (.whole us[i]) u _ (show us[i] < zs.length by rw [← lz]; exact e4 _ (List.getElem_mem hi2)) (sp.trans (s2.trans (same_new hu _))) (SqT.of upd_same)
theorem sc__law_stand : FnScope ["_law_script", "_law_at", "_law_book_here", "_law_part_here", "_law_row_here", "_law_makes_here", "_law_sizes", "_law_height", "_law_cell", "_law_boxes", "_law_stack", "_law_due"] ["_law_script", "_law_at", "_law_book_here", "_law_part_here", "_law_row_here"] (defScope s_law_stand) := ⟨rfl, rfl, rfl, by decide +kernel, rfl, by decide +kernel, by decide +kernel⟩
theorem ok__law_stand {f : Addr} {fd : FuncData} (F : Fun K "_law_stand" "_law_stand" s_law_stand f fd) (z_len : mg "len" = none) (z_max : mg "max" = none) (z_range : mg "range" = none) (z_tuple : mg "tuple" = none) (h__law_asked : Has P w K mg base CX0 "_law_asked" 3 ["_law_book_here", "_law_part_here", "_law_row_here"] (sp_law_asked K)) (h__law_draw : Has P w K mg base CX0 "_law_draw" 1 ["_law_script", "_law_k"] (sp_law_draw K)) (h__law_fields : Has P w K mg base CX0 "_law_fields" 2 ["_law_makes_here", "_law_c"] (sp_law_fields K)) (h__law_kind : Has P w K mg base CX0 "_law_kind" 1 ["_law_cell", "_law_sizes"] (sp_law_kind K)) (h__law_lower : Has P w K mg base CX0 "_law_lower" 2 ["_law_makes_here", "_law_sizes", "_law_kind_here", "_law_cell"] (sp_law_lower K)) : FnOk P w K mg base CX0 4 f fd ["_law_script", "_law_at", "_law_book_here", "_law_part_here", "_law_row_here"] (sp_law_stand K) := by
  refine F.ok sc__law_stand (fun vs H Q E h => ?_) (fun cdv A outer s H vs Q E hr h => ?_)
  · obtain ⟨a, ns, at', b, ms, zs, ps, j, p, rt, r, rfl, hS, h0, h1, hB, hg, hp, hps, hR, hok, q⟩ := h
    rfl
  obtain ⟨a, ns, at', b, ms, zs, ps, j, p, rt, r, rfl, hS, h0, h1, hB, hg, hp, hps, hR, hok, q⟩ := h
  refine ⟨_, (pss_cons (ps_set (i := 5) sc__law_stand.nd rfl (Or.inr rfl) (pe_ix ix_tup (pv 2) pe_int (fun _ _ => rfl)))
      (pss_cons (ps_set (i := 6) sc__law_stand.nd rfl (Or.inr rfl) (pe_lc 1 ["_law_c", "_law_makes_here"] [5] ⟨rfl, rfl, rfl, rfl, rfl, rfl, rfl, rfl⟩ (pi_range1 rfl z_range (pa_cons (pe_callB call_len_seq rfl z_len bt_len (pa_cons (pv 5) pa_nil)) pa_nil)) (fun _ _ _ _ => ⟨(pg_name (i := 0) (show List.Nodup (["_law_c", "_law_makes_here"] : List Str) by decide +kernel) rfl (Or.inl rfl)), pif_nil, (pe_callB (r := rLen K) call_len_seq rfl z_len bt_len (pa_cons (pe_ch h__law_fields (hr.mono (by decide)) rfl (pa_cons (pv 1) (pa_cons (pv 0) pa_nil))) pa_nil))⟩)))
      (pss_cons (ps_set (i := 7) sc__law_stand.nd rfl (Or.inl rfl) (pe_ix ix_tup (pe_ix ix_list (pe_ix ix_tup (pv 2) pe_int (fun _ _ => rfl)) (pv 3) (fun _ _ => rfl)) pe_int (fun _ _ => rfl)))
      (pss_cons (ps_set (i := 8) sc__law_stand.nd rfl (Or.inl rfl) (pe_ch h__law_draw (hr.mono (by decide)) rfl (pa_cons (pv 0) (pa_cons (pv 1) pa_nil))))
      (pss_cons (ps_set (i := 9) sc__law_stand.nd rfl (Or.inl rfl) (pe_callTy call_tuple_of rfl z_tuple bt_tuple (pa_cons (pe_lc 1 ["_law_k", "_law_sizes", "_law_script", "_law_at"] [6, 0, 1] ⟨rfl, rfl, rfl, rfl, rfl, rfl, rfl, rfl⟩ (pi_range1 rfl z_range (pa_cons (pe_ix ix_tup (pe_ix ix_list (pe_ix ix_tup (pv 2) pe_int (fun _ _ => rfl)) (pv 3) (fun _ _ => rfl)) pe_int (fun _ _ => rfl)) pa_nil)) (fun _ _ _ _ => ⟨(pg_name (i := 0) (show List.Nodup (["_law_k", "_law_sizes", "_law_script", "_law_at"] : List Str) by decide +kernel) rfl (Or.inl rfl)), pif_nil, (pe_ch h__law_kind (hr.mono (by decide)) rfl (pa_cons (pe_ch h__law_draw (hr.mono (by decide)) rfl (pa_cons (pv 2) (pa_cons (pe_op op_add (pe_op op_add (pv 3) pe_int) (pv 0)) pa_nil))) (pa_cons (pv 1) pa_nil)))⟩)) pa_nil)))
      (pss_cons (ps_setLC (i := 10) sc__law_stand.nd rfl (Or.inl rfl) 1 ["_law_k", "_law_sizes", "_law_script", "_law_at"] [6, 0, 1] ⟨rfl, rfl, rfl, rfl, rfl, rfl, rfl, rfl⟩ (pi_range1 rfl z_range (pa_cons (pe_op op_mod (pv 8) (pe_op op_add (pv 7) pe_int)) pa_nil)) (fun _ _ _ _ => ⟨(pg_name (i := 0) (show List.Nodup (["_law_k", "_law_sizes", "_law_script", "_law_at"] : List Str) by decide +kernel) rfl (Or.inl rfl)), pif_nil, (pe_ch h__law_kind (hr.mono (by decide)) rfl (pa_cons (pe_ch h__law_draw (hr.mono (by decide)) rfl (pa_cons (pv 2) (pa_cons (pe_op op_add (pe_op op_add (pv 3) pe_int) (pv 0)) pa_nil))) (pa_cons (pv 1) pa_nil)))⟩))
      (pss_cons (ps_set (i := 11) sc__law_stand.nd rfl (Or.inr rfl) (pe_ch h__law_asked (hr.mono (by decide)) rfl (pa_cons (pv 2) (pa_cons (pv 3) (pa_cons (pv 4) pa_nil)))))
      (pss_cons (ps_set (i := 10) sc__law_stand.nd rfl (Or.inl rfl) (pe_op op_catS (pv 10) (pe_lc 1 ["_law_k", "_law_makes_here", "_law_sizes", "_law_due", "_law_script", "_law_at"] [5, 6, 11, 0, 1] ⟨rfl, rfl, rfl, rfl, rfl, rfl, rfl, rfl⟩ (pi_range1 rfl z_range (pa_cons (pe_callB call_len_seq rfl z_len bt_len (pa_cons (pv 11) pa_nil)) pa_nil)) (fun _ _ _ _ => ⟨(pg_name (i := 0) (show List.Nodup (["_law_k", "_law_makes_here", "_law_sizes", "_law_due", "_law_script", "_law_at"] : List Str) by decide +kernel) rfl (Or.inl rfl)), pif_nil, (pe_ch h__law_lower (hr.mono (by decide)) rfl (pa_cons (pv 1) (pa_cons (pv 2) (pa_cons (pe_ix (r := rIxL K) ix_list (pv 3) (pv 0) (fun _ _ => rfl)) (pa_cons (pe_ch h__law_draw (hr.mono (by decide)) rfl (pa_cons (pv 4) (pa_cons (pe_op op_add (pe_op op_add (pv 5) pe_int) (pv 0)) pa_nil))) pa_nil)))))⟩))))
      (pss_cons (ps_set (i := 10) sc__law_stand.nd rfl (Or.inl rfl) (pe_slice sl_list (pv 10) (po_some (pe_callB (call_max2 rfl) rfl z_max bt_max (pa_cons pe_int (pa_cons (pe_op op_sub (pe_callB call_len_seq rfl z_len bt_len (pa_cons (pv 10) pa_nil)) (pv 7)) pa_nil)))) po_none))
      (pss_cons (ps_if (PW.pt (pw_and (pt_cmpR op_eq (pe_op op_mod (pe_op op_fdiv (pv 8) pe_int) pe_int) pe_int (nomark _)) (pw_and1 (pt_cmpR op_gt (pe_callB call_len_seq rfl z_len bt_len (pa_cons (pv 10) pa_nil)) pe_int (nomark _))))) (pss_one (ps_asg (pe_ch h__law_kind (hr.mono (by decide)) rfl (pa_cons (pe_op op_fdiv (pv 8) pe_int) (pa_cons (pv 6) pa_nil))) (pg_sub (pv 10) (pe_op op_mod (pe_op op_fdiv (pv 8) pe_int) (pe_callB call_len_seq rfl z_len bt_len (pa_cons (pv 10) pa_nil))) set_list))) pss_nil)
      (pss_cons (ps_if (pt_cmpR op_eq (pe_op op_mod (pe_op op_fdiv (pv 8) pe_int) pe_int) pe_int (nomark _)) (pss_one (ps_set (i := 10) sc__law_stand.nd rfl (Or.inl rfl) (pe_slice sl_list (pv 10) po_none (po_some (pe_op op_sub (pe_callB call_len_seq rfl z_len bt_len (pa_cons (pv 10) pa_nil)) (pe_op op_mod (pe_op op_fdiv (pv 8) pe_int) pe_int)))))) pss_nil)
      (pss_one (ps_ret (pe_tup (pa_cons (pv 9) (pa_cons (pe_callTy call_tuple_of rfl z_tuple bt_tuple (pa_cons (pv 10) pa_nil)) pa_nil)))))))))))))))), ?_⟩
  obtain ⟨b', mk, pl, xs, e, hT, hM, hL, hP⟩ := bk_inv hB
  cases e
  obtain ⟨w0, hw0, hwr⟩ := bk_part hP hp
  obtain ⟨t, l0, l4, l5, ks, vs4, vs5, f1, rfl, hTt, hl0, hk, rg, hl4, hk4, hl5, hk5⟩ := pt_inv hwr
  have hpm : p ∈ ps := List.mem_of_getElem? hp
  have pok := hps p hpm
  have pb := pok.bx
  have ph1 := pok.h1
  have ph8 := pok.h8
  have few := hg.wf.few
  have ne := hg.wf.ne
  have lz := hg.len
  refine ⟨_, rfl, b, _, _, _, rfl, rfl, hT, atI_nat (j := 0) rfl, ?_⟩
  dsimp only [gName]
  refine tSeq_hide (fun R1 k1 => ?_)
  obtain ⟨ys, sB, iB⟩ := id hM
  have lx := iB.1
  refine ⟨_, rfl, mk, ys, rfl, .inl sB, _, rfl, by omega, by omega, fun D hD => ?_⟩
  refine lc_range (lo := 0) (n := ((ys.length : Nat) : Int).toNat) (fun i ws H2 => Same H H2 ∧ H2 D = some (.lst ws) ∧ ws = natsV (zs.take i)) (Nat.le_of_lt (small1000 (by omega))) ⟨same_new hD _, upd_same, rfl⟩ ?_ ?_ ?_
  · rintro i ws H2 ⟨_, e1, rfl⟩
    exact ⟨e1, by simp; omega⟩
  · rintro i ws H2 hi ⟨s2, d2, rfl⟩
    have e0 : (0 + (i : Int)) = ((i : Nat) : Int) := by omega
    rw [e0]
    have him : i < ms.length := by omega
    refine ⟨rfl, ?_⟩
    refine ⟨_, rfl, _, rfl, mk, ms, zs, i, rfl, hM.same s2, hg, him, fun r ks H3 s3 n3 g3 hR => ?_⟩
    refine ⟨r, ks, rfl, .inl (SqL.of g3), s3 _ _ d2, fun c o e => ?_, upd_same, ?_⟩
    · rw [upd_ne (ne_of_none e hD)]
      exact s3 c o (s2 c o e)
    · obtain ⟨z, hz1, hz2⟩ := hg.fields_len i him
      have l1 := hR.1
      rw [List.length_map, hz2] at l1
      have hz : i < zs.length := by omega
      rw [List.getElem?_eq_getElem hz] at hz1
      have hz3 := Option.some.inj hz1
      show _ = List.map _ (zs.take (i + 1))
      rw [List.take_succ_eq_append_getElem hz, List.map_append, hz3, l1]
      rfl
  · rintro ws H2 ⟨s2, d2, rfl⟩
    have ez : zs.take (((ys.length : Nat) : Int).toNat) = zs := List.take_of_length_le (by omega)
    rw [ez] at d2
    refine k1 _ _ ?_
    refine tSeq_hide (fun R2 k2 => ?_)
    refine ⟨_, rfl, b, _, _, _, rfl, rfl, s2.tup hT, atI_nat (j := 1) rfl, _, rfl, pl, _, _, _, rfl, rfl, s2.seq hL, atI_nat hw0, t, _, _, _, rfl, rfl, s2.tup hTt, atI_nat (j := 3) rfl, k2 _ _ ?_⟩
    refine tSeq_hide (fun R3 k3 => ?_)
    refine ⟨_, rfl, _, rfl, a, ns, _, rfl, s2.seq hS, by omega, by omega, fun v0 y0 y1 => k3 _ _ ?_⟩
    refine tSeq_hide (fun R4 k4 => ?_)
    refine ⟨_, rfl, b, _, _, _, rfl, rfl, s2.tup hT, atI_nat (j := 1) rfl, _, rfl, pl, _, _, _, rfl, rfl, s2.seq hL, atI_nat hw0, t, _, _, _, rfl, rfl, s2.tup hTt, atI_nat (j := 2) rfl, _, rfl, by omega, by omega, fun B hB' => ?_⟩
    refine lc_range (lo := 0) (n := ((p.boxes : Nat) : Int).toNat) (fun i ws H3 => Same H2 H3 ∧ H3 B = some (.lst ws) ∧ ws.length = i ∧ KAll K H3 zs ws) (Nat.le_of_lt (small1000 (by omega))) ⟨same_new hB' _, upd_same, rfl, (fun y hy => nomatch hy)⟩ ?_ ?_ ?_
    · rintro i ws H3 ⟨_, e1, e2, _⟩
      exact ⟨e1, by omega⟩
    · rintro i ws H3 hi ⟨s3, d3, e2, hA⟩
      refine ⟨rfl, ?_⟩
      refine ⟨_, rfl, _, rfl, _, _, rfl, rfl, _, rfl, _, _, rfl, rfl, a, ns, _, rfl, (s2.trans s3).seq hS, by omega, by omega, fun v7 q0 q1 => ?_⟩
      refine ⟨_, rfl, D, zs, _, rfl, SqL.of (s3 _ _ d2), q0, by omega, hg.six, fun k u H4 hk s4 hu => ?_⟩
      have d4 := s4 _ _ d3
      refine ⟨d4, fun c o e => ?_, upd_same, by simp [e2], ((hA.same s4).snoc (SqT.of hu) hk).updL d4⟩
      rw [upd_ne (ne_of_none e hB')]
      exact s4 c o (s3 c o e)
    · rintro bws H3 ⟨s3, d3, e2, hBA⟩
      have S3 := s2.trans s3
      refine ⟨B, bws, rfl, .inl ⟨SqL.of d3, fun bt nbt => k4 _ _ ?_⟩⟩
      have u1 := same_new nbt (.tup bws)
      have gb := upd_same (H := H3) (a := bt) (o := .tup bws)
      have S4 := S3.trans u1
      have BA4 := hBA.same u1
      have D4 := u1 _ _ (s3 _ _ d2)
      generalize upd H3 bt (.tup bws) = H4 at u1 gb S4 BA4 D4 ⊢
      obtain ⟨n0, hn1, hn2⟩ := modN (e := v0) (n := p.height + 1) (by omega)
      have hn1' : v0 % ((p.height : Int) + 1) = (n0 : Int) := hn1
      refine tSeq_hide (fun R5 k5 => ?_)
      refine ⟨_, rfl, _, rfl, _, _, rfl, rfl, _, _, rfl, rfl, (by show (0 : Int) < (p.height : Int) + 1; omega), ?_⟩
      refine ⟨_, rfl, by show -(2 ^ 62 : Int) ≤ v0 % ((p.height : Int) + 1); omega, by show v0 % ((p.height : Int) + 1) < (2 ^ 62 : Int); omega, fun T hT' => ?_⟩
      refine lc_range (lo := 0) (n := (v0 % ((p.height : Int) + 1)).toNat) (fun i ws H5 => Same H4 H5 ∧ H5 T = some (.lst ws) ∧ ws.length = i ∧ KAll K H5 zs ws) (Nat.le_of_lt (small1000 (by omega))) ⟨same_new hT' _, upd_same, rfl, (fun y hy => nomatch hy)⟩ ?_ ?_ ?_
      · rintro i ws H5 ⟨_, e1, e2, _⟩
        exact ⟨e1, by omega⟩
      · rintro i ws H5 hi ⟨s5, d5, e2, hA⟩
        refine ⟨rfl, ?_⟩
        refine ⟨_, rfl, _, rfl, _, _, rfl, rfl, _, rfl, _, _, rfl, rfl, a, ns, _, rfl, (S4.trans s5).seq hS, by omega, by omega, fun v7 q0 q1 => ?_⟩
        refine ⟨_, rfl, D, zs, _, rfl, SqL.of (s5 _ _ D4), q0, by omega, hg.six, fun k u H6 hk s6 hu => ?_⟩
        have d6 := s6 _ _ d5
        refine ⟨d6, fun c o e => ?_, upd_same, by simp [e2], ((hA.same s6).snoc (SqT.of hu) hk).updL d6⟩
        rw [upd_ne (ne_of_none e hT')]
        exact s6 c o (s5 c o e)
      · rintro tws H5 ⟨s5, d5, lt5, hTA⟩
        have S5 := S4.trans s5
        refine k5 _ _ ?_
        refine tSeq_hide (fun R6 k6 => ?_)
        refine ⟨_, rfl, _, rfl, _, rfl, b, ms, zs, ps, j, p, rt, r, rfl, hB.same S5, hg, hp, S5.tup hR, hok, fun da ds H6 s6 hDa hDs => k6 _ _ ?_⟩
        have lds := hDs.1
        rw [List.length_map] at lds
        have l8 := ask_few (ms := ms) (p := p) (r := r) hps
        have DK := KIt.ofRd hDs
        have aok := ask_ok hg hps hpm hok
        have S6 := S5.trans s6
        refine tSeq_hide (fun R7 k7 => ?_)
        refine ⟨_, rfl, _, rfl, da, ds, rfl, .inl hDa, _, rfl, by omega, by omega, fun C hC => ?_⟩
        refine lc_range (lo := 0) (n := ((ds.length : Nat) : Int).toNat) (fun i ws H7 => Same H6 H7 ∧ H7 C = some (.lst ws) ∧ ws.length = i ∧ KAll K H7 zs ws) (Nat.le_of_lt (small1000 (by omega))) ⟨same_new hC _, upd_same, rfl, (fun y hy => nomatch hy)⟩ ?_ ?_ ?_
        · rintro i ws H7 ⟨_, e1, e2, _⟩
          exact ⟨e1, by omega⟩
        · rintro i ws H7 hi ⟨s7, d7, e2, hA⟩
          have e0 : (0 + (i : Int)) = ((i : Nat) : Int) := by omega
          rw [e0]
          have S7 := S6.trans s7
          have hid : i < ds.length := by omega
          obtain ⟨k, hk1, t1, hk2, hk3⟩ := KIt.at DK (List.getElem?_eq_getElem hid)
          have x1 : ds[i]? = some (.ref t1) := by rw [List.getElem?_eq_getElem hid, hk2]
          refine ⟨rfl, ?_⟩
          refine ⟨_, rfl, _, rfl, _, rfl, _, rfl, da, ds, _, _, rfl, rfl, s7.seq hDa, atI_nat x1, _, rfl, _, rfl, _, _, rfl, rfl, _, rfl, _, _, rfl, rfl, a, ns, _, rfl, S7.seq hS, by omega, by omega, fun v7 q0 q1 => ?_⟩
          refine ⟨mk, ms, D, zs, t1, k, v7, rfl, hM.same S7, hg, SqL.of (s7 _ _ (s6 _ _ (s5 _ _ D4))), s7.tup hk3, aok k (List.mem_of_getElem? hk1), q0, fun k' u H8 hk' s8 hu => ?_⟩
          have d8 := s8 _ _ d7
          refine ⟨d8, fun c o e => ?_, upd_same, by simp [e2], ((hA.same s8).snoc hu hk').updL d8⟩
          rw [upd_ne (ne_of_none e hC)]
          exact s8 c o (s7 c o e)
        · rintro cws H7 ⟨s7, d7, lc7, hCA⟩
          have S7 := S6.trans s7
          refine ⟨T, C, tws, cws, rfl, rfl, SqL.of (s7 _ _ (s6 _ _ d5)), SqL.of d7, Nat.le_of_lt (small1000 (by omega)), fun E hE => k7 _ _ ?_⟩
          have u8 := same_new hE (.lst (tws ++ cws))
          have S8 := S7.trans u8
          have gE := upd_same (H := H7) (a := E) (o := .lst (tws ++ cws))
          have EA : KAll K (upd H7 E (.lst (tws ++ cws))) zs (tws ++ cws) := fun y hy => by
            rcases List.mem_append.mp hy with z | z
            · exact (hTA.same (s6.trans (s7.trans u8))) y z
            · exact (hCA.same u8) y z
          have gb8 := u8 _ _ (s7 _ _ (s6 _ _ (s5 _ _ gb)))
          have BA8 := BA4.same (s5.trans (s6.trans (s7.trans u8)))
          have D8 := u8 _ _ (s7 _ _ (s6 _ _ (s5 _ _ D4)))
          have lE : (tws ++ cws).length ≤ 40 := by rw [List.length_append]; omega
          generalize upd H7 E (.lst (tws ++ cws)) = H8 at S8 gE EA gb8 BA8 D8 ⊢
          generalize tws ++ cws = ews at gE EA lE
          refine tSeq_hide (fun R8 k8 => ?_)
          refine ⟨_, rfl, _, rfl, E, ews, rfl, .inl (SqL.of gE), _, rfl, _, _, rfl, rfl, _, _, rfl, _, rfl, E, ews, rfl, SqL.of gE, fun F hF => k8 _ _ ?_⟩
          generalize hcut : cutV ews (some (if ((ews.length : Nat) : Int) - (p.height : Int) > 0 then ((ews.length : Nat) : Int) - (p.height : Int) else 0)) none = fws
          have lf : fws.length ≤ 40 := by rw [← hcut]; exact Nat.le_trans (cutV_length ..) lE
          have FA0 : KAll K H8 zs fws := fun y hy => EA y (by rw [← hcut] at hy; exact cut_sub y hy)
          have u9 := same_new hF (.lst fws)
          have nF : H F = none := S8.free hF
          have S9 := S8.trans u9
          have gF := upd_same (H := H8) (a := F) (o := .lst fws)
          have FA := FA0.same u9
          have gb9 := u9 _ _ gb8
          have BA9 := BA8.same u9
          have D9 := u9 _ _ D8
          generalize upd H8 F (.lst fws) = H9 at S9 gF FA gb9 BA9 D9 ⊢
          refine tSeq_hide (fun R9 k9 => ?_)
          refine cutR (R := ?R) (fun σ' H' => ∃ gws : List V, gws.length ≤ 40 ∧ Same H H' ∧ H' F = some (.lst gws) ∧ KAll K H' zs gws ∧ H' bt = some (.tup bws) ∧ KAll K H' zs bws ∧ σ' = [some (.ref a), some (.int at'), some (.ref b), some (.int (j : Int)), some (.ref rt), some (.ref mk), some (.ref D), some (.int (p.height : Int)), some (.int v0), some (.ref bt), some (.ref F), some (.ref da)]) (fun kk => ?mm) ?kk
          case mm =>
            refine ⟨_, rfl, _, _, rfl, rfl, ⟨by decide, by decide⟩, _, _, rfl, rfl, (by show (0 : Int) < 4; decide), rfl, _, rfl, ite2 (fun y1 => ?_) (fun y1 => ?_)⟩
            · refine ⟨_, rfl, F, fws, rfl, .inl (SqL.of gF), _, _, rfl, rfl, _, rfl, ite2 (fun y2 => ?_) (fun y2 => ?_)⟩
              rotate_left
              · dsimp only [tNext]
                exact kk _ _ ⟨fws, lf, S9, gF, FA, gb9, BA9, rfl⟩
              · have y2' : (0 : Int) < ((fws.length : Nat) : Int) := of_decide_eq_true y2
                obtain ⟨ix, hx1, hx2⟩ := modN (e := v0 / 36) (n := fws.length) (by omega)
                refine ⟨_, rfl, _, _, rfl, rfl, ⟨by decide, by decide⟩, _, rfl, D, zs, _, rfl, SqL.of D9, (by show (0 : Int) ≤ v0 / 288; omega), by omega, hg.six, fun k u HA hk sA hu => ?_⟩
                have gA := sA _ _ gF
                refine ⟨_, rfl, _, rfl, _, _, rfl, rfl, ⟨by decide, by decide⟩, _, rfl, F, fws, rfl, .inl (SqL.of gA), _, _, rfl, rfl, y2', F, fws, _, ix, rfl, rfl, gA, ?_, ?_⟩
                · show ixN fws.length (v0 / 36 % ((fws.length : Nat) : Int)) = some ix
                  rw [hx1]
                  exact ixN_nat hx2
                · refine kk _ _ ⟨fws.set ix (.ref u), by rw [List.length_set]; exact lf, fun c o e => ?_, upd_same, ?_, ?_, (BA9.same sA).updL gA, rfl⟩
                  · rw [upd_ne (ne_of_none e nF)]
                    exact sA c o (S9 c o e)
                  · intro y hy
                    rcases List.mem_or_eq_of_mem_set hy with z | z
                    · exact ((FA.same sA).updL gA) y z
                    · subst z
                      exact ⟨k, ⟨u, rfl, tup_upd (SqT.of hu) gA⟩, hk⟩
                  · have nb : bt ≠ F := fun e => by subst e; rw [gF] at gb9; cases gb9
                    rw [upd_ne nb]
                    exact sA _ _ gb9
            · refine iteF ?_
              dsimp only [tNext]
              exact kk _ _ ⟨fws, lf, S9, gF, FA, gb9, BA9, rfl⟩
          rintro σ' HB ⟨gws, lg, SB, gG, GA, gbB, BAB, rfl⟩
          refine k9 _ _ ?_
          refine tSeq_hide (fun R10 k10 => ?_)
          refine cutR (R := ?R2) (fun σ' H' => ∃ (G : Addr) (gws : List V), gws.length ≤ 40 ∧ Same H H' ∧ H' G = some (.lst gws) ∧ KAll K H' zs gws ∧ H' bt = some (.tup bws) ∧ KAll K H' zs bws ∧ σ' = [some (.ref a), some (.int at'), some (.ref b), some (.int (j : Int)), some (.ref rt), some (.ref mk), some (.ref D), some (.int (p.height : Int)), some (.int v0), some (.ref bt), some (.ref G), some (.ref da)]) (fun kk => ?mm2) ?kk2
          case mm2 =>
            refine ⟨_, rfl, _, _, rfl, rfl, ⟨by decide, by decide⟩, _, _, rfl, rfl, (by show (0 : Int) < 4; decide), rfl, _, rfl, ite2 (fun y1 => ?_) (fun y1 => ?_)⟩
            rotate_left
            · dsimp only [tNext]
              exact kk _ _ ⟨F, gws, lg, SB, gG, GA, gbB, BAB, rfl⟩
            · refine ⟨_, rfl, _, rfl, F, gws, rfl, .inl (SqL.of gG), _, rfl, _, _, rfl, rfl, ⟨by decide, by decide⟩, _, _, rfl, rfl, (by show (0 : Int) < 3; decide), _, _, rfl, rfl, _, rfl, F, gws, rfl, SqL.of gG, fun G hG => ?_⟩
              have w1 := same_new hG (.lst (cutV gws none (some (((gws.length : Nat) : Int) - v0 / 36 % 3))))
              exact kk _ _ ⟨G, _, Nat.le_trans (cutV_length ..) lg, SB.trans w1, upd_same, (fun y hy => (GA.same w1) y (cut_sub y hy)), w1 _ _ gbB, BAB.same w1, rfl⟩
          rintro σ' HC ⟨G, hws, lh, SC, gH, HA, gbC, BAC, rfl⟩
          refine k10 _ _ ?_
          refine ⟨_, rfl, _, rfl, G, hws, rfl, .inl ⟨SqL.of gH, fun st nst => ⟨(by show 2 ≤ sizeLine; decide), fun tt ntt => ?_⟩⟩⟩
          have w1 := same_new nst (.tup hws)
          have w2 := same_new ntt (.tup [.ref bt, .ref st])
          have W := w1.trans w2
          obtain ⟨bks, hb1, hb2⟩ := (BAC.same W).list
          obtain ⟨sks, hs1, hs2⟩ := (HA.same W).list
          refine q tt bks sks _ (SC.trans W) ?_ (by rw [← hb1.1, e2]; omega) (by rw [← hs1.1]; omega) hs2
          exact .tup' (SqT.of upd_same) (.cons (.tup' (SqT.of (W _ _ gbC)) hb1.rd) (.cons (.tup' (SqT.of (w2 _ _ upd_same)) hs1.rd) .nil))
theorem sc__law_put_there : FnScope ["_law_book_here", "_law_row_here", "_law_boxes", "_law_top", "_law_sign", "_law_bits"] ["_law_book_here", "_law_row_here", "_law_boxes", "_law_top"] (defScope s_law_put_there) := ⟨rfl, rfl, rfl, by decide +kernel, rfl, by decide +kernel, by decide +kernel⟩
theorem ok__law_put_there {f : Addr} {fd : FuncData} (F : Fun K "_law_put_there" "_law_put_there" s_law_put_there f fd) (h__law_fields : Has P w K mg base CX0 "_law_fields" 2 ["_law_makes_here", "_law_c"] (sp_law_fields K)) : FnOk P w K mg base CX0 3 f fd ["_law_book_here", "_law_row_here", "_law_boxes", "_law_top"] (sp_law_put_there K) := by
  refine F.ok sc__law_put_there (fun vs H Q E h => ?_) (fun cdv A outer s H vs Q E hr h => ?_)
  · obtain ⟨b, rt, bt, tt, ms, zs, ps, p, r, bx, tk, bs, ts, rfl, hB, hg, hR, hok, hb, hBK, lb, hT, hK, htk, q⟩ := h
    rfl
  obtain ⟨b, rt, bt, tt, ms, zs, ps, p, r, bx, tk, bs, ts, rfl, hB, hg, hR, hok, hb, hBK, lb, hT, hK, htk, q⟩ := h
  refine ⟨_, (pss_cons (ps_set (i := 4) sc__law_put_there.nd rfl (Or.inl rfl) (pe_ix ix_tup (pv 1) pe_int (fun _ _ => rfl)))
      (pss_cons (ps_if (pt_cmpR op_eq (pv 4) pe_str (nomark _)) (pss_one (ps_ret (pe_tup (pa_cons (pe_ix ix_tup (pv 2) (pe_ix ix_tup (pv 1) pe_int (fun _ _ => rfl)) (fun _ _ => rfl)) pa_nil)))) pss_nil)
      (pss_cons (ps_if (pt_cmpR op_in_seq (pv 4) (pe_tup (pa_cons pe_str (pa_cons pe_str pa_nil))) rfl) (pss_one (ps_ret (pe_tup (pa_cons (pe_ix ix_tup (pv 3) (pe_un un_neg pe_int) (fun _ _ => rfl)) (pa_cons (pe_ix ix_tup (pv 3) pe_int (fun _ _ => rfl)) pa_nil))))) pss_nil)
      (pss_cons (ps_if (pt_cmpR op_eq (pv 4) pe_str (nomark _)) (pss_one (ps_ret (pv 3))) pss_nil)
      (pss_cons (ps_if (pt_cmpR op_eq (pv 4) pe_str (nomark _)) (pss_one (ps_ret (pe_tup (pa_cons (pe_tup (pa_cons pe_str (pa_cons (pe_ix ix_tup (pv 1) pe_int (fun _ _ => rfl)) (pa_cons pe_int pa_nil)))) pa_nil)))) pss_nil)
      (pss_cons (ps_if (pt_cmpR op_eq (pv 4) pe_str (nomark _)) (pss_cons (ps_set (i := 5) sc__law_put_there.nd rfl (Or.inl rfl) (pe_ix ix_tup (pe_ix ix_tup (pv 3) pe_int (fun _ _ => rfl)) pe_int (fun _ _ => rfl)))
      (pss_cons (ps_if (pt_cmpR op_eq (pe_op op_mod (pe_op op_fdiv (pv 5) (pe_op op_shl pe_int (pe_ix ix_tup (pv 1) pe_int (fun _ _ => rfl)))) pe_int) pe_int (nomark _)) (pss_one (ps_set (i := 5) sc__law_put_there.nd rfl (Or.inl rfl) (pe_op op_add (pv 5) (pe_op op_shl pe_int (pe_ix ix_tup (pv 1) pe_int (fun _ _ => rfl)))))) pss_nil)
      (pss_one (ps_ret (pe_tup (pa_cons (pe_tup (pa_cons pe_str (pa_cons (pe_ix ix_tup (pv 1) pe_int (fun _ _ => rfl)) (pa_cons (pv 5) pa_nil)))) pa_nil)))))) pss_nil)
      (pss_cons (ps_if (pt_cmpR op_eq (pv 4) pe_str (nomark _)) (pss_one (ps_ret (pe_tup (pa_cons (pe_tup (pa_cons pe_str (pa_cons (pe_ix ix_tup (pv 1) pe_int (fun _ _ => rfl)) pa_nil))) pa_nil)))) pss_nil)
      (pss_cons (ps_if (pt_cmpR op_eq (pv 4) pe_str (nomark _)) (pss_one (ps_ret (pe_tup (pa_cons (pe_ix ix_list (pe_ch h__law_fields (hr.mono (by decide)) rfl (pa_cons (pe_ix ix_tup (pv 0) pe_int (fun _ _ => rfl)) (pa_cons (pe_ix ix_tup (pv 1) pe_int (fun _ _ => rfl)) pa_nil))) (pe_ix ix_tup (pv 1) pe_int (fun _ _ => rfl)) (fun _ _ => rfl)) pa_nil)))) pss_nil)
      (pss_cons (ps_if (pt_cmpR op_eq (pv 4) pe_str (nomark _)) (pss_one (ps_ret (pe_tup (pa_cons (pe_ix ix_tup (pe_ix ix_list (pe_ix ix_tup (pv 0) pe_int (fun _ _ => rfl)) (pe_ix ix_tup (pv 1) pe_int (fun _ _ => rfl)) (fun _ _ => rfl)) pe_int (fun _ _ => rfl)) pa_nil)))) pss_nil)
      (pss_cons (ps_if (pt_cmpR op_in_seq (pv 4) (pe_tup (pa_cons pe_str (pa_cons pe_str (pa_cons pe_str (pa_cons pe_str (pa_cons pe_str (pa_cons pe_str (pa_cons pe_str (pa_cons pe_str pa_nil))))))))) rfl) (pss_one (ps_ret (pe_tup pa_nil))) pss_nil)
      (pss_one (ps_ret (pe_tup (pa_cons (pe_tup (pa_cons pe_str pa_nil)) pa_nil)))))))))))))), ?_⟩
  obtain ⟨b', mk, pl, xs, e, hBT, hM, hL, hP⟩ := bk_inv hB
  cases e
  refine ⟨_, rfl, rt, _, _, _, rfl, rfl, hR, atI_nat (j := 0) rfl, ?_⟩
  dsimp only [gName]
  refine tSeq_hide (fun R kk => ?_)
  refine ⟨_, rfl, rfl, _, rfl, stepS (fun z => ?_) (fun z1 => kk _ _ ?_)⟩
  · obtain ⟨w, rfl⟩ := is_load hok z
    have hw : w < p.boxes := hok
    obtain ⟨y, hy, hyk⟩ := hBK.item (i := w) (by omega)
    refine ⟨_, rfl, _, rfl, rt, _, _, _, rfl, rfl, hR, atI_nat (j := 1) rfl, bt, _, _, _, rfl, rfl, hb, atI_nat hy, (by show 1 ≤ sizeLine; decide), fun u hu => ?_⟩
    have s1 := same_new hu (.tup [y])
    exact q u _ _ s1 (SqT.of upd_same) (.mk1 (hyk.same s1))
  clear kk R
  refine tSeq_hide (fun R kk => ?_)
  refine ⟨_, rfl, (by show 2 ≤ sizeLine; decide), fun t9 h9 => ⟨t9, _, rfl, .inr (SqT.of upd_same), rfl, rfl, _, rfl, ?_⟩⟩
  have u9 := same_new h9 (.tup [.str "dup", .str "swap"])
  generalize upd H t9 _ = H9 at u9 ⊢
  show if (inV (.str (rwS r)) ((["dup", "swap"] : List Str).map V.str)) = true then _ else _
  refine stepL (fun z => ?_) (fun z2 => kk _ _ ?_)
  · have er := is_bare hok ((by decide +kernel : ∀ s ∈ (["dup", "swap"] : List Str), s ∈ bareL) _ z)
    rcases (by decide +kernel : ∀ s ∈ (["dup", "swap"] : List Str), s = "dup" ∨ s = "swap") _ z with e | e
    · rw [e] at er
      subst er
      have l1 := htk.len
      have l2 : (askK ms ps p (.bare "dup")).length = 1 := by rw [ask_l1 (zs := zs) hok (by show ("dup" : Str) ∈ _; decide +kernel)]; rfl
      have l3 := hK.1
      obtain ⟨y, hy, hyk⟩ := hK.item (i := 0) (by omega)
      refine ⟨_, rfl, _, rfl, tt, _, _, _, rfl, rfl, u9.tup hT, atI_last (n := 0) (by omega) hy, _, rfl, tt, _, _, _, rfl, rfl, u9.tup hT, atI_nat (j := 0) hy, (by show 2 ≤ sizeLine; decide), fun u hu => ?_⟩
      have s1 := u9.trans (same_new hu (.tup [y, y]))
      exact q u _ _ s1 (SqT.of upd_same) (.mk2 (hyk.same s1) (hyk.same s1))
    · rw [e] at er
      subst er
      have l1 := htk.len
      have l2 : (askK ms ps p (.bare "swap")).length = 2 := by rw [ask_l2 (zs := zs) hok rfl]; rfl
      have l3 := hK.1
      obtain ⟨y, hy, hyk⟩ := hK.item (i := 0) (by omega)
      obtain ⟨y', hy', hyk'⟩ := hK.item (i := 1) (by omega)
      refine ⟨_, rfl, _, rfl, tt, _, _, _, rfl, rfl, u9.tup hT, atI_last (n := 1) (by omega) hy', _, rfl, tt, _, _, _, rfl, rfl, u9.tup hT, atI_nat (j := 0) hy, (by show 2 ≤ sizeLine; decide), fun u hu => ?_⟩
      have s1 := u9.trans (same_new hu (.tup [y', y]))
      exact q u _ _ s1 (SqT.of upd_same) (.mk2 (hyk'.same s1) (hyk.same s1))
  clear kk R
  refine tSeq_hide (fun R kk => ?_)
  refine ⟨_, rfl, rfl, _, rfl, stepS (fun z => ?_) (fun z4 => kk _ _ ?_)⟩
  · obtain ⟨c, w, rfl⟩ := is_kin hok z
    have l1 : tk.length = 1 := htk.len
    refine ⟨_, rfl, q tt ts H9 u9 (u9.tup hT) ?_⟩
    have ek : putK ms ps bx tk (.kin c w) = tk := by
      show [(tk[0]?).getD Kd.any] = tk
      obtain ⟨k0, rfl⟩ := ex1 l1
      rfl
    rw [ek]
    exact hK.same u9
  clear kk R
  refine tSeq_hide (fun R kk => ?_)
  refine ⟨_, rfl, rfl, _, rfl, stepS (fun z => ?_) (fun z5 => kk _ _ ?_)⟩
  · obtain ⟨c, rfl⟩ := is_make hok z
    refine ⟨_, rfl, rt, _, _, _, rfl, rfl, u9.tup hR, atI_nat (j := 1) rfl, (by show 3 ≤ sizeLine; decide), fun u hu => ⟨(by show 1 ≤ sizeLine; decide), fun w hw => ?_⟩⟩
    have s1 := same_new hu (.tup [.str "raw", .int (c : Int), .int 0])
    have s2 := same_new hw (.tup [.ref u])
    exact q w _ _ (u9.trans (s1.trans s2)) (SqT.of upd_same) (.mk1 ⟨u, rfl, s2.tup (SqT.of upd_same)⟩)
  clear kk R
  refine tSeq_hide (fun R kk => ?_)
  refine ⟨_, rfl, rfl, _, rfl, stepS (fun z => ?_) (fun z6 => kk _ _ ?_)⟩
  · obtain ⟨c, f, rfl⟩ := is_fill hok z
    obtain ⟨z', hz, hf⟩ : ∃ z, zs[c]? = some z ∧ f < z := hok
    have h6 := hg.six z' (List.mem_of_getElem? hz)
    obtain ⟨m, hm⟩ := htk.fill c f rfl
    obtain ⟨y, hy, hyk⟩ := hK.item (i := 0) (List.getElem?_eq_some_iff.mp hm).1
    rw [hm] at hyk
    obtain ⟨yt, rfl, hyt⟩ := hyk
    have ep : putK ms ps bx tk (.fill c f) = [.raw c (m ||| 2 ^ f)] := by
      show [Kd.raw c (bitsOf ((tk[0]?).getD .any) ||| 2 ^ f)] = _
      rw [hm]
      rfl
    rw [ep] at q
    refine ⟨_, rfl, tt, _, _, _, rfl, rfl, u9.tup hT, atI_nat (j := 0) hy, yt, _, _, _, rfl, rfl, u9.tup hyt, atI_nat (j := 2) rfl, ?_⟩
    dsimp only [gName]
    have tw : (1 : Int) * 2 ^ ((f : Nat) : Int).toNat = ((2 ^ f : Nat) : Int) := by rw [Int.toNat_natCast, Int.one_mul]; simp
    have twl : 2 ^ f ≤ 2 ^ 6 := Nat.pow_le_pow_right (by decide) (by omega)
    have twp := Nat.two_pow_pos f
    refine tSeq_hide (fun R2 k2 => ?_)
    have fin : ∀ (n : Nat), n = m ||| 2 ^ f → R2 [some (.ref b), some (.ref rt), some (.ref bt), some (.ref tt), some (.str "fill"), some (.int (n : Int))] H9 := fun n hn => k2 _ _ (by
      subst hn
      refine ⟨_, rfl, rt, _, _, _, rfl, rfl, u9.tup hR, atI_nat (j := 1) rfl, _, rfl, (by show 3 ≤ sizeLine; decide), fun u hu => ⟨(by show 1 ≤ sizeLine; decide), fun w hw => ?_⟩⟩
      have s1 := same_new hu (.tup [.str "raw", .int (c : Int), .int ((m ||| 2 ^ f : Nat) : Int)])
      have s2 := same_new hw (.tup [.ref u])
      exact q w _ _ (u9.trans (s1.trans s2)) (SqT.of upd_same) (.mk1 ⟨u, rfl, s2.tup (SqT.of upd_same)⟩))
    clear k2
    refine ⟨_, rfl, _, rfl, rt, _, _, _, rfl, rfl, u9.tup hR, atI_nat (j := 2) rfl, _, _, rfl, rfl, ⟨by omega, by omega, by decide⟩, _, _, rfl, rfl, ⟨by rw [tw]; omega, by rw [tw]; omega⟩, _, _, rfl, rfl, (by show (0 : Int) < 2; decide), rfl, _, rfl, ite2 (fun y => ?_) (fun y => ?_)⟩
    · have y' : (m : Int) / (1 * 2 ^ ((f : Nat) : Int).toNat) % 2 = 0 := V.int.inj (of_decide_eq_true y)
      rw [bit_int] at y'
      refine ⟨_, rfl, _, rfl, rt, _, _, _, rfl, rfl, u9.tup hR, atI_nat (j := 2) rfl, _, _, rfl, rfl, ⟨by omega, by omega, by decide⟩, _, _, rfl, rfl, ?_⟩
      have z := fin (m + 2 ^ f) (bit_add (by omega)).symm
      have ez : ((m + 2 ^ f : Nat) : Int) = (m : Int) + 1 * 2 ^ ((f : Nat) : Int).toNat := by rw [tw]; omega
      rw [ez] at z
      exact z
    · have y' : ¬ (m : Int) / (1 * 2 ^ ((f : Nat) : Int).toNat) % 2 = 0 := fun e => y (decide_eq_true (congrArg V.int e))
      rw [bit_int] at y'
      dsimp only [tNext]
      exact fin m (bit_had (by omega)).symm
  clear kk R
  refine tSeq_hide (fun R kk => ?_)
  refine ⟨_, rfl, rfl, _, rfl, stepS (fun z => ?_) (fun z7 => kk _ _ ?_)⟩
  · obtain ⟨c, rfl⟩ := is_beg hok z
    refine ⟨_, rfl, rt, _, _, _, rfl, rfl, u9.tup hR, atI_nat (j := 1) rfl, (by show 2 ≤ sizeLine; decide), fun u hu => ⟨(by show 1 ≤ sizeLine; decide), fun w hw => ?_⟩⟩
    have s1 := same_new hu (.tup [.str "whole", .int (c : Int)])
    have s2 := same_new hw (.tup [.ref u])
    exact q w _ _ (u9.trans (s1.trans s2)) (SqT.of upd_same) (.mk1 ⟨u, rfl, s2.tup (SqT.of upd_same)⟩)
  clear kk R
  refine tSeq_hide (fun R kk => ?_)
  refine ⟨_, rfl, rfl, _, rfl, stepS (fun z => ?_) (fun z8 => kk _ _ ?_)⟩
  · obtain ⟨c, f, rfl⟩ := is_get hok z
    obtain ⟨z', hz, hf⟩ : ∃ z, zs[c]? = some z ∧ f < z := hok
    have hc : c < ms.length := by rw [hg.len]; exact (List.getElem?_eq_some_iff.mp hz).1
    obtain ⟨z2, hz2, e2⟩ := hg.fields_len c hc
    rw [hz] at hz2
    cases hz2
    refine ⟨_, rfl, b, _, _, _, rfl, rfl, u9.tup hBT, atI_nat (j := 0) rfl, _, rfl, rt, _, _, _, rfl, rfl, u9.tup hR, atI_nat (j := 1) rfl, mk, ms, zs, c, rfl, hM.same u9, hg, hc, fun r2 ks2 H2 s2 n2 g2 hR2 => ?_⟩
    have hK2 := KIt.ofRd hR2
    obtain ⟨y, hy, hyk⟩ := hK2.item (i := f) (by omega)
    refine ⟨_, rfl, rt, _, _, _, rfl, rfl, (u9.trans s2).tup hR, atI_nat (j := 2) rfl, r2, ks2, _, _, rfl, rfl, SqL.of g2, atI_nat hy, (by show 1 ≤ sizeLine; decide), fun w hw => ?_⟩
    have s3 := same_new hw (.tup [y])
    exact q w _ _ (u9.trans (s2.trans s3)) (SqT.of upd_same) (.mk1 (hyk.same (s2.trans s3)))
  clear kk R
  refine tSeq_hide (fun R kk => ?_)
  refine ⟨_, rfl, rfl, _, rfl, stepS (fun z => ?_) (fun z9 => kk _ _ ?_)⟩
  · obtain ⟨w, rfl⟩ := is_call hok z
    have hq : w < ps.length := hok
    obtain ⟨v, hv, hvr⟩ := bk_part hP (List.getElem?_eq_getElem hq)
    obtain ⟨t, l0, l4, l5, ks, vs4, vs5, f1, rfl, hTt, hl0, hk, rg, hl4, hk4, hl5, hk5⟩ := pt_inv hvr
    refine ⟨_, rfl, b, _, _, _, rfl, rfl, u9.tup hBT, atI_nat (j := 1) rfl, _, rfl, rt, _, _, _, rfl, rfl, u9.tup hR, atI_nat (j := 1) rfl, pl, _, _, _, rfl, rfl, u9.seq hL, atI_nat hv, t, _, _, _, rfl, rfl, u9.tup hTt, atI_nat (j := 1) rfl, (by show 1 ≤ sizeLine; decide), fun u hu => ?_⟩
    have s1 := u9.trans (same_new hu (.tup [f1]))
    have e : putK ms ps bx tk (.call w) = [ps[w].gives] := by
      show [((ps[w]?).map Pt.gives).getD .any] = _
      rw [List.getElem?_eq_getElem hq]
      rfl
    rw [e] at q
    exact q u _ _ s1 (SqT.of upd_same) (.mk1 ((kd_inv rg).same s1))
  clear kk R
  refine tSeq_hide (fun R kk => ?_)
  refine ⟨_, rfl, (by show 8 ≤ sizeLine; decide), fun t8 h8 => ⟨t8, _, rfl, .inr (SqT.of upd_same), rfl, rfl, _, rfl, ?_⟩⟩
  have u8 := u9.trans (same_new h8 (.tup (nothL.map V.str)))
  change Same H (upd H9 t8 (.tup [.str "store", .str "drop", .str "jump", .str "zero", .str "put", .str "toss", .str "say", .str "give"])) at u8
  generalize upd H9 t8 _ = H8 at u8 ⊢
  show if (inV (.str (rwS r)) (nothL.map V.str)) = true then _ else _
  refine stepL (fun z => ?_) (fun z10 => kk _ _ ?_)
  · rw [put_noth hok z] at q
    refine ⟨(by show 0 ≤ sizeLine; decide), fun w hw => ?_⟩
    exact q w _ _ (u8.trans (same_new hw (.tup []))) (SqT.of upd_same) (KIt.nil K _)
  clear kk R
  rw [put_num hok z1 z2 z4 z5 z6 z7 z8 z9 z10] at q
  refine ⟨(by show 1 ≤ sizeLine; decide), fun u hu => ⟨(by show 1 ≤ sizeLine; decide), fun w hw => ?_⟩⟩
  have s1 := same_new hu (.tup [.str "number"])
  have s2 := same_new hw (.tup [.ref u])
  exact q w _ _ (u8.trans (s1.trans s2)) (SqT.of upd_same) (.mk1 ⟨u, rfl, s2.tup (SqT.of upd_same)⟩)
theorem sc__law_next : FnScope ["_law_book_here", "_law_part_here", "_law_row_here", "_law_stand_here", "_law_boxes", "_law_stack", "_law_low", "_law_top"] ["_law_book_here", "_law_part_here", "_law_row_here", "_law_stand_here"] (defScope s_law_next) := ⟨rfl, rfl, rfl, by decide +kernel, rfl, by decide +kernel, by decide +kernel⟩
theorem ok__law_next {f : Addr} {fd : FuncData} (F : Fun K "_law_next" "_law_next" s_law_next f fd) (z_len : mg "len" = none) (h__law_asked : Has P w K mg base CX0 "_law_asked" 3 ["_law_book_here", "_law_part_here", "_law_row_here"] (sp_law_asked K)) (h__law_put_there : Has P w K mg base CX0 "_law_put_there" 3 ["_law_book_here", "_law_row_here", "_law_boxes", "_law_top"] (sp_law_put_there K)) : FnOk P w K mg base CX0 4 f fd ["_law_book_here", "_law_part_here", "_law_row_here", "_law_stand_here"] (sp_law_next K) := by
  refine F.ok sc__law_next (fun vs H Q E h => ?_) (fun cdv A outer s H vs Q E hr h => ?_)
  · obtain ⟨b, ms, zs, ps, j, p, rt, r, v, bx, st, n, rfl, hB, hg, hp, hR, hok, hv, lb, h8, h50, hn, htk, q⟩ := h
    rfl
  obtain ⟨b, ms, zs, ps, j, p, rt, r, v, bx, st, n, rfl, hB, hg, hp, hR, hok, hv, lb, h8, h50, hn, htk, q⟩ := h
  refine ⟨_, (pss_cons (ps_asg (pv 3) (pg_tup rfl (pgs_cons (pg_name (i := 4) sc__law_next.nd rfl (Or.inl rfl)) (pgs_cons (pg_name (i := 5) sc__law_next.nd rfl (Or.inl rfl)) pgs_nil))))
      (pss_cons (ps_set (i := 6) sc__law_next.nd rfl (Or.inl rfl) (pe_op op_sub (pe_callB call_len_seq rfl z_len bt_len (pa_cons (pv 5) pa_nil)) (pe_callB call_len_seq rfl z_len bt_len (pa_cons (pe_ch h__law_asked (hr.mono (by decide)) rfl (pa_cons (pv 0) (pa_cons (pv 1) (pa_cons (pv 2) pa_nil)))) pa_nil))))
      (pss_cons (ps_set (i := 7) sc__law_next.nd rfl (Or.inl rfl) (pe_slice sl_tupG (pv 5) (po_some (pv 6)) po_none))
      (pss_cons (ps_if (pt_cmpR op_eq (pe_ix ix_tup (pv 2) pe_int (fun _ _ => rfl)) pe_str (nomark _)) (pss_one (ps_set (i := 4) sc__law_next.nd rfl (Or.inl rfl) (pe_op op_catG (pe_op op_catG (pe_slice sl_tupG (pv 4) po_none (po_some (pe_ix ix_tup (pv 2) pe_int (fun _ _ => rfl)))) (pv 7)) (pe_slice sl_tupG (pv 4) (po_some (pe_op op_add (pe_ix ix_tup (pv 2) pe_int (fun _ _ => rfl)) pe_int)) po_none)))) pss_nil)
      (pss_one (ps_ret (pe_tup (pa_cons (pv 4) (pa_cons (pe_op op_catG (pe_slice sl_tupG (pv 5) po_none (po_some (pv 6))) (pe_ch h__law_put_there (hr.mono (by decide)) rfl (pa_cons (pv 0) (pa_cons (pv 2) (pa_cons (pe_ix ix_tup (pv 3) pe_int (fun _ _ => rfl)) (pa_cons (pv 7) pa_nil)))))) pa_nil))))))))), ?_⟩
  obtain ⟨b', mk, pl, xs, e, hBT, hM, hL, hP⟩ := bk_inv hB
  cases e
  obtain ⟨vt, tb, ts, bs, ss, rfl, hV, hb, hBK, hs, hSK⟩ := sd_inv hv
  have lss := hSK.1
  have lbs := hBK.1
  refine ⟨_, rfl, vt, _, rfl, hV, rfl, _, _, rfl, _, _, rfl, rfl, ?_⟩
  dsimp only [gName]
  refine tSeq_hide (fun R kk => ?_)
  refine ⟨_, rfl, ts, ss, rfl, .inr hs, _, rfl, _, rfl, _, rfl, b, ms, zs, ps, j, p, rt, r, rfl, hB, hg, hp, hR, hok, fun wa ws H1 s1 g1 hW => ?_⟩
  have lws := hW.1
  rw [List.length_map] at lws
  refine ⟨wa, ws, rfl, .inl g1, _, _, rfl, rfl, kk _ _ ?_⟩
  clear kk R
  have eu : ((ss.length : Nat) : Int) - ((ws.length : Nat) : Int) = ((n : Nat) : Int) := by omega
  dsimp only
  rw [eu]
  refine tSeq_hide (fun R kk => ?_)
  refine ⟨_, rfl, _, rfl, _, rfl, ts, ss, rfl, s1.tup hs, fun ca H2 s2 hc => kk _ _ ?_⟩
  clear kk R
  rw [cut_from (by omega)] at hc
  have S2 := s1.trans s2
  have kD := (hSK.same S2).drop n
  refine tSeq_hide (fun R kk => ?_)
  have fin : ∀ (nb : Addr) (bs' : List V) (H5 : Hp), Same H2 H5 → SqT K H5 nb bs' → KIt K H5 bs' (boxB bx (st.drop n) r) → R [some (.ref b), some (.int (j : Int)), some (.ref rt), some (.ref vt), some (.ref nb), some (.ref ts), some (.int (n : Int)), some (.ref ca)] H5 := fun nb bs' H5 s5 h1 h2 => kk _ _ (by
    have S5 := S2.trans s5
    refine ⟨_, rfl, _, rfl, _, rfl, _, rfl, ts, ss, rfl, S5.tup hs, fun cb H6 s6 hcb => ?_⟩
    rw [cut_to] at hcb
    have S6 := S5.trans s6
    refine ⟨_, rfl, _, rfl, _, rfl, vt, _, _, _, rfl, rfl, S6.tup hV, atI_nat (j := 0) rfl, _, rfl, b, rt, tb, ca, ms, zs, ps, p, r, bx, st.drop n, bs, ss.drop n, rfl, hB.same S6, hg, S6.tup hR, hok, S6.tup hb, hBK.same S6, lb, (s5.trans s6).tup hc, (hSK.same S6).drop n, htk, fun kt kys H7 s7 hkt hkK => ?_⟩
    have lk := hkK.1
    have l2 := put_few (ms := ms) (ps := ps) (bx := bx) (tk := st.drop n) (r := r)
    refine ⟨cb, kt, _, _, rfl, rfl, s7.tup hcb, hkt, Nat.le_of_lt (small1000 (by rw [List.length_take]; omega)), fun sk H8 s8 hsk => ⟨(by show 2 ≤ sizeLine; decide), fun w hw => ?_⟩⟩
    have u1 := same_new hw (.tup [.ref nb, .ref sk])
    have S9 := s6.trans (s7.trans (s8.trans u1))
    exact q w _ (S5.trans S9) (rd_sd (SqT.of upd_same) (S9.tup h1) (h2.same S9) (u1.tup hsk) (KIt.append ((hSK.same (S5.trans S9)).take n) (hkK.same (s8.trans u1)))))
  clear kk
  refine ⟨_, rfl, rt, _, _, _, rfl, rfl, S2.tup hR, atI_nat (j := 0) rfl, rfl, _, rfl, stepS (fun z => ?_) (fun z1 => ?_)⟩
  · obtain ⟨w, rfl⟩ := is_store hok z
    have hw : w < p.boxes := hok
    have l1 : (st.drop n).length = 1 := htk.len
    obtain ⟨y, hy, hyk⟩ := kD.item (i := 0) (by omega)
    have ey : ss.drop n = [y] := by
      have l3 := kD.1
      obtain ⟨y0, e0⟩ := ex1 (l3.trans l1)
      rw [e0] at hy ⊢
      cases hy
      rfl
    refine ⟨_, rfl, _, rfl, rt, _, _, _, rfl, rfl, S2.tup hR, atI_nat (j := 1) rfl, _, rfl, tb, bs, rfl, S2.tup hb, fun c1 H3 s3 h3 => ?_⟩
    rw [cut_to] at h3
    have S3 := S2.trans s3
    refine ⟨_, rfl, c1, ca, _, _, rfl, rfl, h3, s3.tup hc, Nat.le_of_lt (small1000 (by rw [List.length_take, ey]; simp; omega)), fun c2 H4 s4 h4 => ?_⟩
    have S4 := S3.trans s4
    refine ⟨_, rfl, _, rfl, rt, _, _, _, rfl, rfl, S4.tup hR, atI_nat (j := 1) rfl, _, _, rfl, rfl, _, rfl, tb, bs, rfl, S4.tup hb, fun c3 H5 s5 h5 => ?_⟩
    have e5 : ((w : Nat) : Int) + 1 = ((w + 1 : Nat) : Int) := by omega
    rw [e5, cut_from (by omega)] at h5
    refine ⟨c2, c3, _, _, rfl, rfl, s5.tup h4, h5, Nat.le_of_lt (small1000 (by rw [ey]; simp; omega)), fun c4 H6 s6 h6 => ?_⟩
    rw [ey, set_split (by omega)] at h6
    obtain ⟨yt, rfl, hyt⟩ := hyk
    have X := s3.trans (s4.trans (s5.trans s6))
    exact fin c4 _ H6 X h6 (KIt.set (hBK.same (S2.trans X)) (X.tup hyt))
  · dsimp only [tNext]
    refine fin tb bs H2 (Same.refl _) (S2.tup hb) ?_
    rw [box_else z1]
    exact hBK.same S2
theorem sc__law_leads : FnScope ["_law_book_here", "_law_part_here", "_law_at", "_law_stand_here", "_law_rows", "_law_row_here", "_law_boxes", "_law_stack", "_law_low", "_law_found", "_law_caught"] ["_law_book_here", "_law_part_here", "_law_at", "_law_stand_here"] (defScope s_law_leads) := ⟨rfl, rfl, rfl, by decide +kernel, rfl, by decide +kernel, by decide +kernel⟩
theorem ok__law_leads {f : Addr} {fd : FuncData} (F : Fun K "_law_leads" "_law_leads" s_law_leads f fd) (z_len : mg "len" = none) (h__law_asked : Has P w K mg base CX0 "_law_asked" 3 ["_law_book_here", "_law_part_here", "_law_row_here"] (sp_law_asked K)) (h__law_next : Has P w K mg base CX0 "_law_next" 4 ["_law_book_here", "_law_part_here", "_law_row_here", "_law_stand_here"] (sp_law_next K)) : FnOk P w K mg base CX0 5 f fd ["_law_book_here", "_law_part_here", "_law_at", "_law_stand_here"] (sp_law_leads K) := by
  refine F.ok sc__law_leads (fun vs H Q E h => ?_) (fun cdv A outer s H vs Q E hr h => ?_)
  · obtain ⟨b, ms, zs, ps, j, i, p, r, v, bx, st, n, rfl, hB, hg, hp, hs8, hri, hok, hv, lb, h8, h50, hn, htk, q⟩ := h
    rfl
  obtain ⟨b, ms, zs, ps, j, i, p, r, v, bx, st, n, rfl, hB, hg, hp, hs8, hri, hok, hv, lb, h8, h50, hn, htk, q⟩ := h
  refine ⟨_, (pss_cons (ps_set (i := 4) sc__law_leads.nd rfl (Or.inl rfl) (pe_ix ix_tup (pe_ix ix_list (pe_ix ix_tup (pv 0) pe_int (fun _ _ => rfl)) (pv 1) (fun _ _ => rfl)) pe_int (fun _ _ => rfl)))
      (pss_cons (ps_set (i := 5) sc__law_leads.nd rfl (Or.inl rfl) (pe_ix ix_list (pv 4) (pv 2) (fun _ _ => rfl)))
      (pss_cons (ps_asg (pv 3) (pg_tup rfl (pgs_cons (pg_name (i := 6) sc__law_leads.nd rfl (Or.inl rfl)) (pgs_cons (pg_name (i := 7) sc__law_leads.nd rfl (Or.inl rfl)) pgs_nil))))
      (pss_cons (ps_set (i := 8) sc__law_leads.nd rfl (Or.inl rfl) (pe_slice sl_tupG (pv 7) po_none (po_some (pe_op op_sub (pe_callB call_len_seq rfl z_len bt_len (pa_cons (pv 7) pa_nil)) (pe_callB call_len_seq rfl z_len bt_len (pa_cons (pe_ch h__law_asked (hr.mono (by decide)) rfl (pa_cons (pv 0) (pa_cons (pv 1) (pa_cons (pv 5) pa_nil)))) pa_nil))))))
      (pss_cons (ps_set (i := 9) sc__law_leads.nd rfl (Or.inl rfl) (pe_lst pa_nil))
      (pss_cons (ps_if (pt_cmpR op_notIn_seq (pe_ix ix_tup (pv 5) pe_int (fun _ _ => rfl)) (pe_tup (pa_cons pe_str (pa_cons pe_str (pa_cons pe_str pa_nil)))) rfl) (pss_one (ps_expr (pe_bm PySem.F.plainAttrs_list PySem.F.slot_list_append PySem.F.type_list_append mt_append (pv 9) (pa_cons (pe_tup (pa_cons pe_str (pa_cons (pe_op op_add (pv 2) pe_int) (pa_cons (pe_ch h__law_next (hr.mono (by decide)) rfl (pa_cons (pv 0) (pa_cons (pv 1) (pa_cons (pv 5) (pa_cons (pv 3) pa_nil))))) pa_nil)))) pa_nil)))) pss_nil)
      (pss_cons (ps_if (pt_cmpR op_in_seq (pe_ix ix_tup (pv 5) pe_int (fun _ _ => rfl)) (pe_tup (pa_cons pe_str (pa_cons pe_str pa_nil))) rfl) (pss_one (ps_expr (pe_bm PySem.F.plainAttrs_list PySem.F.slot_list_append PySem.F.type_list_append mt_append (pv 9) (pa_cons (pe_tup (pa_cons pe_str (pa_cons (pe_ix ix_tup (pv 5) pe_int (fun _ _ => rfl)) (pa_cons (pe_tup (pa_cons (pv 6) (pa_cons (pv 8) pa_nil))) pa_nil)))) pa_nil)))) pss_nil)
      (pss_cons (ps_if (pt_cmpR op_eq (pe_ix ix_tup (pv 5) pe_int (fun _ _ => rfl)) pe_str (nomark _)) (pss_one (ps_expr (pe_bm PySem.F.plainAttrs_list PySem.F.slot_list_append PySem.F.type_list_append mt_append (pv 9) (pa_cons (pe_tup (pa_cons pe_str (pa_cons (pe_ix ix_tup (pv 5) pe_int (fun _ _ => rfl)) (pa_cons (pe_tup (pa_cons (pv 6) (pa_cons (pe_op op_catG (pv 8) (pe_tup (pa_cons (pe_tup (pa_cons pe_str (pa_cons (pe_ix ix_tup (pv 5) pe_int (fun _ _ => rfl)) pa_nil))) pa_nil))) pa_nil))) pa_nil)))) pa_nil)))) pss_nil)
      (pss_cons (ps_if (pt_cmpR op_in_seq (pe_ix ix_tup (pv 5) pe_int (fun _ _ => rfl)) (pe_tup (pa_cons pe_str (pa_cons pe_str (pa_cons pe_str (pa_cons pe_str pa_nil))))) rfl) (pss_cons (ps_setLC (i := 10) sc__law_leads.nd rfl (Or.inl rfl) 3 ["_law_first", "_law_behind", "_law_goal", "_law_at"] [2] ⟨rfl, rfl, rfl, rfl, rfl, rfl, rfl, rfl⟩ (pi_list (pe_ix ix_tup (pe_ix ix_list (pe_ix ix_tup (pv 0) pe_int (fun _ _ => rfl)) (pv 1) (fun _ _ => rfl)) pe_int (fun _ _ => rfl))) (fun _ _ _ _ => ⟨(show PG _ _ (gTup K 3 _) from (pg_tup rfl (pgs_cons (pg_name (i := 0) (show List.Nodup (["_law_first", "_law_behind", "_law_goal", "_law_at"] : List Str) by decide +kernel) rfl (Or.inl rfl)) (pgs_cons (pg_name (i := 1) (show List.Nodup (["_law_first", "_law_behind", "_law_goal", "_law_at"] : List Str) by decide +kernel) rfl (Or.inl rfl)) (pgs_cons (pg_name (i := 2) (show List.Nodup (["_law_first", "_law_behind", "_law_goal", "_law_at"] : List Str) by decide +kernel) rfl (Or.inl rfl)) pgs_nil))))), (pif_one (PW.pt (pw_and (pt_cmpR op_le (pv 0) (pv 3) (nomark _)) (pw_and1 (pt_cmpR op_lt (pv 3) (pv 1) (nomark _)))))), (pv 2)⟩))
      (pss_one (ps_if (pt_cmpR op_gt (pe_callB call_len_seq rfl z_len bt_len (pa_cons (pv 10) pa_nil)) pe_int (nomark _)) (pss_one (ps_expr (pe_bm PySem.F.plainAttrs_list PySem.F.slot_list_append PySem.F.type_list_append mt_append (pv 9) (pa_cons (pe_tup (pa_cons pe_str (pa_cons (pe_ix ix_list (pv 10) pe_int (fun _ _ => rfl)) (pa_cons (pe_tup (pa_cons (pv 6) (pa_cons (pe_tup (pa_cons (pe_tup (pa_cons pe_str pa_nil)) pa_nil)) pa_nil))) pa_nil)))) pa_nil)))) pss_nil))) pss_nil)
      (pss_one (ps_ret (pv 9)))))))))))), ?_⟩
  obtain ⟨b', mk, pl, xs, e, hBT, hM, hL, hP⟩ := bk_inv hB
  cases e
  obtain ⟨w0, hw0, hwr⟩ := bk_part hP hp
  obtain ⟨t, l0, l4, l5, ks, vs4, vs5, f1, rfl, hTt, hl0, hk, rg, hl4, hk4, hl5, hk5⟩ := pt_inv hwr
  obtain ⟨rv, hrv, hrr⟩ := RdAll.at hk4 (i := i) (d := rwD r) (by rw [List.getElem?_map, hri]; rfl)
  obtain ⟨rt, rfl, hR⟩ := rw_inv hrr
  obtain ⟨vt, tb, ts, bs, sss, rfl, hV, hb, hBK, hs, hSK⟩ := sd_inv hv
  have lss := hSK.1
  refine ⟨_, rfl, b, _, _, _, rfl, rfl, hBT, atI_nat (j := 1) rfl, _, rfl, pl, _, _, _, rfl, rfl, hL, atI_nat hw0, t, _, _, _, rfl, rfl, hTt, atI_nat (j := 4) rfl, ?_⟩
  refine ⟨_, rfl, _, rfl, l4, _, _, _, rfl, rfl, hl4, atI_nat hrv, ?_⟩
  refine ⟨_, rfl, vt, _, rfl, hV, rfl, _, _, rfl, _, _, rfl, rfl, ?_⟩
  dsimp only [gName]
  refine tSeq_hide (fun R kk => ?_)
  refine ⟨_, rfl, _, rfl, ts, sss, rfl, .inr hs, _, rfl, _, rfl, _, rfl, b, ms, zs, ps, j, p, rt, r, rfl, hB, hg, hp, hR, hok, fun wa ws H1 s1 g1 hW => ?_⟩
  have lws := hW.1
  rw [List.length_map] at lws
  refine ⟨wa, ws, rfl, .inl g1, _, _, rfl, rfl, _, rfl, ts, sss, rfl, s1.tup hs, fun ca H2 s2 hc => kk _ _ ?_⟩
  clear kk R
  have eu : ((sss.length : Nat) : Int) - ((ws.length : Nat) : Int) = ((n : Nat) : Int) := by omega
  rw [eu, cut_to] at hc
  have S2 := s1.trans s2
  have kc : KIt K H2 (sss.take n) (st.take n) := (hSK.same S2).take n
  generalize hlo : sss.take n = los at hc kc
  have lcs : los.length ≤ 60 := by rw [kc.1, List.length_take]; omega
  clear hW lws g1 s1 s2 eu hlo
  refine ⟨(by show 0 ≤ sizeLine; decide), fun L nL2 => ?_⟩
  have nL : H L = none := S2.free nL2
  have O3 : OutP K H L [] (upd H2 L (.lst [])) := ⟨S2.trans (same_new nL2 _), [], upd_same, LIt.nil K _⟩
  have hc3 := (same_new nL2 (.lst [])).tup hc
  have kc3 := kc.same (same_new nL2 (.lst []))
  generalize upd H2 L (.lst []) = H3 at O3 hc3 kc3 ⊢
  clear hc kc nL2 S2
  generalize hbb : boxB bx (st.drop n) r = bb
  generalize hss : st.take n ++ putK ms ps bx (st.drop n) r = ss
  dsimp only [gName]
  refine tSeq_hide (fun R kk => ?_)
  have fin : ∀ H4, SqT K H4 ca los → KIt K H4 los (st.take n) → OutP K H L (nextK r i bb ss) H4 → R [some (.ref b), some (.int (j : Int)), some (.int (i : Int)), some (.ref vt), some (.ref l4), some (.ref rt), some (.ref tb), some (.ref ts), some (.ref ca), some (.ref L), none] H4 := fun H4 c4 k4 o4 => kk _ _ (by
    clear O3 hc3 kc3 kk
    obtain ⟨S4, ys, gL, hI⟩ := id o4
    have l2 := next_few (r := r) (i := i) (b := bb) (s := ss)
    have l3 := hI.1
    refine tSeq_hide (fun R kk => ?_)
    have fin : ∀ H5, SqT K H5 ca los → KIt K H5 los (st.take n) → OutP K H L (nextK r i bb ss ++ (if rwS r ∈ jzL then jumpK bb (st.take n) ss r else [])) H5 → R [some (.ref b), some (.int (j : Int)), some (.int (i : Int)), some (.ref vt), some (.ref l4), some (.ref rt), some (.ref tb), some (.ref ts), some (.ref ca), some (.ref L), none] H5 := fun H5 c5 k5 o5 => kk _ _ (by
      clear o4 kk gL hI S4 c4 k4 l3
      refine tSeq_hide (fun R kk => ?_)
      have fin : ∀ H6, OutP K H L (nextK r i bb ss ++ jumpK bb (st.take n) ss r) H6 → R [some (.ref b), some (.int (j : Int)), some (.int (i : Int)), some (.ref vt), some (.ref l4), some (.ref rt), some (.ref tb), some (.ref ts), some (.ref ca), some (.ref L), none] H6 := fun H6 o6 => kk _ _ (by
        clear o5 kk c5 k5
        have S6 := o6.1
        refine tSeq_hide (fun R kk => ?_)
        have fin : ∀ H7 c, OutP K H L (nextK r i bb ss ++ jumpK bb (st.take n) ss r ++ catchK r p.spans i bx) H7 → R [some (.ref b), some (.int (j : Int)), some (.int (i : Int)), some (.ref vt), some (.ref l4), some (.ref rt), some (.ref tb), some (.ref ts), some (.ref ca), some (.ref L), c] H7 := fun H7 c o7 => kk _ _ (by
          refine ⟨_, rfl, q L H7 nL ?_⟩
          unfold outsK
          rw [hbb, hss]
          exact o7)
        clear kk
        refine ⟨_, rfl, rt, _, _, _, rfl, rfl, S6.tup hR, atI_nat (j := 0) rfl, (by show 4 ≤ sizeLine; decide), fun t9 h9 => ⟨t9, _, rfl, .inr (SqT.of upd_same), rfl, rfl, _, rfl, ?_⟩⟩
        have o9 := o6.same (same_new h9 (.tup (faultL.map V.str)))
        change OutP K H L _ (upd H6 t9 (.tup [.str "div", .str "rem", .str "toss", .str "call"])) at o9
        generalize upd H6 t9 _ = H9 at o9 ⊢
        show if (inV (.str (rwS r)) (faultL.map V.str)) = true then _ else _
        refine stepL (fun z => ?_) (fun z => ?_)
        · have ec : catchK r p.spans i bx = catchC bx (caught (stsI p.spans) (i : Int)) := by unfold catchK; rw [if_pos z]
          rw [ec] at fin
          obtain ⟨S9, ys, gL, hI⟩ := id o9
          have hSI := SIt.ofRd (hk5.same S9)
          have lv5 := hSI.1
          have lsp : (stsI p.spans).length ≤ 8 := by unfold stsI; rw [List.length_map]; exact hs8
          refine tSeq_hide (fun R2 k2 => ?_)
          refine ⟨_, rfl, b, _, _, _, rfl, rfl, S9.tup hBT, atI_nat (j := 1) rfl, _, rfl, pl, _, _, _, rfl, rfl, S9.seq hL, atI_nat hw0, t, _, _, _, rfl, rfl, S9.tup hTt, atI_nat (j := 5) rfl, l5, rfl, ⟨_, S9.seq hl5⟩, fun D hD => ?_⟩
          refine lc_list (xs := vs5) (fun m ws H2 => Same H9 H2 ∧ H2 D = some (.lst ws) ∧ ws = (catL ((stsI p.spans).take m) (i : Int)).map V.int) (Nat.le_of_lt (small1000 (by omega))) ⟨same_new hD _, upd_same, rfl⟩ ?_ ?_ ?_
          · rintro m ws H2 hm ⟨s2, d2, rfl⟩
            refine ⟨d2, ?_, (S9.trans s2).seq hl5⟩
            rw [List.length_map]
            exact Nat.le_trans catL_few (by rw [List.length_take]; omega)
          · rintro m x ws H2 hx ⟨s2, d2, rfl⟩
            obtain ⟨y, hy, ty, rfl, hty⟩ := hSI.at hx
            have ed := catL_step (i := (i : Int)) hy
            refine ⟨ty, _, rfl, s2.tup hty, rfl, _, _, rfl, _, _, rfl, _, _, rfl, rfl, rfl, ?_⟩
            refine ⟨_, rfl, _, rfl, _, _, rfl, rfl, _, rfl, ite2 (fun z1 => ?_) (fun z1 => ?_)⟩
            · have z1' : y.1 ≤ (i : Int) := of_decide_eq_true z1
              refine ⟨_, rfl, _, rfl, _, _, rfl, rfl, _, rfl, ite2 (fun z2 => ?_) (fun z2 => ?_)⟩
              · have z2' : (i : Int) < y.2.1 := of_decide_eq_true z2
                refine ⟨_, rfl, d2, fun c o e => ?_, upd_same, ?_⟩
                · rw [upd_ne (ne_of_none e hD)]
                  exact s2 c o e
                · rw [ed, if_pos (show inSt (i : Int) y = true by unfold inSt; rw [decide_eq_true z1', decide_eq_true z2']; rfl), List.map_append]
                  rfl
              · have z2' : ¬ (i : Int) < y.2.1 := fun e => z2 (decide_eq_true e)
                refine ⟨s2, d2, ?_⟩
                rw [ed, if_neg (show ¬ inSt (i : Int) y = true by unfold inSt; rw [decide_eq_false z2', Bool.and_false]; decide)]
            · have z1' : ¬ y.1 ≤ (i : Int) := fun e => z1 (decide_eq_true e)
              refine iteF ⟨s2, d2, ?_⟩
              rw [ed, if_neg (show ¬ inSt (i : Int) y = true by unfold inSt; rw [decide_eq_false z1', Bool.false_and]; decide)]
          · rintro ws H2 ⟨s2, d2, rfl⟩
            refine k2 _ _ ?_
            rw [List.take_of_length_le (by omega)] at d2
            have S2 := S9.trans s2
            have gL2 := s2 _ _ gL
            have o2 := o9.same s2
            have lcl := catL_few (ss := stsI p.spans) (i := (i : Int))
            have hch := catL_head (ss := stsI p.spans) (i := (i : Int))
            generalize hcl : catL (stsI p.spans) (i : Int) = cl at d2 lcl hch
            refine ⟨_, rfl, D, _, rfl, .inl (SqL.of d2), _, _, rfl, rfl, _, rfl, ite2 (fun z1 => ?_) (fun z1 => ?_)⟩
            · have z1' : (0 : Int) < (((cl.map V.int).length : Nat) : Int) := of_decide_eq_true z1
              rw [List.length_map] at z1'
              have hg0 : cl[0]? = some (cl[0]'(by omega)) := List.getElem?_eq_getElem (by omega)
              generalize cl[0]'(by omega) = g at hg0
              rw [← hch, hg0] at fin
              have hv0 : (cl.map V.int)[0]? = some (.int g) := by rw [List.getElem?_map, hg0]; rfl
              refine ⟨_, rfl, .inl ⟨rfl, _, SqL.of gL2⟩, _, rfl, D, _, _, _, rfl, rfl, SqL.of d2, atI_nat (j := 0) hv0, _, rfl, (by show 1 ≤ sizeLine; decide), fun a1 h1 => ⟨(by show 1 ≤ sizeLine; decide), fun a2 h2 => ⟨(by show 2 ≤ sizeLine; decide), fun a3 h3 => ⟨(by show 3 ≤ sizeLine; decide), fun a4 h4 => ?_⟩⟩⟩⟩
              have x1 := same_new h1 (.tup [.str "number"])
              have x2 := same_new h2 (.tup [.ref a1])
              have x3 := same_new h3 (.tup [.ref tb, .ref a2])
              have x4 := same_new h4 (.tup [.str "catch", .int g, .ref a3])
              have X := x1.trans (x2.trans (x3.trans x4))
              have t1 : SqT K _ a1 (kdV .num) := (x2.trans (x3.trans x4)).tup (SqT.of (upd_same (H := H2) (a := a1) (o := .tup [.str "number"])))
              have t2 : SqT K _ a2 [.ref a1] := (x3.trans x4).tup (SqT.of (upd_same (a := a2) (o := .tup [.ref a1])))
              have t3 : SqT K _ a3 [.ref tb, .ref a2] := x4.tup (SqT.of (upd_same (a := a3) (o := .tup [.ref tb, .ref a2])))
              have t4 : SqT K (upd (upd (upd (upd H2 a1 (.tup [.str "number"])) a2 (.tup [.ref a1])) a3 (.tup [.ref tb, .ref a2])) a4 (.tup [.str "catch", .int g, .ref a3])) a4 [.str "catch", .int g, .ref a3] := SqT.of upd_same
              refine ⟨L, ys, _, rfl, rfl, X _ _ gL2, small1000 ?_, fin _ _ (OutP.add nL (S2.trans X) (X _ _ gL2) (hI.same (s2.trans X)) t4 (rd_sd t3 ((S2.trans X).tup hb) (hBK.same (S2.trans X)) t2 (.mk1 ⟨a1, rfl, t1⟩)))⟩
              have l2 := lead_few (r := r) (i := i) (b := bb) (s := ss) (lo := st.take n) (s' := ss) (b' := bb)
              have l3 := hI.1
              omega
            · have z1' : ¬ (0 : Int) < (((cl.map V.int).length : Nat) : Int) := fun e => z1 (decide_eq_true e)
              rw [List.length_map] at z1'
              have hg0 : cl[0]? = none := List.getElem?_eq_none (by omega)
              rw [← hch, hg0] at fin
              dsimp only [tNext]
              exact fin H2 _ (by simpa [catchC] using o2)
        · have ec : catchK r p.spans i bx = [] := by unfold catchK; rw [if_neg z]
          rw [ec] at fin
          dsimp only [tNext]
          exact fin H9 _ (by simpa using o9))
      clear kk
      obtain ⟨S5, ys, gL, hI⟩ := id o5
      have l3 := hI.1
      refine ⟨_, rfl, rt, _, _, _, rfl, rfl, S5.tup hR, atI_nat (j := 0) rfl, rfl, _, rfl, stepS (fun z => ?_) (fun z1 => ?_)⟩
      · obtain ⟨c, w, rfl⟩ := is_kin hok z
        rw [if_neg (show ¬ rwS (.kin c w) ∈ jzL by show ¬ ("kin" : Str) ∈ jzL; decide +kernel), List.append_nil] at o5 l3
        obtain ⟨S5, ys, gL, hI⟩ := id o5
        have l3 := hI.1
        have ebb : bx = bb := hbb
        subst ebb
        refine ⟨_, rfl, .inl ⟨rfl, _, SqL.of gL⟩, _, rfl, rt, _, _, _, rfl, rfl, S5.tup hR, atI_nat (j := 2) rfl, _, rfl, _, rfl, _, rfl, rt, _, _, _, rfl, rfl, S5.tup hR, atI_nat (j := 1) rfl, (by show 2 ≤ sizeLine; decide), fun a1 h1 => ⟨(by show 1 ≤ sizeLine; decide), fun a2 h2 => ?_⟩⟩
        have x1 := same_new h1 (.tup [.str "whole", .int (c : Int)])
        have x2 := same_new h2 (.tup [.ref a1])
        have X2 := x1.trans x2
        have t1 : SqT K _ a1 (kdV (.whole c)) := x2.tup (SqT.of (upd_same (H := H5) (a := a1) (o := .tup [.str "whole", .int (c : Int)])))
        have t2 : SqT K (upd (upd H5 a1 (.tup [.str "whole", .int (c : Int)])) a2 (.tup [.ref a1])) a2 [.ref a1] := SqT.of upd_same
        have hc2 := X2.tup c5
        generalize upd (upd H5 a1 (.tup [.str "whole", .int (c : Int)])) a2 (.tup [.ref a1]) = HA at X2 t1 t2 hc2 ⊢
        refine ⟨ca, a2, _, _, rfl, rfl, hc2, t2, Nat.le_of_lt (small1000 (by simp; omega)), fun sk H6 s6 hsk => ⟨(by show 2 ≤ sizeLine; decide), fun a3 h3 => ⟨(by show 3 ≤ sizeLine; decide), fun a4 h4 => ?_⟩⟩⟩
        have x3 := same_new h3 (.tup [.ref tb, .ref sk])
        have x4 := same_new h4 (.tup [.str "jump", .int (w : Int), .ref a3])
        have X6 := X2.trans s6
        have X := X6.trans (x3.trans x4)
        have t3 : SqT K _ a3 [.ref tb, .ref sk] := x4.tup (SqT.of (upd_same (a := a3) (o := .tup [.ref tb, .ref sk])))
        have t4 : SqT K (upd (upd H6 a3 (.tup [.ref tb, .ref sk])) a4 (.tup [.str "jump", .int (w : Int), .ref a3])) a4 [.str "jump", .int (w : Int), .ref a3] := SqT.of upd_same
        have hsk2 := (x3.trans x4).tup hsk
        have t1' := (s6.trans (x3.trans x4)).tup t1
        generalize upd (upd H6 a3 (.tup [.ref tb, .ref sk])) a4 (.tup [.str "jump", .int (w : Int), .ref a3]) = H7 at X t3 t4 hsk2 t1' ⊢
        exact ⟨L, ys, _, rfl, rfl, X _ _ gL, small1000 (by omega), fin _ (OutP.add nL (S5.trans X) (X _ _ gL) (hI.same X) t4 (rd_sd t3 ((S5.trans X).tup hb) (hBK.same (S5.trans X)) hsk2 (KIt.append (k5.same X) (.mk1 ⟨a1, rfl, t1'⟩))))⟩
      · dsimp only [tNext]
        refine fin H5 ?_
        by_cases hz : rwS r ∈ jzL
        · rw [if_pos hz] at o5
          exact o5
        · rw [if_neg hz] at o5
          rw [go_else (fun h => ?_)]
          · exact o5
          · rcases (by decide +kernel : ∀ s ∈ goL, s ∈ jzL ∨ s = "kin") _ h with e | e
            · exact hz e
            · exact z1 e)
    clear kk
    refine ⟨_, rfl, rt, _, _, _, rfl, rfl, S4.tup hR, atI_nat (j := 0) rfl, (by show 2 ≤ sizeLine; decide), fun t9 h9 => ⟨t9, _, rfl, .inr (SqT.of upd_same), rfl, rfl, _, rfl, ?_⟩⟩
    have x9 := same_new h9 (.tup (jzL.map V.str))
    have o9 := o4.same x9
    have c9 := x9.tup c4
    have k9 := k4.same x9
    change OutP K H L _ (upd H4 t9 (.tup [.str "jump", .str "zero"])) at o9
    change SqT K (upd H4 t9 (.tup [.str "jump", .str "zero"])) _ _ at c9
    change KIt K (upd H4 t9 (.tup [.str "jump", .str "zero"])) _ _ at k9
    generalize upd H4 t9 _ = H9 at o9 c9 k9 ⊢
    show if (inV (.str (rwS r)) (jzL.map V.str)) = true then _ else _
    refine stepL (fun z => ?_) (fun z => ?_)
    · obtain ⟨w, hw, ej, eb, epu⟩ := jz_at (ms := ms) (ps := ps) (bx := bx) (tk := st.drop n) (b := bb) (lo := st.take n) (s := ss) hok z
      rw [if_pos z, ej] at fin
      rw [epu, List.append_nil] at hss
      rw [eb] at hbb
      subst hbb
      subst hss
      obtain ⟨S9, ys, gL, hI⟩ := id o9
      have l3 := hI.1
      refine ⟨_, rfl, .inl ⟨rfl, _, SqL.of gL⟩, _, rfl, rt, _, _, _, rfl, rfl, S9.tup hR, atI_nat (j := 1) hw, _, rfl, _, rfl, (by show 2 ≤ sizeLine; decide), fun a3 h3 => ⟨(by show 3 ≤ sizeLine; decide), fun a4 h4 => ?_⟩⟩
      have x3 := same_new h3 (.tup [.ref tb, .ref ca])
      have x4 := same_new h4 (.tup [.str "jump", .int (w : Int), .ref a3])
      have X := x3.trans x4
      have t3 : SqT K _ a3 [.ref tb, .ref ca] := x4.tup (SqT.of (upd_same (a := a3) (o := .tup [.ref tb, .ref ca])))
      have t4 : SqT K (upd (upd H9 a3 (.tup [.ref tb, .ref ca])) a4 (.tup [.str "jump", .int (w : Int), .ref a3])) a4 [.str "jump", .int (w : Int), .ref a3] := SqT.of upd_same
      generalize upd (upd H9 a3 (.tup [.ref tb, .ref ca])) a4 (.tup [.str "jump", .int (w : Int), .ref a3]) = HA at X t3 t4 ⊢
      refine ⟨L, ys, _, rfl, rfl, X _ _ gL, small1000 (by omega), fin _ ?_ ?_ (OutP.add nL (S9.trans X) (X _ _ gL) (hI.same X) t4 (rd_sd t3 ((S9.trans X).tup hb) (hBK.same (S9.trans X)) (X.tup c9) (k9.same X)))⟩
      · exact tup_upd (X.tup c9) (X _ _ gL)
      · exact (k9.same X).upd (X _ _ gL)
    · rw [if_neg z, List.append_nil] at fin
      dsimp only [tNext]
      exact fin H9 c9 k9 o9)
  clear kk
  obtain ⟨S3, ys, gL, hI⟩ := id O3
  refine ⟨_, rfl, rt, _, _, _, rfl, rfl, S3.tup hR, atI_nat (j := 0) rfl, (by show 3 ≤ sizeLine; decide), fun t9 h9 => ⟨t9, _, rfl, .inr (SqT.of upd_same), rfl, rfl, _, rfl, ?_⟩⟩
  have x9 := same_new h9 (.tup (endL.map V.str))
  have o9 := O3.same x9
  have c9 := x9.tup hc3
  have k9 := kc3.same x9
  change OutP K H L _ (upd H3 t9 (.tup [.str "jump", .str "toss", .str "give"])) at o9
  change SqT K (upd H3 t9 (.tup [.str "jump", .str "toss", .str "give"])) _ _ at c9
  change KIt K (upd H3 t9 (.tup [.str "jump", .str "toss", .str "give"])) _ _ at k9
  generalize upd H3 t9 _ = H9 at o9 c9 k9 ⊢
  show if (!inV (.str (rwS r)) (endL.map V.str)) = true then _ else _
  by_cases hz : rwS r ∈ endL
  · rw [inV_strs, decide_eq_true hz]
    refine iteF ?_
    dsimp only [tNext]
    refine fin H9 c9 k9 ?_
    unfold nextK
    rw [if_pos hz]
    exact o9
  · rw [inV_strs, decide_eq_false hz]
    obtain ⟨S9, ys, gL, hI⟩ := o9
    refine iteT ⟨_, rfl, .inl ⟨rfl, _, SqL.of gL⟩, _, rfl, _, _, rfl, rfl, _, rfl, _, rfl, _, rfl, _, rfl, b, ms, zs, ps, j, p, rt, r, .ref vt, bx, st, n, rfl, hB.same S9, hg, hp, S9.tup hR, hok, hv.same S9, lb, h8, h50, hn, htk, fun bt HA sA rA => ⟨(by show 3 ≤ sizeLine; decide), fun u hu => ?_⟩⟩
    rw [hbb, hss] at rA
    have x1 := same_new hu (.tup [.str "next", .int ((i : Int) + 1), .ref bt])
    have X := sA.trans x1
    refine ⟨L, ys, _, rfl, rfl, X _ _ gL, small1000 ?_, fin _ ?_ ?_ ?_⟩
    · have e : ys.length = 0 := hI.1
      omega
    · exact tup_upd (X.tup c9) (X _ _ gL)
    · exact (k9.same X).upd (X _ _ gL)
    · unfold nextK
      rw [if_neg hz]
      exact OutP.add nL (S9.trans X) (X _ _ gL) (hI.same X) (SqT.of upd_same) (rA.same x1)
theorem sc__law_same_kind : FnScope ["_law_found", "_law_due"] ["_law_found", "_law_due"] (defScope s_law_same_kind) := ⟨rfl, rfl, rfl, by decide +kernel, rfl, by decide +kernel, by decide +kernel⟩
theorem ok__law_same_kind {f : Addr} {fd : FuncData} (F : Fun K "_law_same_kind" "_law_same_kind" s_law_same_kind f fd) (z_all : mg "all" = none) (z_bool : mg "bool" = none) (z_int : mg "int" = none) (z_isinstance : mg "isinstance" = none) (z_tuple : mg "tuple" = none) : FnOk P w K mg base CX0 1 f fd ["_law_found", "_law_due"] (sp_law_same_kind K) := by
  refine F.ok sc__law_same_kind (fun vs H Q E h => ?_) (fun cdv A outer s H vs Q E hr h => ?_)
  · obtain ⟨v, v', k, rfl, h1, h2, q⟩ := h
    rfl
  obtain ⟨v, v', k, rfl, h1, h2, q⟩ := h
  refine ⟨_, (pss_cons (ps_if (PW.pt (pw_or (pt_not (pt_val (pe_callB call_isi rfl z_isinstance bt_isinstance (pa_cons (pv 0) (pa_cons (pe_bltn (v := .ty "tuple") rfl z_tuple bt_tuple rfl) pa_nil))))) (pw_or1 (pt_cmpR (op_neD (hr.units)) (pv 0) (pv 1) (nomark _))))) (pss_one (ps_ret pe_bl)) pss_nil)
      (pss_one (ps_ret (pe_callB (call_all rfl) rfl z_all bt_all (pa_cons (pe_lc 1 ["_law_part_here"] [] ⟨rfl, rfl, rfl, rfl, rfl, rfl, rfl, rfl⟩ (pi_tup (pe_slice sl_tup (pv 0) (po_some pe_int) po_none)) (fun _ _ _ _ => ⟨(pg_name (i := 0) (show List.Nodup (["_law_part_here"] : List Str) by decide +kernel) rfl (Or.inl rfl)), pif_nil, (pe_and (pe_callB (r := rIsi K) call_isi rfl z_isinstance bt_isinstance (pa_cons (pv 0) (pa_cons (pe_bltn (v := .ty "int") rfl z_int bt_int rfl) pa_nil))) (pe_one (pe_not (pe_callB (r := rIsi K) call_isi rfl z_isinstance bt_isinstance (pa_cons (pv 0) (pa_cons (pe_bltn (v := .ty "bool") rfl z_bool bt_bool rfl) pa_nil))))))⟩)) pa_nil))))), ?_⟩
  obtain ⟨a, xs, rfl, ha, hR⟩ := RdV.tupInv h1
  obtain ⟨x0, x3, ns, hns⟩ := kd_tail hR
  refine ⟨_, rfl, _, _, _, _, rfl, .tup ha, rfl, _, rfl, iteF ?_⟩
  refine ⟨_, rfl, _, rfl, _, _, h1, h2, kdD_ok k, kdD_ok k, _, rfl, ifC (by rw [PySem.SeqAt.eqv_refl _ (PySem.SeqAt.canLay_of_shaped (kdD_ok k))]; rfl) ?_⟩
  refine ⟨_, rfl, _, rfl, a, xs, rfl, ha, (fun z => ?_), fun p hp => ?_⟩
  · have := z.1
    rw [show (some (1 : Int)) = some ((1 : Nat) : Int) from rfl, HT.sIx_nat] at this
    omega
  rw [cut_from1 x0, hns]
  refine ⟨p, rfl, ⟨_, SqT.of upd_same⟩, fun D hD => ?_⟩
  have sp := same_new hp (.tup (ns.map V.int))
  have l3 : (ns.map V.int).length ≤ 3 := by rw [← hns]; simp; omega
  refine lc_tup (xs := ns.map V.int) (fun i ys H2 => Same (upd H p (.tup (ns.map V.int))) H2 ∧ H2 D = some (.lst ys) ∧ ys = (List.replicate i true).map V.bl) (Nat.le_of_lt (small1000 (by omega))) ⟨same_new hD _, upd_same, rfl⟩ ?_ ?_ ?_
  · rintro i ys H2 hi ⟨s2, d2, rfl⟩
    exact ⟨d2, by simp, s2.tup (SqT.of upd_same)⟩
  · rintro i x ys H2 hx ⟨s2, d2, rfl⟩
    obtain ⟨n, rfl⟩ : ∃ n, x = V.int n := by
      rw [List.getElem?_map] at hx
      cases e : ns[i]? with
      | none => rw [e] at hx; cases hx
      | some z => rw [e] at hx; exact ⟨z, (Option.some.inj hx).symm⟩
    refine ⟨rfl, ?_⟩
    refine ⟨_, rfl, _, _, _, _, rfl, .int n, rfl, _, rfl, iteT ?_⟩
    refine ⟨_, rfl, _, _, _, _, rfl, .int n, rfl, _, rfl, d2, fun b o e => ?_, upd_same, ?_⟩
    · rw [upd_ne (ne_of_none e hD)]
      exact s2 b o e
    · rw [List.replicate_succ', List.map_append]
      rfl
  · rintro ys H2 ⟨s2, d2, rfl⟩
    refine ⟨D, _, rfl, SqL.of d2, ?_⟩
    rw [show (List.replicate (ns.map V.int).length true).all id = true by simp]
    exact q H2 (sp.trans s2)
theorem sc__law_same_stand : FnScope ["_law_found", "_law_due", "_law_k", "_law_j"] ["_law_found", "_law_due"] (defScope s_law_same_stand) := ⟨rfl, rfl, rfl, by decide +kernel, rfl, by decide +kernel, by decide +kernel⟩
theorem ok__law_same_stand {f : Addr} {fd : FuncData} (F : Fun K "_law_same_stand" "_law_same_stand" s_law_same_stand f fd) (z_isinstance : mg "isinstance" = none) (z_len : mg "len" = none) (z_range : mg "range" = none) (z_tuple : mg "tuple" = none) (h__law_same_kind : Has P w K mg base CX0 "_law_same_kind" 1 ["_law_found", "_law_due"] (sp_law_same_kind K)) : FnOk P w K mg base CX0 2 f fd ["_law_found", "_law_due"] (sp_law_same_stand K) := by
  refine F.ok sc__law_same_stand (fun vs H Q E h => ?_) (fun cdv A outer s H vs Q E hr h => ?_)
  · obtain ⟨v, v', b, s', rfl, h1, h2, hb, hs', q⟩ := h
    rfl
  obtain ⟨v, v', b, s', rfl, h1, h2, hb, hs', q⟩ := h
  refine ⟨_, (pss_cons (ps_if (PW.pt (pw_or (pt_not (pt_val (pe_callB call_isi rfl z_isinstance bt_isinstance (pa_cons (pv 0) (pa_cons (pe_bltn (v := .ty "tuple") rfl z_tuple bt_tuple rfl) pa_nil))))) (pw_or1 (pt_cmpR op_ne (pe_callB call_len_seq rfl z_len bt_len (pa_cons (pv 0) pa_nil)) pe_int (nomark _))))) (pss_one (ps_ret pe_bl)) pss_nil)
      (pss_cons (ps_for PassesOwn.never rfl (pi_range1 rfl z_range (pa_cons pe_int pa_nil)) (pg_name (i := 2) sc__law_same_stand.nd rfl (Or.inl rfl)) (pss_cons (ps_if (PW.pt (pw_or (pt_not (pt_val (pe_callB call_isi rfl z_isinstance bt_isinstance (pa_cons (pe_ix ix_tup (pv 0) (pv 2) (fun _ _ => rfl)) (pa_cons (pe_bltn (v := .ty "tuple") rfl z_tuple bt_tuple rfl) pa_nil))))) (pw_or1 (pt_cmpR op_ne (pe_callB call_len_seq rfl z_len bt_len (pa_cons (pe_ix ix_tup (pv 0) (pv 2) (fun _ _ => rfl)) pa_nil)) (pe_callB call_len_seq rfl z_len bt_len (pa_cons (pe_ix ix_tup (pv 1) (pv 2) (fun _ _ => rfl)) pa_nil)) (nomark _))))) (pss_one (ps_ret pe_bl)) pss_nil)
      (pss_one (ps_for PassesOwn.never rfl (pi_range1 rfl z_range (pa_cons (pe_callB call_len_seq rfl z_len bt_len (pa_cons (pe_ix ix_tup (pv 1) (pv 2) (fun _ _ => rfl)) pa_nil)) pa_nil)) (pg_name (i := 3) sc__law_same_stand.nd rfl (Or.inl rfl)) (pss_one (ps_if (pt_not (pt_val (pe_ch h__law_same_kind (hr.mono (by decide)) rfl (pa_cons (pe_ix ix_tup (pe_ix ix_tup (pv 0) (pv 2) (fun _ _ => rfl)) (pv 3) (fun _ _ => rfl)) (pa_cons (pe_ix ix_tup (pe_ix ix_tup (pv 1) (pv 2) (fun _ _ => rfl)) (pv 3) (fun _ _ => rfl)) pa_nil))))) (pss_one (ps_ret pe_bl)) pss_nil))))))
      (pss_one (ps_ret pe_bl)))), ?_⟩
  obtain ⟨t, xs, rfl, hT, hX⟩ := RdV.tupInv h1
  obtain ⟨t', xs', rfl, hT', hX'⟩ := RdV.tupInv h2
  have lx := hX.1
  refine ⟨_, rfl, _, _, _, _, rfl, .tup hT, rfl, _, rfl, iteF ?_⟩
  refine ⟨_, rfl, t, _, rfl, .inr hT, rfl, _, rfl, ifNn (by rw [lx]; rfl) ?_⟩
  refine ⟨2, rfl, by decide, by decide, ?_⟩
  refine for_range (lo := 0) (n := 2) (fun i σ H2 => ∃ (o2 o3 : Option V), σ = [some (.ref t), some (.ref t'), o2, o3] ∧ Same H H2) ⟨_, _, rfl, Same.refl _⟩ ?_ ?_
  · rintro i σ H2 hi ⟨o2, o3, rfl, s2⟩
    have e0 : (0 + (i : Int)) = ((i : Nat) : Int) := by omega
    rw [e0]
    obtain ⟨ks, hd, hkl⟩ : ∃ ks : List Kd, ([.tuple (kdsD b), .tuple (kdsD s')] : List PyData)[i]? = some (.tuple (kdsD ks)) ∧ ks.length ≤ 100 := by
      match i, hi with
      | 0, _ => exact ⟨b, rfl, hb⟩
      | 1, _ => exact ⟨s', rfl, hs'⟩
    obtain ⟨v, hv, rv⟩ := RdAll.at hX hd
    obtain ⟨v', hv', rv'⟩ := RdAll.at hX' hd
    obtain ⟨u, ys, rfl, hU, hY⟩ := RdV.tupInv rv
    obtain ⟨u', ys', rfl, hU', hY'⟩ := RdV.tupInv rv'
    have ly := hY.1
    have ly' := hY'.1
    rw [List.length_map] at ly ly'
    refine ⟨_, rfl, _, rfl, t, _, _, _, rfl, rfl, s2.tup hT, atI_nat hv, _, _, _, _, rfl, .tup (s2.tup hU), rfl, _, rfl, iteF ?_⟩
    refine ⟨_, rfl, _, rfl, t, _, _, _, rfl, rfl, s2.tup hT, atI_nat hv, u, ys, rfl, .inr (s2.tup hU), _, rfl, _, rfl, t', _, _, _, rfl, rfl, s2.tup hT', atI_nat hv', u', ys', rfl, .inr (s2.tup hU'), rfl, _, rfl, ifNn (by rw [ly, ly']) ?_⟩
    refine ⟨_, rfl, _, rfl, t', _, _, _, rfl, rfl, s2.tup hT', atI_nat hv', u', ys', rfl, .inr (s2.tup hU'), _, rfl, by omega, by omega, ?_⟩
    refine for_range (lo := 0) (n := ((ys'.length : Nat) : Int).toNat) (fun j σ H3 => ∃ (o3 : Option V), σ = [some (.ref t), some (.ref t'), some (.int (i : Int)), o3] ∧ Same H H3) ⟨_, rfl, s2⟩ ?_ ?_
    · rintro j σ H3 hj ⟨o3, rfl, s3⟩
      have e1 : (0 + (j : Int)) = ((j : Nat) : Int) := by omega
      rw [e1]
      have hjk : j < ks.length := by omega
      have hk : (kdsD ks)[j]? = some (.tuple (kdL ks[j])) := by rw [List.getElem?_map, List.getElem?_eq_getElem hjk]; rfl
      obtain ⟨w, hw, rw'⟩ := RdAll.at hY hk
      obtain ⟨w', hw', rw''⟩ := RdAll.at hY' hk
      refine ⟨_, rfl, _, rfl, t, _, _, _, rfl, rfl, s3.tup hT, atI_nat hv, _, rfl, u, _, _, _, rfl, rfl, s3.tup hU, atI_nat hw, _, rfl, _, rfl, t', _, _, _, rfl, rfl, s3.tup hT', atI_nat hv', _, rfl, u', _, _, _, rfl, rfl, s3.tup hU', atI_nat hw', ?_⟩
      exact ⟨w, w', ks[j], rfl, rw'.same s3, rw''.same s3, fun H4 s4 => ⟨_, rfl, iteF ⟨_, rfl, s3.trans s4⟩⟩⟩
    · rintro σ H3 ⟨o3, rfl, s3⟩
      exact ⟨_, _, rfl, s3⟩
  · rintro σ H2 ⟨o2, o3, rfl, s2⟩
    exact q H2 s2
theorem sc_catcher : FnScope ["stretches", "at", "stretch"] ["stretches", "at"] (defScope s_catcher) := ⟨rfl, rfl, rfl, by decide +kernel, rfl, by decide +kernel, by decide +kernel⟩
theorem ok_catcher {f : Addr} {fd : FuncData} (F : Fun K "catcher" "catcher" s_catcher f fd) : FnOk P w K mg base CX0 1 f fd ["stretches", "at"] (sp_catcher K) := by
  refine F.ok sc_catcher (fun vs H Q E h => ?_) (fun cdv A outer s H vs Q E hr h => ?_)
  · obtain ⟨a, ys, ss, p, rfl, hS, hI, q⟩ := h
    rfl
  obtain ⟨a, ys, ss, p, rfl, hS, hI, q⟩ := h
  refine ⟨_, (pss_cons (ps_for PassesOwn.never rfl (pi_list (pv 0)) (pg_name (i := 2) sc_catcher.nd rfl (Or.inl rfl)) (pss_one (ps_if (pt_chain op_le op_lt (pe_ix ix_tup (pv 2) pe_int (fun _ _ => rfl)) (pv 1) (pe_ix ix_tup (pv 2) pe_int (fun _ _ => rfl))) (pss_one (ps_ret (pe_ix ix_tup (pv 2) pe_int (fun _ _ => rfl)))) pss_nil)))
      (pss_one (ps_ret pe_non))), ?_⟩
  refine ⟨_, rfl, a, rfl, ⟨_, hS⟩, ?_⟩
  refine for_list (xs := ys) (fun i σ H2 => ∃ (o2 : Option V), σ = [some (.ref a), some (.int p), o2] ∧ H2 = H ∧ ∀ j, j < i → ∀ y, ss[j]? = some y → ¬ (y.1 ≤ p ∧ p < y.2.1)) ⟨_, rfl, rfl, fun j h => absurd h (Nat.not_lt_zero _)⟩ ?_ ?_ ?_
  · rintro i σ H2 hi ⟨o2, rfl, rfl, _⟩
    exact hS
  · rintro i y σ H2 hy ⟨o2, rfl, rfl, ha⟩
    obtain ⟨x, hx, t, rfl, hT⟩ := hI.at hy
    refine ⟨_, rfl, t, _, _, _, rfl, rfl, hT, atI_nat (j := 0) rfl, _, rfl, _, _, rfl, rfl, _, rfl, ?_⟩
    have nxt : ¬ (x.1 ≤ p ∧ p < x.2.1) → ∀ j, j < i + 1 → ∀ y, ss[j]? = some y → ¬ (y.1 ≤ p ∧ p < y.2.1) := fun z j hj y hy' => by
      by_cases e : j = i
      · subst e
        rw [hx] at hy'
        cases hy'
        exact z
      · exact ha j (by omega) y hy'
    refine ite2 (fun z1 => ?_) (fun z1 => ?_)
    · have z1' : x.1 ≤ p := of_decide_eq_true z1
      refine ⟨_, rfl, t, _, _, _, rfl, rfl, hT, atI_nat (j := 1) rfl, _, _, rfl, rfl, _, rfl, ?_⟩
      refine ite2 (fun z2 => ?_) (fun z2 => ?_)
      · have z2' : p < x.2.1 := of_decide_eq_true z2
        rw [caught_here hx ha ⟨z1', z2'⟩] at q
        exact ⟨_, rfl, t, _, _, _, rfl, rfl, hT, atI_nat (j := 2) rfl, q⟩
      · exact ⟨_, rfl, rfl, nxt fun h => z2 (decide_eq_true h.2)⟩
    · exact ⟨_, rfl, iteF ⟨_, rfl, rfl, nxt fun h => z1 (decide_eq_true h.1)⟩⟩
  · rintro σ H2 ⟨o2, rfl, rfl, ha⟩
    rw [caught_none fun j hj => ha j (by rw [hI.1]; exact hj)] at q
    exact q
theorem sc_elders_of : FnScope ["makes", "c", "elders"] ["makes", "c"] (defScope s_elders_of) := ⟨rfl, rfl, rfl, by decide +kernel, rfl, by decide +kernel, by decide +kernel⟩
theorem ok_elders_of {f : Addr} {fd : FuncData} (F : Fun K "elders_of" "elders_of" s_elders_of f fd) : FnOk P w K mg base CX0 1 f fd ["makes", "c"] (sp_elders_of K) := by
  refine F.ok sc_elders_of (fun vs H Q E h => ?_) (fun cdv A outer s H vs Q E hr h => ?_)
  · obtain ⟨a, ms, c, rfl, hM, hw, hc, q⟩ := h
    rfl
  obtain ⟨a, ms, c, rfl, hM, hw, hc, q⟩ := h
  refine ⟨_, (pss_cons (ps_set (i := 2) sc_elders_of.nd rfl (Or.inl rfl) (pe_lst pa_nil))
      (pss_cons (ps_while PassesOwn.never (pt_cmpR op_notN (pv 1) pe_non (nomark _)) (pss_cons (ps_expr (pe_bm PySem.F.plainAttrs_list PySem.F.slot_list_append PySem.F.type_list_append mt_append (pv 2) (pa_cons (pv 1) pa_nil)))
      (pss_one (ps_set (i := 1) sc_elders_of.nd rfl (Or.inl rfl) (pe_ix ix_tup (pe_ix ix_list (pv 0) (pv 1) (fun _ _ => rfl)) pe_int (fun _ _ => rfl))))))
      (pss_one (ps_ret (pv 2))))), ?_⟩
  refine ⟨(by show 0 ≤ sizeLine; decide), fun r hr' => ?_⟩
  refine while_by (fun σ H2 => ∃ (cur : Option Nat) (pre : List Nat), σ = [some (.ref a), some (elV cur), some (.ref r)] ∧ Same H H2 ∧ H2 r = some (.lst (natsV pre)) ∧ (∀ j, cur = some j → j < ms.length) ∧ pre ++ rest ms cur = elders ms c)
    (fun (σ : St) (_ : Hp) => match σ[1]? with | some (some (V.int j)) => j.toNat + 1 | _ => 0) ⟨some c, [], rfl, fun b o e => by rw [upd_ne (ne_of_none e hr')]; exact e, upd_same, fun j hj => by cases hj; exact hc, rfl⟩ ?_ ?_
  · rintro σ H2 ⟨cur, pre, rfl, sm, hr2, hj, he⟩
    cases cur with
    | none =>
      refine ⟨_, rfl, rfl, _, rfl, iteF ?_⟩
      have e' : pre = elders ms c := by rw [← he]; simp [rest]
      rw [e'] at hr2
      exact ⟨_, rfl, q r H2 sm hr' hr2⟩
    | some j =>
      refine ⟨_, rfl, rfl, _, rfl, iteT ?_⟩
      have hjl := hj j rfl
      have hlen : (natsV pre).length < sizeLine := by
        have h1 := (elders_le hw c hc).1
        have h2 : (pre ++ rest ms (some j)).length = (elders ms c).length := by rw [he]
        have h3 := hw.few
        rw [List.length_append] at h2
        rw [List.length_map]
        exact small1000 (by omega)
      refine ⟨_, rfl, .inl ⟨rfl, _, SqL.of hr2⟩, _, rfl, r, _, _, rfl, rfl, hr2, hlen, ?_⟩
      have sm2 : Same H (upd H2 r (.lst (natsV pre ++ [.int (j : Int)]))) := fun b o e => by rw [upd_ne (ne_of_none e hr')]; exact sm b o e
      obtain ⟨xs, hS, hI⟩ := hM.same sm2
      obtain ⟨m, hm, hel, hlt⟩ := hw.el hjl
      have hxl : j < xs.length := by rw [hI.1]; exact hjl
      obtain ⟨t, l, ks, hx, ht, _⟩ := hI.2 j _ m (List.getElem?_eq_getElem hxl) hm
      refine ⟨_, rfl, _, rfl, a, xs, _, _, rfl, rfl, hS, atI_nat (List.getElem?_eq_getElem hxl), t, _, _, _, hx, rfl, ht, atI_nat (j := 0) rfl, ?_⟩
      refine ⟨⟨m.1, pre ++ [j], rfl, sm2, ?_, fun i hi => ?_, ?_⟩, ?_⟩
      · rw [upd_same]; show _ = some (HO.lst (List.map _ (pre ++ [j]))); rw [List.map_append]; rfl
      · have := hlt i hi
        omega
      · rw [← he]
        show (pre ++ [j]) ++ rest ms m.1 = pre ++ elders ms j
        rw [elders_step hw hjl, hel]
        simp
      · show (match (some (some (elV m.1)) : Option (Option V)) with | some (some (V.int j)) => j.toNat + 1 | _ => 0) < ((j : Int).toNat + 1)
        cases e : m.1 with
        | none => show 0 < _; omega
        | some i =>
          have := hlt i e
          show (i : Int).toNat + 1 < _
          omega
  · rintro σ H2 Q1 Q2 f ⟨v, e1, e2, k, e3, q1⟩
    exact ⟨v, e1, e2, k, e3, f _ _ q1⟩
theorem sc_fields_of : FnScope ["makes", "c", "fields", "elder"] ["makes", "c"] (defScope s_fields_of) := ⟨rfl, rfl, rfl, by decide +kernel, rfl, by decide +kernel, by decide +kernel⟩
theorem ok_fields_of {f : Addr} {fd : FuncData} (F : Fun K "fields_of" "fields_of" s_fields_of f fd) (z_list : mg "list" = none) (h_elders_of : Has P w K mg base CX0 "elders_of" 1 ["makes", "c"] (sp_elders_of K)) : FnOk P w K mg base CX0 2 f fd ["makes", "c"] (sp_fields_of K) := by
  refine F.ok sc_fields_of (fun vs H Q E h => ?_) (fun cdv A outer s H vs Q E hr h => ?_)
  · obtain ⟨a, ms, c, rfl, hM, hw, hf, hc, q⟩ := h
    rfl
  obtain ⟨a, ms, c, rfl, hM, hw, hf, hc, q⟩ := h
  refine ⟨_, (pss_cons (ps_set (i := 2) sc_fields_of.nd rfl (Or.inl rfl) (pe_lst pa_nil))
      (pss_cons (ps_for PassesOwn.never rfl (pi_list (pe_ch h_elders_of (hr.mono (by decide)) rfl (pa_cons (pv 0) (pa_cons (pv 1) pa_nil)))) (pg_name (i := 3) sc_fields_of.nd rfl (Or.inl rfl)) (pss_one (ps_set (i := 2) sc_fields_of.nd rfl (Or.inl rfl) (pe_op op_cat (pe_callTy call_list_of rfl z_list bt_list (pa_cons (pe_ix ix_tup (pe_ix ix_list (pv 0) (pv 3) (fun _ _ => rfl)) pe_int (fun _ _ => rfl)) pa_nil)) (pv 2)))))
      (pss_one (ps_ret (pv 2))))), ?_⟩
  obtain ⟨xs, hS, hI⟩ := id hM
  have lx := hI.1
  refine ⟨(by show 0 ≤ sizeLine; decide), fun r0 hr0 => ?_⟩
  have s0 := same_new hr0 (.lst [])
  refine ⟨_, rfl, _, rfl, a, ms, c, rfl, hM.same s0, hw, hc, fun re H1 s1 _ he => ?_⟩
  have sm1 := s0.trans s1
  refine ⟨re, rfl, ⟨_, SqL.of he⟩, ?_⟩
  refine for_list (xs := natsV (elders ms c)) (fun i σ H2 => ∃ (r : Addr) (ks : List V) (o3 : Option V), σ = [some (.ref a), some (.int (c : Int)), some (.ref r), o3] ∧ Same H1 H2 ∧ H r = none ∧ H2 r = some (.lst ks) ∧ RdAll K H ks (kdsD (fieldsUp ms ((elders ms c).take i))) ∧ ks.length ≤ 50 * i) ?_ ?_ ?_ ?_
  · exact ⟨r0, [], none, rfl, Same.refl _, hr0, s1 _ _ upd_same, .nil, by simp⟩
  · rintro i σ H2 hi ⟨r, ks, o3, rfl, s2, _⟩
    exact SqL.of (s2 _ _ he)
  · rintro i y σ H2 hy ⟨r, ks, o3, rfl, s2, nr, g2, hR, h50⟩
    have hil : i < (elders ms c).length := by
      have := (List.getElem?_eq_some_iff.mp hy).1
      simpa using this
    have hy' : y = .int (((elders ms c)[i] : Nat) : Int) := by
      rw [List.getElem?_map, List.getElem?_eq_getElem hil] at hy
      exact (Option.some.inj hy).symm
    subst hy'
    have hel : (elders ms c)[i] < ms.length := by
      have := (elders_le hw c hc).2 _ (List.getElem_mem hil)
      omega
    have hi8 : i < 8 := by
      have := (elders_le hw c hc).1
      have := hw.few
      omega
    generalize hj : (elders ms c)[i] = j at hel
    have hjx : j < xs.length := by omega
    obtain ⟨t, l, kk, hx, e2, e3, e4⟩ := hI.2 j _ _ (List.getElem?_eq_getElem hjx) (List.getElem?_eq_getElem hel)
    have sm2 := sm1.trans s2
    have own : ownOf ms j = (ms[j]).2 := by unfold ownOf; rw [List.getElem?_eq_getElem hel]
    have l2 := e4.1
    have lk : kk.length ≤ 50 := by
      rw [List.length_map] at l2
      have := hf j _ (List.getElem?_eq_getElem hel)
      omega
    refine ⟨_, rfl, _, rfl, a, xs, _, _, rfl, rfl, sm2.seq hS, (?_ : atI xs ((j : Nat) : Int) = some (.ref t)), t, _, _, _, rfl, rfl, sm2.tup e2, atI_nat (j := 1) rfl, l, kk, rfl, .inl (sm2.seq e3), fun p0 hp0 => ?_⟩
    · rw [← hx]; exact atI_nat (List.getElem?_eq_getElem hjx)
    have s3 := same_new hp0 (.lst kk)
    refine ⟨_, rfl, p0, r, kk, ks, rfl, rfl, upd_same, s3 _ _ g2, Nat.le_of_lt (small1000 (by omega)), fun p hp => ?_⟩
    refine ⟨p, kk ++ ks, _, rfl, s2.trans (s3.trans (same_new hp _)), (sm2.trans s3).free hp, upd_same, ?_, by rw [List.length_append]; omega⟩
    have stp : fieldsUp ms ((elders ms c).take (i + 1)) = ownOf ms j ++ fieldsUp ms ((elders ms c).take i) := by
      rw [fieldsUp_rev, fieldsUp_rev, List.take_succ_eq_append_getElem hil, hj]
      simp
    rw [stp, own, kdsD, List.map_append]
    exact RdAll.append e4 hR
  · rintro σ H2 ⟨r, ks, o3, rfl, s2, nr, g2, hR, _⟩
    have e : (elders ms c).take (natsV (elders ms c)).length = elders ms c := List.take_of_length_le (by simp)
    rw [e] at hR
    exact ⟨_, rfl, q r ks H2 (sm1.trans s2) nr g2 hR⟩
theorem sc_full_mask : FnScope ["makes", "c"] ["makes", "c"] (defScope s_full_mask) := ⟨rfl, rfl, rfl, by decide +kernel, rfl, by decide +kernel, by decide +kernel⟩
theorem ok_full_mask {f : Addr} {fd : FuncData} (F : Fun K "full_mask" "full_mask" s_full_mask f fd) (z_len : mg "len" = none) (h_fields_of : Has P w K mg base CX0 "fields_of" 2 ["makes", "c"] (sp_fields_of K)) : FnOk P w K mg base CX0 3 f fd ["makes", "c"] (sp_full_mask K) := by
  refine F.ok sc_full_mask (fun vs H Q E h => ?_) (fun cdv A outer s H vs Q E hr h => ?_)
  · obtain ⟨a, ms, c, rfl, hM, hw, hf, hc, q⟩ := h
    rfl
  obtain ⟨a, ms, c, rfl, hM, hw, hf, hc, q⟩ := h
  refine ⟨_, (pss_one (ps_ret (pe_op op_sub (pe_op op_shl pe_int (pe_callB call_len_seq rfl z_len bt_len (pa_cons (pe_ch h_fields_of (hr.mono (by decide)) rfl (pa_cons (pv 0) (pa_cons (pv 1) pa_nil))) pa_nil))) pe_int))), ?_⟩
  refine ⟨_, rfl, _, rfl, a, ms, c, rfl, hM, hw, hf, hc, fun r ks H2 s2 _ g2 hR => ?_⟩
  have l1 := hR.1
  rw [List.length_map] at l1
  have l400 := hf.fields hw hc
  refine ⟨r, ks, rfl, .inl (SqL.of g2), _, _, rfl, rfl, ⟨by omega, by omega, by decide⟩, _, _, rfl, rfl, ?_⟩
  dsimp only
  rw [show ((ks.length : Nat) : Int).toNat = (fields ms c).length by omega, Int.one_mul]
  exact q H2 s2
theorem sc_asked_of_records : FnScope ["makes", "row", "sign", "c", "field"] ["makes", "row"] (defScope s_asked_of_records) := ⟨rfl, rfl, rfl, by decide +kernel, rfl, by decide +kernel, by decide +kernel⟩
theorem ok_asked_of_records {f : Addr} {fd : FuncData} (F : Fun K "asked_of_records" "asked_of_records" s_asked_of_records f fd) (h_fields_of : Has P w K mg base CX0 "fields_of" 2 ["makes", "c"] (sp_fields_of K)) (h_full_mask : Has P w K mg base CX0 "full_mask" 3 ["makes", "c"] (sp_full_mask K)) : FnOk P w K mg base CX0 4 f fd ["makes", "row"] (sp_asked_of_records K) := by
  refine F.ok sc_asked_of_records (fun vs H Q E h => ?_) (fun cdv A outer s H vs Q E hr h => ?_)
  · obtain ⟨mk, rw', ms, sign, xs, ks, rfl, hM, hw, hf, hR, hA, q⟩ := h
    rfl
  obtain ⟨mk, rw', ms, sign, xs, ks, rfl, hM, hw, hf, hR, hA, q⟩ := h
  refine ⟨_, (pss_cons (ps_set (i := 2) sc_asked_of_records.nd rfl (Or.inl rfl) (pe_ix ix_tup (pv 1) pe_int (fun _ _ => rfl)))
      (pss_cons (ps_set (i := 3) sc_asked_of_records.nd rfl (Or.inl rfl) (pe_ix ix_tup (pv 1) pe_int (fun _ _ => rfl)))
      (pss_cons (ps_if (pt_cmpR op_eq (pv 2) pe_str (nomark _)) (pss_one (ps_ret (pe_lst (pa_cons (pe_tup (pa_cons pe_str (pa_cons (pv 3) (pa_cons (pe_ch h_full_mask (hr.mono (by decide)) rfl (pa_cons (pv 0) (pa_cons (pv 3) pa_nil))) pa_nil)))) pa_nil)))) pss_nil)
      (pss_cons (ps_if (pt_cmpR op_eq (pv 2) pe_str (nomark _)) (pss_one (ps_ret (pe_lst (pa_cons (pe_tup (pa_cons pe_str (pa_cons (pv 3) pa_nil))) pa_nil)))) pss_nil)
      (pss_cons (ps_set (i := 4) sc_asked_of_records.nd rfl (Or.inl rfl) (pe_ix ix_list (pe_ch h_fields_of (hr.mono (by decide)) rfl (pa_cons (pv 0) (pa_cons (pv 3) pa_nil))) (pe_ix ix_tup (pv 1) pe_int (fun _ _ => rfl)) (fun _ _ => rfl)))
      (pss_cons (ps_if (pt_cmpR op_eq (pv 2) pe_str (nomark _)) (pss_one (ps_ret (pe_lst (pa_cons (pe_tup (pa_cons pe_str (pa_cons (pv 3) (pa_cons pe_int pa_nil)))) (pa_cons (pv 4) pa_nil))))) pss_nil)
      (pss_one (ps_ret (pe_lst (pa_cons (pe_tup (pa_cons pe_str (pa_cons (pv 3) pa_nil))) (pa_cons (pv 4) pa_nil))))))))))), ?_⟩
  have few := hw.few
  cases hA with
  | @begin c hc =>
    refine ⟨_, rfl, rw', _, _, _, rfl, rfl, hR, atI_nat (j := 0) rfl, _, rfl, rw', _, _, _, rfl, rfl, hR, atI_nat (j := 1) rfl, ?_⟩
    refine ⟨_, rfl, rfl, _, rfl, ifY rfl ?_⟩
    refine ⟨_, rfl, _, rfl, _, rfl, mk, ms, c, rfl, hM, hw, hf, hc, fun H1 s1 => ?_⟩
    refine ⟨(by show 3 ≤ sizeLine; decide), fun t ht => ⟨(by show 1 ≤ sizeLine; decide), fun r hr => ?_⟩⟩
    have s2 := same_new ht (.tup [.str "raw", .int (c : Int), .int (2 ^ (fields ms c).length - 1)])
    have s3 := same_new hr (.lst [.ref t])
    refine q r _ _ (s1.trans (s2.trans s3)) ((s1.trans s2).free hr) upd_same ?_
    refine .cons (rd_kd (k := .raw c (2 ^ (fields ms c).length - 1)) ?_) .nil
    have e : ((2 ^ (fields ms c).length - 1 : Nat) : Int) = 2 ^ (fields ms c).length - 1 := by
      have := Nat.one_le_two_pow (n := (fields ms c).length)
      rw [Int.ofNat_sub this]
      simp
    show SqT K _ t [.str "raw", .int (c : Int), .int ((2 ^ (fields ms c).length - 1 : Nat) : Int)]
    rw [e]
    exact s3.tup (SqT.of upd_same)
  | @get c f =>
    refine ⟨_, rfl, rw', _, _, _, rfl, rfl, hR, atI_nat (j := 0) rfl, _, rfl, rw', _, _, _, rfl, rfl, hR, atI_nat (j := 1) rfl, ?_⟩
    refine ⟨_, rfl, rfl, _, rfl, ifN (by decide +kernel) ?_⟩
    refine ⟨_, rfl, rfl, _, rfl, ifY rfl ?_⟩
    refine ⟨_, rfl, (by show 2 ≤ sizeLine; decide), fun t ht => ⟨(by show 1 ≤ sizeLine; decide), fun r hr => ?_⟩⟩
    have s2 := same_new ht (.tup [.str "whole", .int (c : Int)])
    have s3 := same_new hr (.lst [.ref t])
    exact q r _ _ (s2.trans s3) (s2.free hr) upd_same (.cons (rd_kd (k := .whole c) (s3.tup (SqT.of upd_same))) .nil)
  | @fill c f k hc hk =>
    refine ⟨_, rfl, rw', _, _, _, rfl, rfl, hR, atI_nat (j := 0) rfl, _, rfl, rw', _, _, _, rfl, rfl, hR, atI_nat (j := 1) rfl, ?_⟩
    refine ⟨_, rfl, rfl, _, rfl, ifN (by decide +kernel) ?_⟩
    refine ⟨_, rfl, rfl, _, rfl, ifN (by decide +kernel) ?_⟩
    refine ⟨_, rfl, _, rfl, mk, ms, c, rfl, hM, hw, hf, hc, fun r1 vs H1 s1 _ g1 hV => ?_⟩
    obtain ⟨v, hv, hvr⟩ := RdAll.at hV (i := f) (d := .tuple (kdL k)) (by rw [List.getElem?_map, hk]; rfl)
    refine ⟨_, rfl, rw', _, _, _, rfl, rfl, s1.tup hR, atI_nat (j := 2) rfl, r1, _, _, _, rfl, rfl, SqL.of g1, atI_nat hv, ?_⟩
    refine ⟨_, rfl, rfl, _, rfl, ifY rfl ?_⟩
    refine ⟨_, rfl, (by show 3 ≤ sizeLine; decide), fun t ht => ⟨_, rfl, (by show 2 ≤ sizeLine; decide), fun r hr => ?_⟩⟩
    have s2 := same_new ht (.tup [.str "raw", .int (c : Int), .int 0])
    have s3 := same_new hr (.lst [.ref t, v])
    exact q r _ _ (s1.trans (s2.trans s3)) ((s1.trans s2).free hr) upd_same (.cons (rd_kd (k := .raw c 0) (s3.tup (SqT.of upd_same))) (.cons (hvr.same (s1.trans (s2.trans s3))) .nil))
  | @put c f k hc hk =>
    refine ⟨_, rfl, rw', _, _, _, rfl, rfl, hR, atI_nat (j := 0) rfl, _, rfl, rw', _, _, _, rfl, rfl, hR, atI_nat (j := 1) rfl, ?_⟩
    refine ⟨_, rfl, rfl, _, rfl, ifN (by decide +kernel) ?_⟩
    refine ⟨_, rfl, rfl, _, rfl, ifN (by decide +kernel) ?_⟩
    refine ⟨_, rfl, _, rfl, mk, ms, c, rfl, hM, hw, hf, hc, fun r1 vs H1 s1 _ g1 hV => ?_⟩
    obtain ⟨v, hv, hvr⟩ := RdAll.at hV (i := f) (d := .tuple (kdL k)) (by rw [List.getElem?_map, hk]; rfl)
    refine ⟨_, rfl, rw', _, _, _, rfl, rfl, s1.tup hR, atI_nat (j := 2) rfl, r1, _, _, _, rfl, rfl, SqL.of g1, atI_nat hv, ?_⟩
    refine ⟨_, rfl, rfl, _, rfl, ifN (by decide +kernel) ?_⟩
    refine ⟨_, rfl, (by show 2 ≤ sizeLine; decide), fun t ht => ⟨_, rfl, (by show 2 ≤ sizeLine; decide), fun r hr => ?_⟩⟩
    have s2 := same_new ht (.tup [.str "whole", .int (c : Int)])
    have s3 := same_new hr (.lst [.ref t, v])
    exact q r _ _ (s1.trans (s2.trans s3)) ((s1.trans s2).free hr) upd_same (.cons (rd_kd (k := .whole c) (s3.tup (SqT.of upd_same))) (.cons (hvr.same (s1.trans (s2.trans s3))) .nil))
theorem sc_asked : FnScope ["book", "part", "row", "sign", "parts"] ["book", "part", "row"] (defScope s_asked) := ⟨rfl, rfl, rfl, by decide +kernel, rfl, by decide +kernel, by decide +kernel⟩
theorem ok_asked {f : Addr} {fd : FuncData} (F : Fun K "asked" "asked" s_asked f fd) (z_list : mg "list" = none) {d_ALWAYS : Addr} (g_ALWAYS : mg "ALWAYS" = some (.ref d_ALWAYS)) (c_ALWAYS : DiD K w d_ALWAYS kd_ALWAYS) (h_asked_of_records : Has P w K mg base CX0 "asked_of_records" 4 ["makes", "row"] (sp_asked_of_records K)) : FnOk P w K mg base CX0 5 f fd ["book", "part", "row"] (sp_asked K) := by
  refine F.ok sc_asked (fun vs H Q E h => ?_) (fun cdv A outer s H vs Q E hr h => ?_)
  · obtain ⟨b, mk, pl, rw', part, sign, xs, ks, rfl, hB, hR, hA, q⟩ := h
    rfl
  obtain ⟨b, mk, pl, rw', part, sign, xs, ks, rfl, hB, hR, hA, q⟩ := h
  refine ⟨_, (pss_cons (ps_set (i := 3) sc_asked.nd rfl (Or.inl rfl) (pe_ix ix_tup (pv 2) pe_int (fun _ _ => rfl)))
      (pss_cons (ps_if (pt_cmpR op_inK (pv 3) (pe_glob (v := .ref d_ALWAYS) rfl g_ALWAYS rfl) rfl) (pss_one (ps_ret (pe_callTy call_list_of rfl z_list bt_list (pa_cons (pe_ix ix_dictK (pe_glob (v := .ref d_ALWAYS) rfl g_ALWAYS rfl) (pv 3) (fun _ _ => rfl)) pa_nil)))) pss_nil)
      (pss_cons (ps_set (i := 4) sc_asked.nd rfl (Or.inl rfl) (pe_ix ix_tup (pv 0) pe_int (fun _ _ => rfl)))
      (pss_cons (ps_if (pt_cmpR op_eq (pv 3) pe_str (nomark _)) (pss_one (ps_ret (pe_callTy call_list_of rfl z_list bt_list (pa_cons (pe_ix ix_tup (pe_ix ix_list (pv 4) (pe_ix ix_tup (pv 2) pe_int (fun _ _ => rfl)) (fun _ _ => rfl)) pe_int (fun _ _ => rfl)) pa_nil)))) pss_nil)
      (pss_cons (ps_if (pt_cmpR op_eq (pv 3) pe_str (nomark _)) (pss_one (ps_ret (pe_lst (pa_cons (pe_ix ix_tup (pe_ix ix_list (pv 4) (pv 1) (fun _ _ => rfl)) pe_int (fun _ _ => rfl)) pa_nil)))) pss_nil)
      (pss_one (ps_ret (pe_ch h_asked_of_records (hr.mono (by decide)) rfl (pa_cons (pe_ix ix_tup (pv 0) pe_int (fun _ _ => rfl)) (pa_cons (pv 2) pa_nil)))))))))), ?_⟩
  refine ⟨_, rfl, rw', _, _, _, rfl, rfl, hR, atI_nat (j := 0) rfl, ?_⟩
  cases hA with
  | always h =>
    refine ⟨_, rfl, d_ALWAYS, kd_ALWAYS, sign, rfl, rfl, c_ALWAYS, _, rfl, ifB (by rw [h]; rfl) ?_⟩
    refine ⟨_, rfl, d_ALWAYS, kd_ALWAYS, sign, _, rfl, rfl, c_ALWAYS, h, fun v hv => ?_⟩
    obtain ⟨a, ys, rfl, hS, hY⟩ := RdV.tupInv (hv H)
    refine ⟨a, ys, rfl, .inr hS, fun r hr => ?_⟩
    have s1 := same_new hr (.lst ys)
    exact q r ys _ s1 hr upd_same (hY.same s1)
  | @call k ys rest vs t l _ h1 h2 h3 h4 h5 =>
    refine ⟨_, rfl, d_ALWAYS, kd_ALWAYS, _, rfl, rfl, c_ALWAYS, _, rfl, ifC (by rw [no_call]; rfl) ?_⟩
    refine ⟨_, rfl, b, _, _, _, rfl, rfl, hB, atI_nat (j := 1) rfl, ?_⟩
    refine ⟨_, rfl, rfl, _, rfl, ifY rfl ?_⟩
    refine ⟨_, rfl, _, rfl, rw', _, _, _, rfl, rfl, hR, atI_nat (j := 1) rfl, pl, _, _, _, rfl, rfl, h1, atI_nat h2, t, _, _, _, rfl, rfl, h3, atI_nat (j := 0) rfl, l, vs, rfl, .inl h4, fun r hr => ?_⟩
    have s1 := same_new hr (.lst vs)
    exact q r vs _ s1 hr upd_same (h5.same s1)
  | @give ys rest t v0 v k h1 h2 h3 h4 =>
    refine ⟨_, rfl, d_ALWAYS, kd_ALWAYS, _, rfl, rfl, c_ALWAYS, _, rfl, ifC (by rw [no_give]; rfl) ?_⟩
    refine ⟨_, rfl, b, _, _, _, rfl, rfl, hB, atI_nat (j := 1) rfl, ?_⟩
    refine ⟨_, rfl, rfl, _, rfl, ifN (by decide +kernel) ?_⟩
    refine ⟨_, rfl, rfl, _, rfl, ifY rfl ?_⟩
    refine ⟨_, rfl, _, rfl, pl, _, _, _, rfl, rfl, h1, atI_nat h2, t, _, _, _, rfl, rfl, h3, atI_nat (j := 1) rfl, (by show 1 ≤ sizeLine; decide), fun r hr => ?_⟩
    have s1 := same_new hr (.lst [v])
    exact q r _ _ s1 hr upd_same (.cons (h4.same s1) .nil)
  | @ofR ms _ _ _ hM hw hf h =>
    obtain ⟨n1, n2, n3⟩ := no_rec h
    refine ⟨_, rfl, d_ALWAYS, kd_ALWAYS, _, rfl, rfl, c_ALWAYS, _, rfl, ifC (by rw [n1]; rfl) ?_⟩
    refine ⟨_, rfl, b, _, _, _, rfl, rfl, hB, atI_nat (j := 1) rfl, ?_⟩
    refine ⟨_, rfl, rfl, _, rfl, ifN n2 ?_⟩
    refine ⟨_, rfl, rfl, _, rfl, ifN n3 ?_⟩
    exact ⟨_, rfl, b, _, _, _, rfl, rfl, hB, atI_nat (j := 0) rfl, _, rfl, mk, rw', ms, sign, xs, ks, rfl, hM, hw, hf, hR, h, q⟩
theorem sc_kinds_put_of_records : FnScope ["makes", "row", "took", "sign", "c"] ["makes", "row", "took"] (defScope s_kinds_put_of_records) := ⟨rfl, rfl, rfl, by decide +kernel, rfl, by decide +kernel, by decide +kernel⟩
theorem ok_kinds_put_of_records {f : Addr} {fd : FuncData} (F : Fun K "kinds_put_of_records" "kinds_put_of_records" s_kinds_put_of_records f fd) (h_fields_of : Has P w K mg base CX0 "fields_of" 2 ["makes", "c"] (sp_fields_of K)) : FnOk P w K mg base CX0 3 f fd ["makes", "row", "took"] (sp_kinds_put_of_records K) := by
  refine F.ok sc_kinds_put_of_records (fun vs H Q E h => ?_) (fun cdv A outer s H vs Q E hr h => ?_)
  · obtain ⟨mk, rt, tt, ms, zs, ps, p, r, bx, tk, ts, rfl, hM, hg, hR, hok, hrec, hT, hK, htk, q⟩ := h
    rfl
  obtain ⟨mk, rt, tt, ms, zs, ps, p, r, bx, tk, ts, rfl, hM, hg, hR, hok, hrec, hT, hK, htk, q⟩ := h
  refine ⟨_, (pss_cons (ps_set (i := 3) sc_kinds_put_of_records.nd rfl (Or.inl rfl) (pe_ix ix_tup (pv 1) pe_int (fun _ _ => rfl)))
      (pss_cons (ps_set (i := 4) sc_kinds_put_of_records.nd rfl (Or.inl rfl) (pe_ix ix_tup (pv 1) pe_int (fun _ _ => rfl)))
      (pss_cons (ps_if (pt_cmpR op_eq (pv 3) pe_str (nomark _)) (pss_one (ps_ret (pe_tup (pa_cons (pe_tup (pa_cons pe_str (pa_cons (pv 4) (pa_cons pe_int pa_nil)))) pa_nil)))) pss_nil)
      (pss_cons (ps_if (pt_cmpR op_eq (pv 3) pe_str (nomark _)) (pss_one (ps_ret (pe_tup (pa_cons (pe_tup (pa_cons pe_str (pa_cons (pv 4) (pa_cons (pe_op op_or (pe_ix ix_tup (pe_ix ix_tup (pv 2) pe_int (fun _ _ => rfl)) pe_int (fun _ _ => rfl)) (pe_op op_shl pe_int (pe_ix ix_tup (pv 1) pe_int (fun _ _ => rfl)))) pa_nil)))) pa_nil)))) pss_nil)
      (pss_cons (ps_if (pt_cmpR op_eq (pv 3) pe_str (nomark _)) (pss_one (ps_ret (pe_tup (pa_cons (pe_tup (pa_cons pe_str (pa_cons (pv 4) pa_nil))) pa_nil)))) pss_nil)
      (pss_cons (ps_if (pt_cmpR op_eq (pv 3) pe_str (nomark _)) (pss_one (ps_ret (pe_tup (pa_cons (pe_ix ix_list (pe_ch h_fields_of (hr.mono (by decide)) rfl (pa_cons (pv 0) (pa_cons (pv 4) pa_nil))) (pe_ix ix_tup (pv 1) pe_int (fun _ _ => rfl)) (fun _ _ => rfl)) pa_nil)))) pss_nil)
      (pss_one (ps_ret (pe_tup pa_nil))))))))), ?_⟩
  have h1 : ∃ c : Nat, ∃ ns : List Int, rwN r = (c : Int) :: ns := by
    rcases (by decide +kernel : ∀ s ∈ recL, s = "make" ∨ s = "fill" ∨ s = "begin" ∨ s = "get" ∨ s = "put") _ hrec with e | e | e | e | e
    · obtain ⟨c, rfl⟩ := is_make hok e; exact ⟨c, _, rfl⟩
    · obtain ⟨c, f, rfl⟩ := is_fill hok e; exact ⟨c, _, rfl⟩
    · obtain ⟨c, rfl⟩ := is_beg hok e; exact ⟨c, _, rfl⟩
    · obtain ⟨c, f, rfl⟩ := is_get hok e; exact ⟨c, _, rfl⟩
    · obtain ⟨c, f, rfl⟩ := is_put hok e; exact ⟨c, _, rfl⟩
  obtain ⟨c, ns, hN⟩ := h1
  have hat : (rwV r)[1]? = some (.int (c : Int)) := by unfold rwV; rw [hN]; rfl
  refine ⟨_, rfl, rt, _, _, _, rfl, rfl, hR, atI_nat (j := 0) rfl, ?_⟩
  refine ⟨_, rfl, rt, _, _, _, rfl, rfl, hR, atI_nat (j := 1) hat, ?_⟩
  dsimp only [gName]
  refine tSeq_hide (fun R kk => ?_)
  refine ⟨_, rfl, rfl, _, rfl, stepS (fun z => ?_) (fun z1 => kk _ _ ?_)⟩
  · obtain ⟨c', rfl⟩ := is_make hok z
    cases hN
    refine ⟨_, rfl, (by show 3 ≤ sizeLine; decide), fun u hu => ⟨(by show 1 ≤ sizeLine; decide), fun w hw => ?_⟩⟩
    have s1 := same_new hu (.tup [.str "raw", .int (c : Int), .int 0])
    have s2 := same_new hw (.tup [.ref u])
    exact q w _ _ (s1.trans s2) (SqT.of upd_same) (.mk1 ⟨u, rfl, s2.tup (SqT.of upd_same)⟩)
  clear kk R
  refine tSeq_hide (fun R kk => ?_)
  refine ⟨_, rfl, rfl, _, rfl, stepS (fun z => ?_) (fun z2 => kk _ _ ?_)⟩
  · obtain ⟨c', f, rfl⟩ := is_fill hok z
    cases hN
    obtain ⟨z', hz, hf⟩ : ∃ z, zs[c]? = some z ∧ f < z := hok
    have h6 := hg.six z' (List.mem_of_getElem? hz)
    obtain ⟨m, hm⟩ := htk.fill c f rfl
    obtain ⟨y, hy, hyk⟩ := hK.item (i := 0) (List.getElem?_eq_some_iff.mp hm).1
    rw [hm] at hyk
    obtain ⟨yt, rfl, hyt⟩ := hyk
    have ep : putK ms ps bx tk (.fill c f) = [.raw c (m ||| 2 ^ f)] := by
      show [Kd.raw c (bitsOf ((tk[0]?).getD .any) ||| 2 ^ f)] = _
      rw [hm]
      rfl
    rw [ep] at q
    have eb : Builtin.bitOr (m : Int) (1 * 2 ^ ((f : Nat) : Int).toNat) = ((m ||| 2 ^ f : Nat) : Int) := by
      rw [Int.toNat_natCast, Int.one_mul, ← bitOr_nat]
      rfl
    refine ⟨_, rfl, _, rfl, tt, _, _, _, rfl, rfl, hT, atI_nat (j := 0) hy, yt, _, _, _, rfl, rfl, hyt, atI_nat (j := 2) rfl, _, rfl, rt, _, _, _, rfl, rfl, hR, atI_nat (j := 2) rfl, _, _, rfl, rfl, ⟨by omega, by omega, by decide⟩, _, _, rfl, rfl, (by show 3 ≤ sizeLine; decide), fun u hu => ⟨(by show 1 ≤ sizeLine; decide), fun w hw => ?_⟩⟩
    have s1 := same_new hu (.tup [.str "raw", .int (c : Int), .int (Builtin.bitOr (m : Int) (1 * 2 ^ ((f : Nat) : Int).toNat))])
    have s2 := same_new hw (.tup [.ref u])
    refine q w _ _ (s1.trans s2) (SqT.of upd_same) (.mk1 ⟨u, rfl, s2.tup (SqT.of ?_)⟩)
    show _ = some (HO.tup [.str "raw", .int (c : Int), .int ((m ||| 2 ^ f : Nat) : Int)])
    rw [← eb]
    exact upd_same
  clear kk R
  refine tSeq_hide (fun R kk => ?_)
  refine ⟨_, rfl, rfl, _, rfl, stepS (fun z => ?_) (fun z3 => kk _ _ ?_)⟩
  · obtain ⟨c', rfl⟩ := is_beg hok z
    cases hN
    refine ⟨_, rfl, (by show 2 ≤ sizeLine; decide), fun u hu => ⟨(by show 1 ≤ sizeLine; decide), fun w hw => ?_⟩⟩
    have s1 := same_new hu (.tup [.str "whole", .int (c : Int)])
    have s2 := same_new hw (.tup [.ref u])
    exact q w _ _ (s1.trans s2) (SqT.of upd_same) (.mk1 ⟨u, rfl, s2.tup (SqT.of upd_same)⟩)
  clear kk R
  refine tSeq_hide (fun R kk => ?_)
  refine ⟨_, rfl, rfl, _, rfl, stepS (fun z => ?_) (fun z4 => kk _ _ ?_)⟩
  · obtain ⟨c', f, rfl⟩ := is_get hok z
    cases hN
    obtain ⟨z', hz, hf⟩ : ∃ z, zs[c]? = some z ∧ f < z := hok
    have hc : c < ms.length := by rw [hg.len]; exact (List.getElem?_eq_some_iff.mp hz).1
    obtain ⟨z2, hz2, e2⟩ := hg.fields_len c hc
    rw [hz] at hz2
    cases hz2
    refine ⟨_, rfl, _, rfl, mk, ms, c, rfl, hM, hg.wf, hg.fewF, hc, fun r2 ks2 H2 s2 n2 g2 hR2 => ?_⟩
    have hK2 := KIt.ofRd hR2
    obtain ⟨y, hy, hyk⟩ := hK2.item (i := f) (by omega)
    refine ⟨_, rfl, rt, _, _, _, rfl, rfl, s2.tup hR, atI_nat (j := 2) rfl, r2, ks2, _, _, rfl, rfl, SqL.of g2, atI_nat hy, (by show 1 ≤ sizeLine; decide), fun w hw => ?_⟩
    have s3 := same_new hw (.tup [y])
    exact q w _ _ (s2.trans s3) (SqT.of upd_same) (.mk1 (hyk.same (s2.trans s3)))
  clear kk R
  have e5 : rwS r = "put" := by
    rcases (by decide +kernel : ∀ s ∈ recL, s = "make" ∨ s = "fill" ∨ s = "begin" ∨ s = "get" ∨ s = "put") _ hrec with e | e | e | e | e
    · exact absurd e z1
    · exact absurd e z2
    · exact absurd e z3
    · exact absurd e z4
    · exact e
  obtain ⟨c', f, rfl⟩ := is_put hok e5
  refine ⟨(by show 0 ≤ sizeLine; decide), fun w hw => ?_⟩
  exact q w _ _ (same_new hw (.tup [])) (SqT.of upd_same) (KIt.nil K _)
theorem sc_leaves : FnScope ["row"] ["row"] (defScope s_leaves) := ⟨rfl, rfl, rfl, by decide +kernel, rfl, by decide +kernel, by decide +kernel⟩
theorem ok_leaves {f : Addr} {fd : FuncData} (F : Fun K "leaves" "leaves" s_leaves f fd) {d_LEFT : Addr} (g_LEFT : mg "LEFT" = some (.ref d_LEFT)) (c_LEFT : DiD K w d_LEFT kd_LEFT) : FnOk P w K mg base CX0 1 f fd ["row"] (sp_leaves K) := by
  refine F.ok sc_leaves (fun vs H Q E h => ?_) (fun cdv A outer s H vs Q E hr h => ?_)
  · obtain ⟨rw', sign, xs, rfl, hR, q⟩ := h
    rfl
  obtain ⟨rw', sign, xs, rfl, hR, q⟩ := h
  refine ⟨_, (pss_one (ps_ret (pe_getK (pe_glob (v := .ref d_LEFT) rfl g_LEFT rfl) (pa_cons (pe_ix ix_tup (pv 0) pe_int (fun _ _ => rfl)) (pa_cons pe_int pa_nil))))), ?_⟩
  refine ⟨d_LEFT, kd_LEFT, rfl, c_LEFT, _, rfl, rw', _, _, _, rfl, rfl, hR, atI_nat (j := 0) rfl, sign, _, rfl, fun hn => ?_, fun dt hd v hv => ?_⟩
  · unfold leftOf at q
    rw [hn] at q
    exact q
  · obtain ⟨i, rfl⟩ := left_int hd
    unfold leftOf at q
    rw [hd] at q
    rw [RdV.intInv (hv H)]
    exact q
theorem sc_kinds_put : FnScope ["book", "row", "boxes", "took", "sign"] ["book", "row", "boxes", "took"] (defScope s_kinds_put) := ⟨rfl, rfl, rfl, by decide +kernel, rfl, by decide +kernel, by decide +kernel⟩
theorem ok_kinds_put {f : Addr} {fd : FuncData} (F : Fun K "kinds_put" "kinds_put" s_kinds_put f fd) {d_OF_RECORDS : Addr} (g_OF_RECORDS : mg "OF_RECORDS" = some (.ref d_OF_RECORDS)) (c_OF_RECORDS : ∀ H : Hp, RdV K H (.ref d_OF_RECORDS) kd_OF_RECORDS) (o_OF_RECORDS : ∃ o, K.lookup d_OF_RECORDS = some o ∧ o.cls = .type "tuple" ∧ o.dict = none) (h_kinds_put_of_records : Has P w K mg base CX0 "kinds_put_of_records" 3 ["makes", "row", "took"] (sp_kinds_put_of_records K)) (h_leaves : Has P w K mg base CX0 "leaves" 1 ["row"] (sp_leaves K)) : FnOk P w K mg base CX0 4 f fd ["book", "row", "boxes", "took"] (sp_kinds_put K) := by
  refine F.ok sc_kinds_put (fun vs H Q E h => ?_) (fun cdv A outer s H vs Q E hr h => ?_)
  · obtain ⟨b, rt, bt, tt, ms, zs, ps, p, r, bx, tk, bs, ts, rfl, hB, hg, hR, hok, hb, hBK, lb, hT, hK, htk, q⟩ := h
    rfl
  obtain ⟨b, rt, bt, tt, ms, zs, ps, p, r, bx, tk, bs, ts, rfl, hB, hg, hR, hok, hb, hBK, lb, hT, hK, htk, q⟩ := h
  refine ⟨_, (pss_cons (ps_set (i := 4) sc_kinds_put.nd rfl (Or.inl rfl) (pe_ix ix_tup (pv 1) pe_int (fun _ _ => rfl)))
      (pss_cons (ps_if (pt_cmpR op_eq (pv 4) pe_str (nomark _)) (pss_one (ps_ret (pe_tup (pa_cons (pe_ix ix_tup (pv 2) (pe_ix ix_tup (pv 1) pe_int (fun _ _ => rfl)) (fun _ _ => rfl)) pa_nil)))) pss_nil)
      (pss_cons (ps_if (pt_cmpR op_eq (pv 4) pe_str (nomark _)) (pss_one (ps_ret (pe_tup (pa_cons (pe_ix ix_tup (pv 3) pe_int (fun _ _ => rfl)) (pa_cons (pe_ix ix_tup (pv 3) pe_int (fun _ _ => rfl)) pa_nil))))) pss_nil)
      (pss_cons (ps_if (pt_cmpR op_eq (pv 4) pe_str (nomark _)) (pss_one (ps_ret (pe_tup (pa_cons (pe_ix ix_tup (pv 3) pe_int (fun _ _ => rfl)) (pa_cons (pe_ix ix_tup (pv 3) pe_int (fun _ _ => rfl)) pa_nil))))) pss_nil)
      (pss_cons (ps_if (pt_cmpR op_eq (pv 4) pe_str (nomark _)) (pss_one (ps_ret (pe_tup (pa_cons (pe_ix ix_tup (pv 3) pe_int (fun _ _ => rfl)) pa_nil)))) pss_nil)
      (pss_cons (ps_if (pt_cmpR op_eq (pv 4) pe_str (nomark _)) (pss_one (ps_ret (pe_tup (pa_cons (pe_ix ix_tup (pe_ix ix_list (pe_ix ix_tup (pv 0) pe_int (fun _ _ => rfl)) (pe_ix ix_tup (pv 1) pe_int (fun _ _ => rfl)) (fun _ _ => rfl)) pe_int (fun _ _ => rfl)) pa_nil)))) pss_nil)
      (pss_cons (ps_if (pt_cmpR op_in_seq (pv 4) (pe_glob (v := .ref d_OF_RECORDS) rfl g_OF_RECORDS rfl) rfl) (pss_one (ps_ret (pe_ch h_kinds_put_of_records (hr.mono (by decide)) rfl (pa_cons (pe_ix ix_tup (pv 0) pe_int (fun _ _ => rfl)) (pa_cons (pv 1) (pa_cons (pv 3) pa_nil)))))) pss_nil)
      (pss_one (ps_ret (pe_op op_repT (pe_tup (pa_cons (pe_tup (pa_cons pe_str pa_nil)) pa_nil)) (pe_ch h_leaves (hr.mono (by decide)) rfl (pa_cons (pv 1) pa_nil)))))))))))), ?_⟩
  obtain ⟨b', mk, pl, xs, e, hBT, hM, hL, hP⟩ := bk_inv hB
  cases e
  refine ⟨_, rfl, rt, _, _, _, rfl, rfl, hR, atI_nat (j := 0) rfl, ?_⟩
  dsimp only [gName]
  refine tSeq_hide (fun R kk => ?_)
  refine ⟨_, rfl, rfl, _, rfl, stepS (fun z => ?_) (fun z1 => kk _ _ ?_)⟩
  · obtain ⟨w, rfl⟩ := is_load hok z
    have hw : w < p.boxes := hok
    obtain ⟨y, hy, hyk⟩ := hBK.item (i := w) (by omega)
    refine ⟨_, rfl, _, rfl, rt, _, _, _, rfl, rfl, hR, atI_nat (j := 1) rfl, bt, _, _, _, rfl, rfl, hb, atI_nat hy, (by show 1 ≤ sizeLine; decide), fun u hu => ?_⟩
    have s1 := same_new hu (.tup [y])
    exact q u _ _ s1 (SqT.of upd_same) (.mk1 (hyk.same s1))
  clear kk R
  refine tSeq_hide (fun R kk => ?_)
  refine ⟨_, rfl, rfl, _, rfl, stepS (fun z => ?_) (fun z2 => kk _ _ ?_)⟩
  · have er := is_bare hok (by rw [z]; decide +kernel)
    rw [z] at er
    subst er
    have l1 := htk.len
    have l2 : (askK ms ps p (.bare "dup")).length = 1 := by rw [ask_l1 (zs := zs) hok (by show ("dup" : Str) ∈ _; decide +kernel)]; rfl
    obtain ⟨y, hy, hyk⟩ := hK.item (i := 0) (by omega)
    refine ⟨_, rfl, tt, _, _, _, rfl, rfl, hT, atI_nat (j := 0) hy, _, rfl, tt, _, _, _, rfl, rfl, hT, atI_nat (j := 0) hy, (by show 2 ≤ sizeLine; decide), fun u hu => ?_⟩
    have s1 := same_new hu (.tup [y, y])
    exact q u _ _ s1 (SqT.of upd_same) (.mk2 (hyk.same s1) (hyk.same s1))
  clear kk R
  refine tSeq_hide (fun R kk => ?_)
  refine ⟨_, rfl, rfl, _, rfl, stepS (fun z => ?_) (fun z3 => kk _ _ ?_)⟩
  · have er := is_bare hok (by rw [z]; decide +kernel)
    rw [z] at er
    subst er
    have l1 := htk.len
    have l2 : (askK ms ps p (.bare "swap")).length = 2 := by rw [ask_l2 (zs := zs) hok rfl]; rfl
    obtain ⟨y, hy, hyk⟩ := hK.item (i := 0) (by omega)
    obtain ⟨y', hy', hyk'⟩ := hK.item (i := 1) (by omega)
    refine ⟨_, rfl, tt, _, _, _, rfl, rfl, hT, atI_nat (j := 1) hy', _, rfl, tt, _, _, _, rfl, rfl, hT, atI_nat (j := 0) hy, (by show 2 ≤ sizeLine; decide), fun u hu => ?_⟩
    have s1 := same_new hu (.tup [y', y])
    exact q u _ _ s1 (SqT.of upd_same) (.mk2 (hyk'.same s1) (hyk.same s1))
  clear kk R
  refine tSeq_hide (fun R kk => ?_)
  refine ⟨_, rfl, rfl, _, rfl, stepS (fun z => ?_) (fun z4 => kk _ _ ?_)⟩
  · obtain ⟨c, w, rfl⟩ := is_kin hok z
    have l1 : tk.length = 1 := htk.len
    obtain ⟨y, hy, hyk⟩ := hK.item (i := 0) (by omega)
    refine ⟨_, rfl, tt, _, _, _, rfl, rfl, hT, atI_nat (j := 0) hy, (by show 1 ≤ sizeLine; decide), fun u hu => ?_⟩
    have s1 := same_new hu (.tup [y])
    exact q u _ _ s1 (SqT.of upd_same) (.mk1 (hyk.same s1))
  clear kk R
  refine tSeq_hide (fun R kk => ?_)
  refine ⟨_, rfl, rfl, _, rfl, stepS (fun z => ?_) (fun z5 => kk _ _ ?_)⟩
  · obtain ⟨w, rfl⟩ := is_call hok z
    have hq : w < ps.length := hok
    obtain ⟨v, hv, hvr⟩ := bk_part hP (List.getElem?_eq_getElem hq)
    obtain ⟨t, l0, l4, l5, ks, vs4, vs5, f1, rfl, hTt, hl0, hk, rg, hl4, hk4, hl5, hk5⟩ := pt_inv hvr
    refine ⟨_, rfl, b, _, _, _, rfl, rfl, hBT, atI_nat (j := 1) rfl, _, rfl, rt, _, _, _, rfl, rfl, hR, atI_nat (j := 1) rfl, pl, _, _, _, rfl, rfl, hL, atI_nat hv, t, _, _, _, rfl, rfl, hTt, atI_nat (j := 1) rfl, (by show 1 ≤ sizeLine; decide), fun u hu => ?_⟩
    have s1 := same_new hu (.tup [f1])
    have e : putK ms ps bx tk (.call w) = [ps[w].gives] := by
      show [((ps[w]?).map Pt.gives).getD .any] = _
      rw [List.getElem?_eq_getElem hq]
      rfl
    rw [e] at q
    exact q u _ _ s1 (SqT.of upd_same) (.mk1 ((kd_inv rg).same s1))
  clear kk R
  refine tSeq_hide (fun R kk => ?_)
  refine ⟨_, rfl, d_OF_RECORDS, recL.map V.str, rfl, .inr (const_tup c_OF_RECORDS H), rfl, flat_strs _, _, rfl, stepL (fun z => ?_) (fun z6 => kk _ _ ?_)⟩
  · exact ⟨_, rfl, b, _, _, _, rfl, rfl, hBT, atI_nat (j := 0) rfl, _, rfl, _, rfl, mk, rt, tt, ms, zs, ps, p, r, bx, tk, ts, rfl, hM, hg, hR, hok, z, hT, hK, htk, q⟩
  clear kk R
  obtain ⟨n, hn1, hn2, hn3⟩ := put_rest (ms := ms) (ps := ps) (bx := bx) (tk := tk) hok z1 z2 z3 z4 z5 z6
  rw [hn3] at q
  refine ⟨(by show 1 ≤ sizeLine; decide), fun u hu => ⟨(by show 1 ≤ sizeLine; decide), fun w hw => ?_⟩⟩
  have s1 := same_new hu (.tup [.str "number"])
  have s2 := same_new hw (.tup [.ref u])
  have S2 := s1.trans s2
  have ku : KAt K (upd (upd H u (.tup [.str "number"])) w (.tup [.ref u])) (.ref u) .num := ⟨u, rfl, s2.tup (SqT.of upd_same)⟩
  have gw := upd_same (H := upd H u (.tup [.str "number"])) (a := w) (o := .tup [.ref u])
  generalize upd (upd H u (.tup [.str "number"])) w (.tup [.ref u]) = H2 at S2 ku gw ⊢
  have hn : (leftOf (rwS r)).toNat = n := by omega
  refine ⟨_, rfl, rt, rwS r, _, rfl, S2.tup hR, w, _, _, rfl, rfl, SqT.of gw, (by simp), by omega, by omega, ?_, fun a4 H4 s4 h4 => ?_⟩
  · rw [hn]
    exact Nat.le_of_lt (small1000 (by simp; omega))
  rw [hn] at h4
  have e4 : (List.replicate n [V.ref u]).flatten = List.replicate n (V.ref u) := by
    clear hn hn1 hn2 hn3 h4 q
    induction n with
    | zero => rfl
    | succ n ih => rw [List.replicate_succ, List.flatten_cons, ih, List.replicate_succ]; rfl
  rw [e4] at h4
  exact q a4 _ H4 (S2.trans s4) h4 (KIt.rep (ku.same s4) n)
theorem sc_replaced : FnScope ["some", "spot", "thing"] ["some", "spot", "thing"] (defScope s_replaced) := ⟨rfl, rfl, rfl, by decide +kernel, rfl, by decide +kernel, by decide +kernel⟩
theorem ok_replaced {f : Addr} {fd : FuncData} (F : Fun K "replaced" "replaced" s_replaced f fd) : FnOk P w K mg base CX0 1 f fd ["some", "spot", "thing"] (sp_replaced K) := by
  refine F.ok sc_replaced (fun vs H Q E h => ?_) (fun cdv A outer s H vs Q E hr h => ?_)
  · obtain ⟨t, xs, i, v, rfl, hT, hi, h100, q⟩ := h
    rfl
  obtain ⟨t, xs, i, v, rfl, hT, hi, h100, q⟩ := h
  refine ⟨_, (pss_one (ps_ret (pe_op op_catG (pe_op op_catG (pe_slice sl_tupG (pv 0) po_none (po_some (pv 1))) (pe_tup (pa_cons (pv 2) pa_nil))) (pe_slice sl_tupG (pv 0) (po_some (pe_op op_add (pv 1) pe_int)) po_none)))), ?_⟩
  refine ⟨_, rfl, _, rfl, _, rfl, t, xs, rfl, hT, fun a1 H1 s1 h1 => ?_⟩
  rw [cut_upto] at h1
  refine ⟨_, rfl, (by show 1 ≤ sizeLine; decide), fun u hu => ?_⟩
  have w1 := same_new hu (.tup [v])
  have l1 : (xs.take i).length ≤ 100 := by rw [List.length_take]; omega
  refine ⟨a1, u, _, _, rfl, rfl, w1.tup h1, SqT.of upd_same, Nat.le_of_lt (small1000 (by simp; omega)), fun a2 H2 s2 h2 => ?_⟩
  have S2 := s1.trans (w1.trans s2)
  refine ⟨_, rfl, _, rfl, _, _, rfl, rfl, _, rfl, t, xs, rfl, S2.tup hT, fun a3 H3 s3 h3 => ?_⟩
  have e3 : cutV xs (some ((i : Int) + 1)) none = xs.drop (i + 1) := cut_from (xs := xs) (n := i + 1) (by omega)
  rw [e3] at h3
  refine ⟨a2, a3, _, _, rfl, rfl, s3.tup h2, h3, Nat.le_of_lt (small1000 (by simp; omega)), fun r H4 s4 h4 => ?_⟩
  rw [set_split hi] at h4
  exact q r H4 (S2.trans (s3.trans s4)) h4
theorem sc_stand_behind : FnScope ["book", "part", "row", "stand", "boxes", "under", "took", "stack"] ["book", "part", "row", "stand"] (defScope s_stand_behind) := ⟨rfl, rfl, rfl, by decide +kernel, rfl, by decide +kernel, by decide +kernel⟩
theorem ok_stand_behind {f : Addr} {fd : FuncData} (F : Fun K "stand_behind" "stand_behind" s_stand_behind f fd) (z_len : mg "len" = none) (h_asked : Has P w K mg base CX0 "asked" 5 ["book", "part", "row"] (sp_asked K)) (h_kinds_put : Has P w K mg base CX0 "kinds_put" 4 ["book", "row", "boxes", "took"] (sp_kinds_put K)) (h_replaced : Has P w K mg base CX0 "replaced" 1 ["some", "spot", "thing"] (sp_replaced K)) : FnOk P w K mg base CX0 6 f fd ["book", "part", "row", "stand"] (sp_stand_behind K) := by
  refine F.ok sc_stand_behind (fun vs H Q E h => ?_) (fun cdv A outer s H vs Q E hr h => ?_)
  · obtain ⟨b, ms, zs, ps, j, p, rt, r, v, bx, st, n, rfl, hB, hg, hp, hR, hok, hv, lb, h8, h50, hn, htk, q⟩ := h
    rfl
  obtain ⟨b, ms, zs, ps, j, p, rt, r, v, bx, st, n, rfl, hB, hg, hp, hR, hok, hv, lb, h8, h50, hn, htk, q⟩ := h
  refine ⟨_, (pss_cons (ps_set (i := 4) sc_stand_behind.nd rfl (Or.inl rfl) (pe_ix ix_tup (pv 3) pe_int (fun _ _ => rfl)))
      (pss_cons (ps_set (i := 5) sc_stand_behind.nd rfl (Or.inl rfl) (pe_op op_sub (pe_callB call_len_seq rfl z_len bt_len (pa_cons (pe_ix ix_tup (pv 3) pe_int (fun _ _ => rfl)) pa_nil)) (pe_callB call_len_seq rfl z_len bt_len (pa_cons (pe_ch h_asked (hr.mono (by decide)) rfl (pa_cons (pv 0) (pa_cons (pv 1) (pa_cons (pv 2) pa_nil)))) pa_nil))))
      (pss_cons (ps_set (i := 6) sc_stand_behind.nd rfl (Or.inl rfl) (pe_slice sl_tupG (pe_ix ix_tup (pv 3) pe_int (fun _ _ => rfl)) (po_some (pv 5)) po_none))
      (pss_cons (ps_set (i := 7) sc_stand_behind.nd rfl (Or.inl rfl) (pe_op op_catG (pe_slice sl_tupG (pe_ix ix_tup (pv 3) pe_int (fun _ _ => rfl)) po_none (po_some (pv 5))) (pe_ch h_kinds_put (hr.mono (by decide)) rfl (pa_cons (pv 0) (pa_cons (pv 2) (pa_cons (pv 4) (pa_cons (pv 6) pa_nil)))))))
      (pss_cons (ps_if (pt_cmpR op_eq (pe_ix ix_tup (pv 2) pe_int (fun _ _ => rfl)) pe_str (nomark _)) (pss_one (ps_set (i := 4) sc_stand_behind.nd rfl (Or.inl rfl) (pe_ch h_replaced (hr.mono (by decide)) rfl (pa_cons (pv 4) (pa_cons (pe_ix ix_tup (pv 2) pe_int (fun _ _ => rfl)) (pa_cons (pe_ix ix_tup (pv 6) pe_int (fun _ _ => rfl)) pa_nil)))))) pss_nil)
      (pss_one (ps_ret (pe_tup (pa_cons (pv 4) (pa_cons (pv 7) pa_nil)))))))))), ?_⟩
  obtain ⟨b', mk, pl, xs, e, hBT, hM, hL, hP⟩ := bk_inv hB
  cases e
  obtain ⟨vt, tb, ts, bs, ss, rfl, hV, hb, hBK, hs, hSK⟩ := sd_inv hv
  have lss := hSK.1
  have lbs := hBK.1
  refine ⟨_, rfl, vt, _, _, _, rfl, rfl, hV, atI_nat (j := 0) rfl, ?_⟩
  dsimp only [gName]
  refine tSeq_hide (fun R kk => ?_)
  refine ⟨_, rfl, vt, _, _, _, rfl, rfl, hV, atI_nat (j := 1) rfl, ts, ss, rfl, .inr hs, _, rfl, _, rfl, _, rfl, b, mk, pl, rt, j, rwS r, (rwN r).map V.int, askK ms ps p r, rfl, hBT, hR, asks_of hM hg hL hP hp hok, fun wa ws H1 s1 n1 g1 hW => ?_⟩
  have lws := hW.1
  rw [List.length_map] at lws
  refine ⟨wa, ws, rfl, .inl (SqL.of g1), _, _, rfl, rfl, kk _ _ ?_⟩
  clear kk R
  have eu : ((ss.length : Nat) : Int) - ((ws.length : Nat) : Int) = ((n : Nat) : Int) := by omega
  dsimp only
  rw [eu]
  refine tSeq_hide (fun R kk => ?_)
  refine ⟨_, rfl, vt, _, _, _, rfl, rfl, s1.tup hV, atI_nat (j := 1) rfl, _, rfl, _, rfl, ts, ss, rfl, s1.tup hs, fun ca H2 s2 hc => kk _ _ ?_⟩
  clear kk R
  rw [cut_from (by omega)] at hc
  have S2 := s1.trans s2
  refine tSeq_hide (fun R kk => ?_)
  refine ⟨_, rfl, vt, _, _, _, rfl, rfl, S2.tup hV, atI_nat (j := 1) rfl, _, rfl, _, rfl, ts, ss, rfl, S2.tup hs, fun cb H3 s3 hcb => ?_⟩
  rw [cut_to] at hcb
  have S3 := S2.trans s3
  refine ⟨_, rfl, _, rfl, _, rfl, _, rfl, b, rt, tb, ca, ms, zs, ps, p, r, bx, st.drop n, bs, ss.drop n, rfl, hB.same S3, hg, S3.tup hR, hok, S3.tup hb, hBK.same S3, lb, s3.tup hc, (hSK.same S3).drop n, htk, fun kt kys H4 s4 hkt hkK => ?_⟩
  have lk := hkK.1
  have l2 := put_few (ms := ms) (ps := ps) (bx := bx) (tk := st.drop n) (r := r)
  refine ⟨cb, kt, _, _, rfl, rfl, s4.tup hcb, hkt, Nat.le_of_lt (small1000 (by rw [List.length_take]; omega)), fun sk H5 s5 hsk => kk _ _ ?_⟩
  clear kk R
  have S5 := S3.trans (s4.trans s5)
  have kS : KIt K H5 (ss.take n ++ kys) (st.take n ++ putK ms ps bx (st.drop n) r) := KIt.append ((hSK.same S5).take n) (hkK.same s5)
  have c5 := (s3.trans (s4.trans s5)).tup hc
  have kD := (hSK.same S5).drop n
  generalize ss.take n ++ kys = sys at hsk kS
  clear hcb hkt hkK s4 s3 s2 S2 S3 hc lk l2
  refine tSeq_hide (fun R kk => ?_)
  have fin : ∀ (nb : Addr) (bs' : List V) (H' : Hp), Same H5 H' → SqT K H' nb bs' → KIt K H' bs' (boxB bx (st.drop n) r) → R [some (.ref b), some (.int (j : Int)), some (.ref rt), some (.ref vt), some (.ref nb), some (.int (n : Int)), some (.ref ca), some (.ref sk)] H' := fun nb bs' H' s' h1 h2 => kk _ _ (by
    refine ⟨_, rfl, _, rfl, (by show 2 ≤ sizeLine; decide), fun w hw => ?_⟩
    have u1 := same_new hw (.tup [.ref nb, .ref sk])
    exact q w _ (S5.trans (s'.trans u1)) (rd_sd (SqT.of upd_same) (u1.tup h1) (h2.same u1) ((s'.trans u1).tup hsk) (kS.same (s'.trans u1))))
  clear kk
  refine ⟨_, rfl, rt, _, _, _, rfl, rfl, S5.tup hR, atI_nat (j := 0) rfl, rfl, _, rfl, stepS (fun z => ?_) (fun z1 => ?_)⟩
  · obtain ⟨w, rfl⟩ := is_store hok z
    have hw : w < p.boxes := hok
    have l1 : (st.drop n).length = 1 := htk.len
    obtain ⟨y, hy, hyk⟩ := kD.item (i := 0) (by omega)
    refine ⟨_, rfl, _, rfl, rt, _, _, _, rfl, rfl, S5.tup hR, atI_nat (j := 1) rfl, _, rfl, ca, _, _, _, rfl, rfl, c5, atI_nat (j := 0) hy, tb, bs, w, y, rfl, S5.tup hb, by omega, by omega, fun rr H6 s6 h6 => ?_⟩
    obtain ⟨yt, rfl, hyt⟩ := hyk
    exact fin rr _ H6 s6 h6 (KIt.set ((hBK.same (S5.trans s6))) (s6.tup hyt))
  · dsimp only [tNext]
    refine fin tb bs H5 (Same.refl _) (S5.tup hb) ?_
    rw [box_else z1]
    exact hBK.same S5
theorem sc_outs : FnScope ["book", "part", "at", "stand", "row", "sign", "told", "behind", "caught"] ["book", "part", "at", "stand"] (defScope s_outs) := ⟨rfl, rfl, rfl, by decide +kernel, rfl, by decide +kernel, by decide +kernel⟩
theorem ok_outs {f : Addr} {fd : FuncData} (F : Fun K "outs" "outs" s_outs f fd) {d_ENDING : Addr} (g_ENDING : mg "ENDING" = some (.ref d_ENDING)) (c_ENDING : ∀ H : Hp, RdV K H (.ref d_ENDING) kd_ENDING) (o_ENDING : ∃ o, K.lookup d_ENDING = some o ∧ o.cls = .type "tuple" ∧ o.dict = none) {d_FAULTING : Addr} (g_FAULTING : mg "FAULTING" = some (.ref d_FAULTING)) (c_FAULTING : ∀ H : Hp, RdV K H (.ref d_FAULTING) kd_FAULTING) (o_FAULTING : ∃ o, K.lookup d_FAULTING = some o ∧ o.cls = .type "tuple" ∧ o.dict = none) {d_GOING : Addr} (g_GOING : mg "GOING" = some (.ref d_GOING)) (c_GOING : ∀ H : Hp, RdV K H (.ref d_GOING) kd_GOING) (o_GOING : ∃ o, K.lookup d_GOING = some o ∧ o.cls = .type "tuple" ∧ o.dict = none) (h_catcher : Has P w K mg base CX0 "catcher" 1 ["stretches", "at"] (sp_catcher K)) (h_stand_behind : Has P w K mg base CX0 "stand_behind" 6 ["book", "part", "row", "stand"] (sp_stand_behind K)) : FnOk P w K mg base CX0 7 f fd ["book", "part", "at", "stand"] (sp_outs K) := by
  refine F.ok sc_outs (fun vs H Q E h => ?_) (fun cdv A outer s H vs Q E hr h => ?_)
  · obtain ⟨b, ms, zs, ps, j, i, p, r, v, bx, st, n, rfl, hB, hg, hp, hri, hok, hv, lb, h8, h50, hn, htk, q⟩ := h
    rfl
  obtain ⟨b, ms, zs, ps, j, i, p, r, v, bx, st, n, rfl, hB, hg, hp, hri, hok, hv, lb, h8, h50, hn, htk, q⟩ := h
  refine ⟨_, (pss_cons (ps_set (i := 4) sc_outs.nd rfl (Or.inl rfl) (pe_ix ix_list (pe_ix ix_tup (pe_ix ix_list (pe_ix ix_tup (pv 0) pe_int (fun _ _ => rfl)) (pv 1) (fun _ _ => rfl)) pe_int (fun _ _ => rfl)) (pv 2) (fun _ _ => rfl)))
      (pss_cons (ps_set (i := 5) sc_outs.nd rfl (Or.inl rfl) (pe_ix ix_tup (pv 4) pe_int (fun _ _ => rfl)))
      (pss_cons (ps_set (i := 6) sc_outs.nd rfl (Or.inl rfl) (pe_lst pa_nil))
      (pss_cons (ps_set (i := 7) sc_outs.nd rfl (Or.inl rfl) (pe_ch h_stand_behind (hr.mono (by decide)) rfl (pa_cons (pv 0) (pa_cons (pv 1) (pa_cons (pv 4) (pa_cons (pv 3) pa_nil))))))
      (pss_cons (ps_if (pt_cmpR op_notIn_seq (pv 5) (pe_glob (v := .ref d_ENDING) rfl g_ENDING rfl) rfl) (pss_one (ps_expr (pe_bm PySem.F.plainAttrs_list PySem.F.slot_list_append PySem.F.type_list_append mt_append (pv 6) (pa_cons (pe_tup (pa_cons pe_str (pa_cons (pe_op op_add (pv 2) pe_int) (pa_cons (pv 7) pa_nil)))) pa_nil)))) pss_nil)
      (pss_cons (ps_if (pt_cmpR op_eq (pv 5) pe_str (nomark _)) (pss_one (ps_expr (pe_bm PySem.F.plainAttrs_list PySem.F.slot_list_append PySem.F.type_list_append mt_append (pv 6) (pa_cons (pe_tup (pa_cons pe_str (pa_cons (pe_ix ix_tup (pv 4) pe_int (fun _ _ => rfl)) (pa_cons (pe_tup (pa_cons (pe_ix ix_tup (pv 7) pe_int (fun _ _ => rfl)) (pa_cons (pe_op op_catG (pe_slice sl_tupG (pe_ix ix_tup (pv 7) pe_int (fun _ _ => rfl)) po_none (po_some (pe_un un_neg pe_int))) (pe_tup (pa_cons (pe_tup (pa_cons pe_str (pa_cons (pe_ix ix_tup (pv 4) pe_int (fun _ _ => rfl)) pa_nil))) pa_nil))) pa_nil))) pa_nil)))) pa_nil)))) (pss_one (ps_if (pt_cmpR op_in_seq (pv 5) (pe_glob (v := .ref d_GOING) rfl g_GOING rfl) rfl) (pss_one (ps_expr (pe_bm PySem.F.plainAttrs_list PySem.F.slot_list_append PySem.F.type_list_append mt_append (pv 6) (pa_cons (pe_tup (pa_cons pe_str (pa_cons (pe_ix ix_tup (pv 4) pe_int (fun _ _ => rfl)) (pa_cons (pv 7) pa_nil)))) pa_nil)))) pss_nil)))
      (pss_cons (ps_set (i := 8) sc_outs.nd rfl (Or.inl rfl) (pe_ch h_catcher (hr.mono (by decide)) rfl (pa_cons (pe_ix ix_tup (pe_ix ix_list (pe_ix ix_tup (pv 0) pe_int (fun _ _ => rfl)) (pv 1) (fun _ _ => rfl)) pe_int (fun _ _ => rfl)) (pa_cons (pv 2) pa_nil))))
      (pss_cons (ps_if (PW.pt (pw_and (pt_cmpR op_in_seq (pv 5) (pe_glob (v := .ref d_FAULTING) rfl g_FAULTING rfl) rfl) (pw_and1 (pt_cmpR op_notN (pv 8) pe_non (nomark _))))) (pss_one (ps_expr (pe_bm PySem.F.plainAttrs_list PySem.F.slot_list_append PySem.F.type_list_append mt_append (pv 6) (pa_cons (pe_tup (pa_cons pe_str (pa_cons (pv 8) (pa_cons (pe_tup (pa_cons (pe_ix ix_tup (pv 3) pe_int (fun _ _ => rfl)) (pa_cons (pe_tup (pa_cons (pe_tup (pa_cons pe_str pa_nil)) pa_nil)) pa_nil))) pa_nil)))) pa_nil)))) pss_nil)
      (pss_one (ps_ret (pv 6))))))))))), ?_⟩
  obtain ⟨b', mk, pl, xs, e, hBT, hM, hL, hP⟩ := bk_inv hB
  cases e
  obtain ⟨w0, hw0, hwr⟩ := bk_part hP hp
  obtain ⟨t, l0, l4, l5, ks, vs4, vs5, f1, rfl, hTt, hl0, hk, rg, hl4, hk4, hl5, hk5⟩ := pt_inv hwr
  obtain ⟨rv, hrv, hrr⟩ := RdAll.at hk4 (i := i) (d := rwD r) (by rw [List.getElem?_map, hri]; rfl)
  obtain ⟨rt, rfl, hR⟩ := rw_inv hrr
  refine ⟨_, rfl, b, _, _, _, rfl, rfl, hBT, atI_nat (j := 1) rfl, _, rfl, pl, _, _, _, rfl, rfl, hL, atI_nat hw0, t, _, _, _, rfl, rfl, hTt, atI_nat (j := 4) rfl, _, rfl, l4, _, _, _, rfl, rfl, hl4, atI_nat hrv, ?_⟩
  refine ⟨_, rfl, rt, _, _, _, rfl, rfl, hR, atI_nat (j := 0) rfl, ?_⟩
  refine ⟨(by show 0 ≤ sizeLine; decide), fun L nL => ?_⟩
  have u1 := same_new nL (.lst [])
  have g1 := upd_same (H := H) (a := L) (o := .lst [])
  generalize upd H L (.lst []) = H1 at u1 g1 ⊢
  dsimp only [gName]
  refine tSeq_hide (fun R kk => ?_)
  refine ⟨_, rfl, _, rfl, _, rfl, _, rfl, b, ms, zs, ps, j, p, rt, r, v, bx, st, n, rfl, hB.same u1, hg, hp, u1.tup hR, hok, hv.same u1, lb, h8, h50, hn, htk, fun bt H2 s2 rb => kk _ _ ?_⟩
  clear kk R
  have O2 : OutP K H L [] H2 := ⟨u1.trans s2, [], s2 _ _ g1, LIt.nil K _⟩
  generalize hbb : boxB bx (st.drop n) r = bb at rb
  generalize hss : st.take n ++ putK ms ps bx (st.drop n) r = ss at rb
  clear s2 g1 u1
  refine tSeq_hide (fun R kk => ?_)
  have fin : ∀ H3, RdV K H3 (.ref bt) (sdD bb ss) → OutP K H L (nextK r i bb ss) H3 → R [some (.ref b), some (.int (j : Int)), some (.int (i : Int)), some v, some (.ref rt), some (.str (rwS r)), some (.ref L), some (.ref bt), none] H3 := fun H3 r3 o3 => kk _ _ (by
    clear O2 rb kk
    refine tSeq_hide (fun R kk => ?_)
    have fin : ∀ H4, OutP K H L (nextK r i bb ss ++ jumpK bb (st.take n) ss r) H4 → R [some (.ref b), some (.int (j : Int)), some (.int (i : Int)), some v, some (.ref rt), some (.str (rwS r)), some (.ref L), some (.ref bt), none] H4 := fun H4 o4 => kk _ _ (by
      clear o3 r3 kk
      refine tSeq_hide (fun R kk => ?_)
      have S4 := o4.1
      refine ⟨_, rfl, b, _, _, _, rfl, rfl, S4.tup hBT, atI_nat (j := 1) rfl, _, rfl, pl, _, _, _, rfl, rfl, S4.seq hL, atI_nat hw0, t, _, _, _, rfl, rfl, S4.tup hTt, atI_nat (j := 5) rfl, _, rfl, l5, vs5, stsI p.spans, (i : Int), rfl, S4.seq hl5, SIt.ofRd (hk5.same S4), kk _ _ ?_⟩
      clear kk R
      refine tSeq_hide (fun R kk => ?_)
      have fin : ∀ H5, OutP K H L (nextK r i bb ss ++ jumpK bb (st.take n) ss r ++ catchK r p.spans i bx) H5 → R [some (.ref b), some (.int (j : Int)), some (.int (i : Int)), some v, some (.ref rt), some (.str (rwS r)), some (.ref L), some (.ref bt), some (optV (caught (stsI p.spans) (i : Int)))] H5 := fun H5 o5 => kk _ _ (by
        refine ⟨_, rfl, q L H5 nL ?_⟩
        unfold outsK
        rw [hbb, hss]
        exact o5)
      clear kk
      refine ⟨_, rfl, d_FAULTING, faultL.map V.str, rfl, .inr (const_tup c_FAULTING H4), rfl, flat_strs _, _, rfl, stepL (fun z => ?_) (fun z => ?_)⟩
      · have ec : catchK r p.spans i bx = catchC bx (caught (stsI p.spans) (i : Int)) := by unfold catchK; rw [if_pos z]
        rw [ec] at fin
        cases hc : caught (stsI p.spans) (i : Int) with
        | none =>
          rw [hc] at fin
          refine ⟨_, rfl, rfl, _, rfl, ?_⟩
          show if (!decide (V.non = V.non)) = true then _ else _
          rw [if_neg (by simp)]
          dsimp only [tNext]
          exact fin H4 (by simpa [catchC] using o4)
        | some g =>
          rw [hc] at fin
          obtain ⟨S4', ys, gL, hI⟩ := o4
          obtain ⟨vt, tb, ts, bs, sss, rfl, hV, hb, hBK, hs, hSK⟩ := sd_inv (hv.same S4)
          refine ⟨_, rfl, rfl, _, rfl, ?_⟩
          show if (!decide (V.int g = V.non)) = true then _ else _
          rw [if_pos (by simp)]
          refine ⟨_, rfl, .inl ⟨rfl, _, SqL.of gL⟩, _, rfl, _, rfl, vt, _, _, _, rfl, rfl, hV, atI_nat (j := 0) rfl, (by show 1 ≤ sizeLine; decide), fun a1 h1 => ⟨(by show 1 ≤ sizeLine; decide), fun a2 h2 => ⟨(by show 2 ≤ sizeLine; decide), fun a3 h3 => ⟨(by show 3 ≤ sizeLine; decide), fun a4 h4 => ?_⟩⟩⟩⟩
          have x1 := same_new h1 (.tup [.str "number"])
          have x2 := same_new h2 (.tup [.ref a1])
          have x3 := same_new h3 (.tup [.ref tb, .ref a2])
          have x4 := same_new h4 (.tup [.str "catch", .int g, .ref a3])
          have X := x1.trans (x2.trans (x3.trans x4))
          have t1 : SqT K _ a1 (kdV .num) := (x2.trans (x3.trans x4)).tup (SqT.of (upd_same (H := H4) (a := a1) (o := .tup [.str "number"])))
          have t2 : SqT K _ a2 [.ref a1] := (x3.trans x4).tup (SqT.of (upd_same (a := a2) (o := .tup [.ref a1])))
          have t3 : SqT K _ a3 [.ref tb, .ref a2] := x4.tup (SqT.of (upd_same (a := a3) (o := .tup [.ref tb, .ref a2])))
          have t4 : SqT K (upd (upd (upd (upd H4 a1 (.tup [.str "number"])) a2 (.tup [.ref a1])) a3 (.tup [.ref tb, .ref a2])) a4 (.tup [.str "catch", .int g, .ref a3])) a4 [.str "catch", .int g, .ref a3] := SqT.of upd_same
          refine ⟨L, ys, _, rfl, rfl, X _ _ gL, small1000 ?_, fin _ (OutP.add nL (S4'.trans X) (X _ _ gL) (hI.same X) t4 (rd_sd t3 (X.tup hb) (hBK.same X) t2 (.mk1 ⟨a1, rfl, t1⟩)))⟩
          have l2 := lead_few (r := r) (i := i) (b := bb) (s := ss) (lo := st.take n) (s' := ss) (b' := bb)
          have l3 := hI.1
          omega
      · have ec : catchK r p.spans i bx = [] := by unfold catchK; rw [if_neg z]
        rw [ec] at fin
        dsimp only [tNext]
        exact fin H4 (by simpa using o4))
    clear kk
    obtain ⟨S3, ys, gL, hI⟩ := id o3
    have l2 := next_few (r := r) (i := i) (b := bb) (s := ss)
    have l3 := hI.1
    refine ⟨_, rfl, rfl, _, rfl, stepS (fun z => ?_) (fun z1 => ?_)⟩
    · obtain ⟨c, w, rfl⟩ := is_kin hok z
      obtain ⟨vt, tb, ts, bs, sss, e, hV, hb, hBK, hs, hSK⟩ := sd_inv r3
      cases e
      refine ⟨_, rfl, .inl ⟨rfl, _, SqL.of gL⟩, _, rfl, rt, _, _, _, rfl, rfl, S3.tup hR, atI_nat (j := 2) rfl, _, rfl, bt, _, _, _, rfl, rfl, hV, atI_nat (j := 0) rfl, _, rfl, bt, _, _, _, rfl, rfl, hV, atI_nat (j := 1) rfl, _, rfl, _, rfl, ts, sss, rfl, hs, fun ca H4 s4 hc => ?_⟩
      rw [cut_but] at hc
      have lss := hSK.1
      have kc : KIt K H3 (sss.take (sss.length - 1)) (st.take n) := by
        have z := hSK.take (sss.length - 1)
        have e : ss.take (sss.length - 1) = st.take n := by
          have l0 : ss = st.take n ++ [((st.drop n)[0]?).getD Kd.any] := hss.symm
          rw [lss, l0, List.length_append]
          exact List.take_left' rfl
        rw [e] at z
        exact z
      have l5 : sss.length ≤ 60 := by
        rw [lss, ← hss]
        show ((st.take n) ++ [((st.drop n)[0]?).getD Kd.any]).length ≤ 60
        simp
        omega
      generalize sss.take (sss.length - 1) = cs at hc kc
      have lcs : cs.length ≤ 60 := by rw [kc.1, List.length_take]; omega
      refine ⟨_, rfl, rt, _, _, _, rfl, rfl, (S3.trans s4).tup hR, atI_nat (j := 1) rfl, (by show 2 ≤ sizeLine; decide), fun a1 h1 => ⟨(by show 1 ≤ sizeLine; decide), fun a2 h2 => ?_⟩⟩
      have x1 := same_new h1 (.tup [.str "whole", .int (c : Int)])
      have x2 := same_new h2 (.tup [.ref a1])
      have X2 := s4.trans (x1.trans x2)
      have t1 : SqT K _ a1 (kdV (.whole c)) := x2.tup (SqT.of (upd_same (H := H4) (a := a1) (o := .tup [.str "whole", .int (c : Int)])))
      have t2 : SqT K (upd (upd H4 a1 (.tup [.str "whole", .int (c : Int)])) a2 (.tup [.ref a1])) a2 [.ref a1] := SqT.of upd_same
      have hc2 := (x1.trans x2).tup hc
      generalize upd (upd H4 a1 (.tup [.str "whole", .int (c : Int)])) a2 (.tup [.ref a1]) = H5 at X2 t1 t2 hc2 ⊢
      refine ⟨ca, a2, _, _, rfl, rfl, hc2, t2, Nat.le_of_lt (small1000 (by simp; omega)), fun sk H6 s6 hsk => ⟨(by show 2 ≤ sizeLine; decide), fun a3 h3 => ⟨(by show 3 ≤ sizeLine; decide), fun a4 h4 => ?_⟩⟩⟩
      have x3 := same_new h3 (.tup [.ref tb, .ref sk])
      have x4 := same_new h4 (.tup [.str "jump", .int (w : Int), .ref a3])
      have X6 := X2.trans s6
      have X := X6.trans (x3.trans x4)
      have t3 : SqT K _ a3 [.ref tb, .ref sk] := x4.tup (SqT.of (upd_same (a := a3) (o := .tup [.ref tb, .ref sk])))
      have t4 : SqT K (upd (upd H6 a3 (.tup [.ref tb, .ref sk])) a4 (.tup [.str "jump", .int (w : Int), .ref a3])) a4 [.str "jump", .int (w : Int), .ref a3] := SqT.of upd_same
      have hsk2 := (x3.trans x4).tup hsk
      have t1' := (s6.trans (x3.trans x4)).tup t1
      generalize upd (upd H6 a3 (.tup [.ref tb, .ref sk])) a4 (.tup [.str "jump", .int (w : Int), .ref a3]) = H7 at X t3 t4 hsk2 t1' ⊢
      exact ⟨L, ys, _, rfl, rfl, X _ _ gL, small1000 (by omega), fin _ (OutP.add nL (S3.trans X) (X _ _ gL) (hI.same X) t4 (rd_sd t3 (X.tup hb) (hBK.same X) hsk2 (KIt.append (kc.same X) (.mk1 ⟨a1, rfl, t1'⟩))))⟩
    · refine ⟨_, rfl, d_GOING, goL.map V.str, rfl, .inr (const_tup c_GOING H3), rfl, flat_strs _, _, rfl, stepL (fun z => ?_) (fun z => ?_)⟩
      · obtain ⟨w, hw, ej⟩ := going (b := bb) (lo := st.take n) (s := ss) hok z z1
        rw [ej] at fin
        refine ⟨_, rfl, .inl ⟨rfl, _, SqL.of gL⟩, _, rfl, rt, _, _, _, rfl, rfl, S3.tup hR, atI_nat (j := 1) hw, _, rfl, (by show 3 ≤ sizeLine; decide), fun u hu => ?_⟩
        have x1 := same_new hu (.tup [.str "jump", .int (w : Int), .ref bt])
        exact ⟨L, ys, _, rfl, rfl, x1 _ _ gL, small1000 (by omega), fin _ (OutP.add nL (S3.trans x1) (x1 _ _ gL) (hI.same x1) (SqT.of upd_same) (r3.same x1))⟩
      · rw [go_else z] at fin
        dsimp only [tNext]
        exact fin H3 (by simpa using o3))
  clear kk
  refine ⟨_, rfl, d_ENDING, endL.map V.str, rfl, .inr (const_tup c_ENDING H2), rfl, flat_strs _, _, rfl, ?_⟩
  show if (!inV (.str (rwS r)) (endL.map V.str)) = true then _ else _
  by_cases hz : rwS r ∈ endL
  · rw [inV_strs, decide_eq_true hz]
    refine iteF ?_
    dsimp only [tNext]
    refine fin H2 rb ?_
    unfold nextK
    rw [if_pos hz]
    exact O2
  · rw [inV_strs, decide_eq_false hz]
    obtain ⟨S2, ys, gL, hI⟩ := O2
    refine iteT ⟨_, rfl, .inl ⟨rfl, _, SqL.of gL⟩, _, rfl, _, _, rfl, rfl, _, rfl, (by show 3 ≤ sizeLine; decide), fun u hu => ?_⟩
    have x1 := same_new hu (.tup [.str "next", .int ((i : Int) + 1), .ref bt])
    refine ⟨L, ys, _, rfl, rfl, x1 _ _ gL, small1000 ?_, fin _ ?_ ?_⟩
    · have e : ys.length = 0 := hI.1
      omega
    · exact sd_updL (rb.same x1) (x1 _ _ gL)
    · unfold nextK
      rw [if_neg hz]
      have z := OutP.add nL (S2.trans x1) (x1 _ _ gL) (hI.same x1) (SqT.of upd_same) (rb.same x1)
      exact z
theorem sc__law_told : FnScope ["_law_handed", "_law_book_here", "_law_part_here", "_law_at", "_law_stand_here", "_law_due", "_law_found", "_law_k"] ["_law_handed", "_law_book_here", "_law_part_here", "_law_at", "_law_stand_here"] (defScope s_law_told) := ⟨rfl, rfl, rfl, by decide +kernel, rfl, by decide +kernel, by decide +kernel⟩
theorem ok__law_told {f : Addr} {fd : FuncData} (F : Fun K "_law_told" "_law_told" s_law_told f fd) (z_bool : mg "bool" = none) (z_int : mg "int" = none) (z_isinstance : mg "isinstance" = none) (z_len : mg "len" = none) (z_list : mg "list" = none) (z_range : mg "range" = none) (z_tuple : mg "tuple" = none) (h__law_leads : Has P w K mg base CX0 "_law_leads" 5 ["_law_book_here", "_law_part_here", "_law_at", "_law_stand_here"] (sp_law_leads K)) (h__law_same_stand : Has P w K mg base CX0 "_law_same_stand" 2 ["_law_found", "_law_due"] (sp_law_same_stand K)) (h_outs : Has P w K mg base CX0 "outs" 7 ["book", "part", "at", "stand"] (sp_outs K)) : FnOk P w K mg base CX0 8 f fd ["_law_handed", "_law_book_here", "_law_part_here", "_law_at", "_law_stand_here"] (sp_law_told K) := by
  refine F.ok sc__law_told (fun vs H Q E h => ?_) (fun cdv A outer s H vs Q E hr h => ?_)
  · obtain ⟨h, b, ms, zs, ps, j, i, p, r, v, bx, st, n, rfl, hH, hB, hg, hp, hs8, hri, hok, hv, lb, h8, h50, hn, htk, q⟩ := h
    rfl
  obtain ⟨h, b, ms, zs, ps, j, i, p, r, v, bx, st, n, rfl, hH, hB, hg, hp, hs8, hri, hok, hv, lb, h8, h50, hn, htk, q⟩ := h
  refine ⟨_, (pss_cons (ps_set (i := 5) sc__law_told.nd rfl (Or.inl rfl) (pe_ch h__law_leads (hr.mono (by decide)) rfl (pa_cons (pv 1) (pa_cons (pv 2) (pa_cons (pv 3) (pa_cons (pv 4) pa_nil))))))
      (pss_cons (ps_set (i := 6) sc__law_told.nd rfl (Or.inl rfl) (pe_ch h_outs (hr.mono (by decide)) rfl (pa_cons (pv 0) (pa_cons (pv 2) (pa_cons (pv 3) (pa_cons (pv 4) pa_nil))))))
      (pss_cons (ps_if (PW.pt (pw_or (pt_not (pt_val (pe_callB call_isi rfl z_isinstance bt_isinstance (pa_cons (pv 6) (pa_cons (pe_bltn (v := .ty "list") rfl z_list bt_list rfl) pa_nil))))) (pw_or1 (pt_cmpR op_ne (pe_callB call_len_seq rfl z_len bt_len (pa_cons (pv 6) pa_nil)) (pe_callB call_len_seq rfl z_len bt_len (pa_cons (pv 5) pa_nil)) (nomark _))))) (pss_one (ps_ret pe_bl)) pss_nil)
      (pss_cons (ps_for PassesOwn.never rfl (pi_range1 rfl z_range (pa_cons (pe_callB call_len_seq rfl z_len bt_len (pa_cons (pv 5) pa_nil)) pa_nil)) (pg_name (i := 7) sc__law_told.nd rfl (Or.inl rfl)) (pss_cons (ps_if (PW.pt (pw_or (pt_not (pt_val (pe_callB call_isi rfl z_isinstance bt_isinstance (pa_cons (pe_ix ix_list (pv 6) (pv 7) (fun _ _ => rfl)) (pa_cons (pe_bltn (v := .ty "tuple") rfl z_tuple bt_tuple rfl) pa_nil))))) (pw_or (pt_cmpR op_ne (pe_callB call_len_seq rfl z_len bt_len (pa_cons (pe_ix ix_list (pv 6) (pv 7) (fun _ _ => rfl)) pa_nil)) pe_int (nomark _)) (pw_or1 (pt_cmpR op_ne (pe_ix ix_tup (pe_ix ix_list (pv 6) (pv 7) (fun _ _ => rfl)) pe_int (fun _ _ => rfl)) (pe_ix ix_tup (pe_ix ix_list (pv 5) (pv 7) (fun _ _ => rfl)) pe_int (fun _ _ => rfl)) (nomark _)))))) (pss_one (ps_ret pe_bl)) pss_nil)
      (pss_cons (ps_if (PW.pt (pw_or (pt_not (pt_val (pe_callB call_isi rfl z_isinstance bt_isinstance (pa_cons (pe_ix ix_tup (pe_ix ix_list (pv 6) (pv 7) (fun _ _ => rfl)) pe_int (fun _ _ => rfl)) (pa_cons (pe_bltn (v := .ty "int") rfl z_int bt_int rfl) pa_nil))))) (pw_or (pt_val (pe_callB call_isi rfl z_isinstance bt_isinstance (pa_cons (pe_ix ix_tup (pe_ix ix_list (pv 6) (pv 7) (fun _ _ => rfl)) pe_int (fun _ _ => rfl)) (pa_cons (pe_bltn (v := .ty "bool") rfl z_bool bt_bool rfl) pa_nil)))) (pw_or1 (pt_cmpR op_ne (pe_ix ix_tup (pe_ix ix_list (pv 6) (pv 7) (fun _ _ => rfl)) pe_int (fun _ _ => rfl)) (pe_ix ix_tup (pe_ix ix_list (pv 5) (pv 7) (fun _ _ => rfl)) pe_int (fun _ _ => rfl)) (nomark _)))))) (pss_one (ps_ret pe_bl)) pss_nil)
      (pss_one (ps_if (pt_not (pt_val (pe_ch h__law_same_stand (hr.mono (by decide)) rfl (pa_cons (pe_ix ix_tup (pe_ix ix_list (pv 6) (pv 7) (fun _ _ => rfl)) pe_int (fun _ _ => rfl)) (pa_cons (pe_ix ix_tup (pe_ix ix_list (pv 5) (pv 7) (fun _ _ => rfl)) pe_int (fun _ _ => rfl)) pa_nil))))) (pss_one (ps_ret pe_bl)) pss_nil)))))
      (pss_cons (ps_expr (pe_bm PySem.F.plainAttrs_list PySem.F.slot_list_append PySem.F.type_list_append mt_append (pv 6) (pa_cons pe_non pa_nil)))
      (pss_one (ps_ret pe_bl))))))), ?_⟩
  refine ⟨_, rfl, _, rfl, _, rfl, _, rfl, b, ms, zs, ps, j, i, p, r, v, bx, st, n, rfl, hB, hg, hp, hs8, hri, hok, hv, lb, h8, h50, hn, htk, fun L1 H1 n1 o1 => ?_⟩
  obtain ⟨S1, ys1, g1, i1⟩ := o1
  refine ⟨_, rfl, _, rfl, _, rfl, _, rfl, h, ms, zs, ps, j, i, p, r, v, bx, st, n, rfl, hH.same S1, hg, hp, hri, hok, hv.same S1, lb, h8, h50, hn, htk, fun L2 H2 n2 o2 => ?_⟩
  obtain ⟨S2, ys2, g2, i2⟩ := o2
  have G1 := S2 _ _ g1
  have I1 := i1.same S2
  obtain ⟨lf, ff⟩ := outs_few (ms := ms) (ps := ps) (p := p) (r := r) (i := i) (bx := bx) (lo := st.take n) (tk := st.drop n) (by omega) (by rw [List.length_take]; omega)
  generalize outsK ms ps p r i bx (st.take n) (st.drop n) = ls at I1 i2 lf ff
  have l1 := I1.1
  have l2 := i2.1
  have nL : H L2 = none := S1.free n2
  have SS := S1.trans S2
  clear i1 g1 htk hn hv hri hok
  refine ⟨_, rfl, _, _, _, _, rfl, .lst (SqL.of g2), rfl, _, rfl, iteF ?_⟩
  refine ⟨_, rfl, L2, ys2, rfl, .inl (SqL.of g2), _, rfl, L1, ys1, rfl, .inl (SqL.of G1), rfl, _, rfl, ifNn (by rw [l1, l2]) ?_⟩
  dsimp only [tNext]
  refine ⟨_, rfl, L1, ys1, rfl, .inl (SqL.of G1), _, rfl, by omega, by omega, ?_⟩
  refine for_range (lo := 0) (n := ((ys1.length : Nat) : Int).toNat) (fun m σ H3 => ∃ (o7 : Option V), σ = [some (.ref h), some (.ref b), some (.int (j : Int)), some (.int (i : Int)), some v, some (.ref L1), some (.ref L2), o7] ∧ Same H2 H3) ⟨_, rfl, Same.refl _⟩ ?_ ?_
  · rintro m σ H3 hm ⟨o7, rfl, s3⟩
    have e0 : (0 + (m : Int)) = ((m : Nat) : Int) := by omega
    rw [e0]
    have hml : m < ls.length := by omega
    have hl := List.getElem?_eq_getElem hml
    obtain ⟨fb, fs⟩ := ff _ (List.getElem_mem hml)
    generalize ls[m] = l at hl fb fs
    obtain ⟨t1, v1, y1, T1, R1⟩ := (I1.same s3).at hl
    obtain ⟨t2, v2, y2, T2, R2⟩ := (i2.same s3).at hl
    have a1 : SqL K H3 L1 ys1 := SqL.of (s3 _ _ G1)
    have a2 : SqL K H3 L2 ys2 := SqL.of (s3 _ _ g2)
    refine ⟨_, rfl, _, rfl, L2, _, _, _, rfl, rfl, a2, atI_nat y2, _, _, _, _, rfl, .tup T2, rfl, _, rfl, iteF ?_⟩
    refine ⟨_, rfl, _, rfl, L2, _, _, _, rfl, rfl, a2, atI_nat y2, t2, _, rfl, .inr T2, rfl, _, rfl, ifNn rfl ?_⟩
    refine ⟨_, rfl, _, rfl, L2, _, _, _, rfl, rfl, a2, atI_nat y2, t2, _, _, _, rfl, rfl, T2, atI_nat (j := 0) rfl, _, rfl, _, rfl, L1, _, _, _, rfl, rfl, a1, atI_nat y1, t1, _, _, _, rfl, rfl, T1, atI_nat (j := 0) rfl, rfl, _, rfl, ifNn rfl ?_⟩
    dsimp only [tNext]
    refine ⟨_, rfl, _, rfl, L2, _, _, _, rfl, rfl, a2, atI_nat y2, t2, _, _, _, rfl, rfl, T2, atI_nat (j := 1) rfl, _, _, _, _, rfl, .int _, rfl, _, rfl, iteF ?_⟩
    refine ⟨_, rfl, _, rfl, L2, _, _, _, rfl, rfl, a2, atI_nat y2, t2, _, _, _, rfl, rfl, T2, atI_nat (j := 1) rfl, _, _, _, _, rfl, .int _, rfl, _, rfl, iteF ?_⟩
    refine ⟨_, rfl, _, rfl, L2, _, _, _, rfl, rfl, a2, atI_nat y2, t2, _, _, _, rfl, rfl, T2, atI_nat (j := 1) rfl, _, rfl, _, rfl, L1, _, _, _, rfl, rfl, a1, atI_nat y1, t1, _, _, _, rfl, rfl, T1, atI_nat (j := 1) rfl, rfl, _, rfl, ifNn rfl ?_⟩
    dsimp only [tNext]
    refine ⟨_, rfl, _, rfl, L2, _, _, _, rfl, rfl, a2, atI_nat y2, t2, _, _, _, rfl, rfl, T2, atI_nat (j := 2) rfl, _, rfl, _, rfl, L1, _, _, _, rfl, rfl, a1, atI_nat y1, t1, _, _, _, rfl, rfl, T1, atI_nat (j := 2) rfl, v2, v1, l.bx, l.st, rfl, R2, R1, fb, fs, fun H4 s4 => ⟨_, rfl, iteF ?_⟩⟩
    dsimp only [tNext]
    exact ⟨_, rfl, s3.trans s4⟩
  · rintro σ H3 ⟨o7, rfl, s3⟩
    have a2 := s3 _ _ g2
    refine ⟨_, rfl, .inl ⟨rfl, _, SqL.of a2⟩, L2, ys2, _, rfl, rfl, a2, small1000 (by omega), ?_⟩
    refine q _ (fun c o e => ?_)
    rw [upd_ne (ne_of_none e nL)]
    exact s3 c o (SS c o e)
theorem sc_law : FnScope ["_law_script", "_law_book_here", "_law_part_here", "_law_rows", "_law_handed", "_law_wide", "_law_again", "_law_at", "_law_stand_here"] ["_law_script"] (defScope s_law) := ⟨rfl, rfl, rfl, by decide +kernel, rfl, by decide +kernel, by decide +kernel⟩
theorem ok_law {f : Addr} {fd : FuncData} (F : Fun K "law" "law" s_law f fd) (z_len : mg "len" = none) (z_range : mg "range" = none) (h__law_book : Has P w K mg base CX0 "_law_book" 4 ["_law_script", "_law_at"] (sp_law_book K)) (h__law_break : Has P w K mg base CX0 "_law_break" 4 ["_law_book_here", "_law_part_here", "_law_row_here", "_law_stand_here"] (sp_law_break K)) (h__law_copied : Has P w K mg base CX0 "_law_copied" 2 ["_law_book_here"] (sp_law_copied K)) (h__law_draw : Has P w K mg base CX0 "_law_draw" 1 ["_law_script", "_law_k"] (sp_law_draw K)) (h__law_stand : Has P w K mg base CX0 "_law_stand" 4 ["_law_script", "_law_at", "_law_book_here", "_law_part_here", "_law_row_here"] (sp_law_stand K)) (h__law_told : Has P w K mg base CX0 "_law_told" 8 ["_law_handed", "_law_book_here", "_law_part_here", "_law_at", "_law_stand_here"] (sp_law_told K)) : FnOk P w K mg base CX0 9 f fd ["_law_script"] (sp_law K) := by
  refine F.ok sc_law (fun vs H Q E h => ?_) (fun cdv A outer s H vs Q E hr h => ?_)
  · obtain ⟨a, ns, rfl, hS, h63, q⟩ := h
    rfl
  obtain ⟨a, ns, rfl, hS, h63, q⟩ := h
  refine ⟨_, (pss_cons (ps_set (i := 1) sc_law.nd rfl (Or.inl rfl) (pe_ch h__law_book (hr.mono (by decide)) rfl (pa_cons (pv 0) (pa_cons pe_int pa_nil))))
      (pss_cons (ps_set (i := 2) sc_law.nd rfl (Or.inl rfl) (pe_op op_mod (pe_ch h__law_draw (hr.mono (by decide)) rfl (pa_cons (pv 0) (pa_cons pe_int pa_nil))) (pe_callB call_len_seq rfl z_len bt_len (pa_cons (pe_ix ix_tup (pv 1) pe_int (fun _ _ => rfl)) pa_nil))))
      (pss_cons (ps_set (i := 3) sc_law.nd rfl (Or.inl rfl) (pe_ix ix_tup (pe_ix ix_list (pe_ix ix_tup (pv 1) pe_int (fun _ _ => rfl)) (pv 2) (fun _ _ => rfl)) pe_int (fun _ _ => rfl)))
      (pss_cons (ps_set (i := 4) sc_law.nd rfl (Or.inl rfl) (pe_ch h__law_copied (hr.mono (by decide)) rfl (pa_cons (pv 1) pa_nil)))
      (pss_cons (ps_set (i := 5) sc_law.nd rfl (Or.inl rfl) (pe_op op_add pe_int (pe_op op_fdiv (pe_callB call_len_seq rfl z_len bt_len (pa_cons (pv 3) pa_nil)) pe_int)))
      (pss_cons (ps_for PassesOwn.never rfl (pi_range1 rfl z_range (pa_cons pe_int pa_nil)) (pg_name (i := 6) sc_law.nd rfl (Or.inl rfl)) (pss_one (ps_for PassesOwn.never rfl (pi_range3 rfl z_range (pa_cons (pe_op op_mod (pe_ch h__law_draw (hr.mono (by decide)) rfl (pa_cons (pv 0) (pa_cons pe_int pa_nil))) (pv 5)) (pa_cons (pe_callB call_len_seq rfl z_len bt_len (pa_cons (pv 3) pa_nil)) (pa_cons (pv 5) pa_nil)))) (pg_name (i := 7) sc_law.nd rfl (Or.inl rfl)) (pss_cons (ps_set (i := 8) sc_law.nd rfl (Or.inl rfl) (pe_ch h__law_stand (hr.mono (by decide)) rfl (pa_cons (pv 0) (pa_cons (pe_op op_add pe_int (pe_op op_mul pe_int (pv 7))) (pa_cons (pv 1) (pa_cons (pv 2) (pa_cons (pe_ix ix_list (pv 3) (pv 7) (fun _ _ => rfl)) pa_nil)))))))
      (pss_one (ps_if (pt_cmpR op_isN (pe_ch h__law_break (hr.mono (by decide)) rfl (pa_cons (pv 1) (pa_cons (pv 2) (pa_cons (pe_ix ix_list (pv 3) (pv 7) (fun _ _ => rfl)) (pa_cons (pv 8) pa_nil))))) pe_non (nomark _)) (pss_one (ps_if (pt_not (pt_val (pe_ch h__law_told (hr.mono (by decide)) rfl (pa_cons (pv 4) (pa_cons (pv 1) (pa_cons (pv 2) (pa_cons (pv 7) (pa_cons (pv 8) pa_nil)))))))) (pss_one (ps_ret pe_bl)) pss_nil)) pss_nil))))))
      (pss_one (ps_ret (pe_cmpR (op_eqD (hr.units)) (pv 4) (pv 1) (nomark _)))))))))), ?_⟩
  refine ⟨_, rfl, a, ns, _, rfl, hS, by decide, by decide, fun b ms zs ps H1 s1 hB hg p0 p8 hps => ?_⟩
  obtain ⟨b', mk, pl, xs, e, hT, hM, hL, hP⟩ := bk_inv hB
  cases e
  have lx := hP.1
  rw [List.length_map] at lx
  have few := hg.wf.few
  have G1 : SgAll ps := fun p hp r hr => ((hps p hp).ro r hr).sg
  refine ⟨_, rfl, a, ns, _, rfl, s1.seq hS, by decide, by decide, fun v0 y0 y1 => ?_⟩
  obtain ⟨j, hj1, hj2⟩ := modN (e := v0) (n := ps.length) p0
  have hp := List.getElem?_eq_getElem hj2
  have pok := hps _ (List.getElem_mem hj2)
  generalize hpp : ps[j] = p at hp pok
  have pr1 := pok.r1
  have pr2 := pok.r2
  obtain ⟨w0, hw0, hwr⟩ := bk_part hP hp
  obtain ⟨t, l0, l4, l5, ks, vs4, vs5, f1, rfl, hTt, hl0, hk, rg, hl4, hk4, hl5, hk5⟩ := pt_inv hwr
  have l4l := hk4.1
  rw [List.length_map] at l4l
  refine ⟨_, rfl, b, _, _, _, rfl, rfl, hT, atI_nat (j := 1) rfl, pl, xs, rfl, .inl hL, _, _, rfl, rfl, (by omega), ?_⟩
  refine cutR (R := ?R) (fun σ' H' => H1 = H' ∧ σ' = [some (.ref a), some (.ref b), some (.int (j : Int)), none, none, none, none, none, none]) (fun kk => ?mm) ?kk
  case mm =>
    dsimp only [gName]
    refine kk _ _ ⟨rfl, ?_⟩
    rw [← hj1, ← lx]
    rfl
  rintro σ' H' ⟨rfl, rfl⟩
  refine ⟨_, rfl, b, _, _, _, rfl, rfl, hT, atI_nat (j := 1) rfl, _, rfl, pl, _, _, _, rfl, rfl, hL, atI_nat hw0, t, _, _, _, rfl, rfl, hTt, atI_nat (j := 4) rfl, ?_⟩
  refine ⟨_, rfl, b, ms, ps, rfl, hB, few, p8, fun h mh ph yh ls H2 s2 g2 l2 hh r2 => ?_⟩
  refine ⟨_, rfl, l4, vs4, rfl, .inl (s2.seq hl4), _, _, rfl, rfl, ⟨by decide, by decide⟩, _, _, rfl, rfl, ?_⟩
  have wd1 : (1 : Int) + ((vs4.length : Nat) : Int) / 12 < 1000 := by omega
  have wd0 : 0 < (1 : Int) + ((vs4.length : Nat) : Int) / 12 := by omega
  have S2 := s1.trans s2
  refine ⟨2, rfl, by decide, by decide, ?_⟩
  refine for_range (lo := 0) (n := 2) (fun i σ H4 => ∃ (o6 o7 o8 : Option V), σ = [some (.ref a), some (.ref b), some (.int (j : Int)), some (.ref l4), some (.ref h), some (.int ((1 : Int) + ((vs4.length : Nat) : Int) / 12)), o6, o7, o8] ∧ Same H2 H4) ⟨_, _, _, rfl, Same.refl _⟩ ?_ ?_
  · rintro i0 σ H4 hi0 ⟨o6, o7, o8, rfl, s4⟩
    refine ⟨_, rfl, a, ns, _, rfl, (S2.trans s4).seq hS, by decide, by decide, fun v1 z0 z1 => ?_⟩
    have c0 := Int.emod_nonneg v1 (show (1 : Int) + ((vs4.length : Nat) : Int) / 12 ≠ 0 by omega)
    have c1 := Int.emod_lt_of_pos v1 wd0
    refine ⟨_, rfl, _, _, rfl, rfl, wd0, _, rfl, l4, vs4, rfl, .inl ((s2.trans s4).seq hl4), _, rfl, _, _, _, rfl, ⟨c0, by show v1 % ((1 : Int) + ((vs4.length : Nat) : Int) / 12) < 1000000; omega, by omega, by omega, wd0, by show (1 : Int) + ((vs4.length : Nat) : Int) / 12 < 1000000; omega⟩, ?_⟩
    refine for_rangeS (fun i σ H3 => ∃ (o6 o7 o8 : Option V), σ = [some (.ref a), some (.ref b), some (.int (j : Int)), some (.ref l4), some (.ref h), some (.int ((1 : Int) + ((vs4.length : Nat) : Int) / 12)), o6, o7, o8] ∧ Same H2 H3) ⟨_, _, _, rfl, s4⟩ ?_ ?_
    · rintro i σ H3 hi ⟨o6, o7, o8, rfl, s3⟩
      have lt := step_in c0 wd0 hi
      have ge : (0 : Int) ≤ (i : Int) * ((1 : Int) + ((vs4.length : Nat) : Int) / 12) := Int.mul_nonneg (by omega) (by omega)
      obtain ⟨m, hm1⟩ : ∃ m : Nat, v1 % ((1 : Int) + ((vs4.length : Nat) : Int) / 12) + (i : Int) * ((1 : Int) + ((vs4.length : Nat) : Int) / 12) = (m : Int) := ⟨(v1 % ((1 : Int) + ((vs4.length : Nat) : Int) / 12) + (i : Int) * ((1 : Int) + ((vs4.length : Nat) : Int) / 12)).toNat, by omega⟩
      have hm2 : m < vs4.length := by omega
      clear ge lt
      rw [hm1]
      have S3 := S2.trans s3
      have hmr : m < p.rows.length := by omega
      obtain ⟨rv, hrv, hrr⟩ := RdAll.at hk4 (i := m) (d := rwD p.rows[m]) (by rw [List.getElem?_map, List.getElem?_eq_getElem hmr]; rfl)
      obtain ⟨rt, rfl, hRT⟩ := rw_inv hrr
      have rok := pok.ro _ (List.getElem_mem hmr)
      have cm : CMul 5 (m : Int) := .inl ⟨by decide, by decide⟩
      refine ⟨_, rfl, _, rfl, _, _, rfl, rfl, cm, _, _, rfl, rfl, _, rfl, _, rfl, _, rfl, _, rfl, l4, vs4, _, _, rfl, rfl, (s2.trans s3).seq hl4, atI_nat hrv, ?_⟩
      refine ⟨a, ns, _, b, ms, zs, ps, j, p, rt, p.rows[m], rfl, S3.seq hS, by omega, by omega, hB.same (s2.trans s3), hg, hp, hps, (s2.trans s3).tup hRT, rok, fun st bx sk H5 s5 r5 hbx h50 hsk => ?_⟩
      have S5 := s2.trans (s3.trans s5)
      have hin : ∀ k ∈ sk, InM ms k := fun k hk => KdOk.inM hg (hsk k hk)
      refine ⟨_, rfl, _, rfl, _, rfl, _, rfl, l4, vs4, _, _, rfl, rfl, S5.seq hl4, atI_nat hrv, _, rfl, ?_⟩
      refine ⟨b, ms, zs, ps, j, p, rt, p.rows[m], .ref st, bx, sk, rfl, hB.same S5, hg, hp, S5.tup hRT, rok, r5, h50, hin, fun H6 s6 => ?_⟩
      cases hbk : breakK ms ps p p.rows[m] sk with
      | none =>
        obtain ⟨hn, htk⟩ := break_none hbk
        refine ⟨rfl, _, rfl, iteT ?_⟩
        refine ⟨_, rfl, _, rfl, _, rfl, _, rfl, _, rfl, h, b, ms, zs, ps, j, m, p, p.rows[m], .ref st, bx, sk, _, rfl, r2.same (s3.trans (s5.trans s6)), hB.same (S5.trans s6), hg, hp, pok.s8, List.getElem?_eq_getElem hmr, rok, r5.same s6, hbx, pok.bx, h50, hn, htk, fun H7 s7 => ⟨_, rfl, iteF ?_⟩⟩
        dsimp only [tNext]
        exact ⟨_, _, _, rfl, s3.trans (s5.trans (s6.trans s7))⟩
      | some s' =>
        refine ⟨rfl, _, rfl, iteF ?_⟩
        dsimp only [tNext]
        exact ⟨_, _, _, rfl, s3.trans (s5.trans s6)⟩
    · rintro σ H3 ⟨o6, o7, o8, rfl, s3⟩
      exact ⟨_, _, _, rfl, s3⟩
  · rintro σ H4 ⟨o6, o7, o8, rfl, s4⟩
    refine ⟨_, rfl, _, rfl, bkD ms ps, bkD ms ps, r2.same s4, hB.same (s2.trans s4), bkD_ok ms ps G1, bkD_ok ms ps G1, ?_⟩
    rw [bkD_self ms ps G1]
    exact q H4
end
theorem all_mk {l : PySem.W.OpenLaw} {w : World} {K : PySem.W.Frag} {h : Heap} {mg : Str → Option Value} {fa f0 f1 f2 f3 f4 f5 f6 f7 f8 f9 f10 f11 f12 f13 f14 f15 f16 f17 f18 f19 f20 f21 f22 f23 f24 f25 f26 f27 f28 f29 f30 f31 f32 f33 f34 f35 f36 : Addr} (X : K.In h) (G : h.Ns mainGlobals mg) (hfa : mg "law" = some (.ref fa))
    {od0 an0 od1 an1 od2 an2 od3 an3 od4 an4 od5 an5 od6 an6 od7 an7 od8 an8 od9 an9 od10 an10 od11 an11 od12 an12 od13 an13 od14 an14 od15 an15 od16 an16 od17 an17 od18 an18 od19 an19 od20 an20 od21 an21 od22 an22 od23 an23 od24 an24 od25 an25 od26 an26 od27 an27 od28 an28 od29 an29 od30 an30 od31 an31 od32 an32 od33 an33 od34 an34 od35 an35 od36 an36 : Option Addr} {sl0 sl1 sl2 sl3 sl4 sl5 sl6 sl7 sl8 sl9 sl10 sl11 sl12 sl13 sl14 sl15 sl16 sl17 sl18 sl19 sl20 sl21 sl22 sl23 sl24 sl25 sl26 sl27 sl28 sl29 sl30 sl31 sl32 sl33 sl34 sl35 sl36 : Array (Option Value)} {oc0 kV0 dc0 pm0 cd0 ct0 oc1 kV1 dc1 pm1 cd1 ct1 oc2 kV2 dc2 pm2 cd2 ct2 oc3 kV3 dc3 pm3 cd3 ct3 oc4 kV4 dc4 pm4 cd4 ct4 oc5 kV5 dc5 pm5 cd5 ct5 oc6 kV6 dc6 pm6 cd6 ct6 oc7 kV7 dc7 pm7 cd7 ct7 oc8 kV8 dc8 pm8 cd8 ct8 oc9 kV9 dc9 pm9 cd9 ct9 oc10 kV10 dc10 pm10 cd10 ct10 oc11 kV11 dc11 pm11 cd11 ct11 oc12 kV12 dc12 pm12 cd12 ct12 oc13 kV13 dc13 pm13 cd13 ct13 oc14 kV14 dc14 pm14 cd14 ct14 oc15 kV15 dc15 pm15 cd15 ct15 oc16 kV16 dc16 pm16 cd16 ct16 oc17 kV17 dc17 pm17 cd17 ct17 oc18 kV18 dc18 pm18 cd18 ct18 oc19 kV19 dc19 pm19 cd19 ct19 oc20 kV20 dc20 pm20 cd20 ct20 oc21 kV21 dc21 pm21 cd21 ct21 oc22 kV22 dc22 pm22 cd22 ct22 oc23 kV23 dc23 pm23 cd23 ct23 oc24 kV24 dc24 pm24 cd24 ct24 oc25 kV25 dc25 pm25 cd25 ct25 oc26 kV26 dc26 pm26 cd26 ct26 oc27 kV27 dc27 pm27 cd27 ct27 oc28 kV28 dc28 pm28 cd28 ct28 oc29 kV29 dc29 pm29 cd29 ct29 oc30 kV30 dc30 pm30 cd30 ct30 oc31 kV31 dc31 pm31 cd31 ct31 oc32 kV32 dc32 pm32 cd32 ct32 oc33 kV33 dc33 pm33 cd33 ct33 oc34 kV34 dc34 pm34 cd34 ct34 oc35 kV35 dc35 pm35 cd35 ct35 oc36 kV36 dc36 pm36 cd36 ct36 : Value}
    {ep_ALWAYS : Nat}
    {r_ALWAYS_2 r_ALWAYS_5 r_ALWAYS_9 r_ALWAYS_11 r_ALWAYS_15 r_ALWAYS_17 r_ALWAYS_21 r_ALWAYS_24 r_ALWAYS_26 r_ALWAYS_30 r_ALWAYS_32 r_ALWAYS_36 r_ALWAYS_39 r_ALWAYS_41 r_ALWAYS_45 r_ALWAYS_48 r_ALWAYS_50 r_ALWAYS_54 r_ALWAYS_57 r_ALWAYS_59 r_ALWAYS_63 r_ALWAYS_66 r_ALWAYS_68 r_ALWAYS_72 r_ALWAYS_75 r_ALWAYS_77 r_ALWAYS_81 r_ALWAYS_84 r_ALWAYS_86 r_ALWAYS_90 r_ALWAYS_93 r_ALWAYS_95 r_ALWAYS_98 r_ALWAYS_102 r_ALWAYS_104 r_ALWAYS_109 r_ALWAYS_111 r_ALWAYS_114 r_ALWAYS_118 r_ALWAYS_120 r_ALWAYS_124 r_ALWAYS_126 d_ALWAYS : Addr} {t_ALWAYS_1 t_ALWAYS_4 t_ALWAYS_7 t_ALWAYS_8 t_ALWAYS_13 t_ALWAYS_14 t_ALWAYS_19 t_ALWAYS_20 t_ALWAYS_23 t_ALWAYS_28 t_ALWAYS_29 t_ALWAYS_34 t_ALWAYS_35 t_ALWAYS_38 t_ALWAYS_43 t_ALWAYS_44 t_ALWAYS_47 t_ALWAYS_52 t_ALWAYS_53 t_ALWAYS_56 t_ALWAYS_61 t_ALWAYS_62 t_ALWAYS_65 t_ALWAYS_70 t_ALWAYS_71 t_ALWAYS_74 t_ALWAYS_79 t_ALWAYS_80 t_ALWAYS_83 t_ALWAYS_88 t_ALWAYS_89 t_ALWAYS_92 t_ALWAYS_97 t_ALWAYS_100 t_ALWAYS_101 t_ALWAYS_106 t_ALWAYS_107 t_ALWAYS_108 t_ALWAYS_113 t_ALWAYS_116 t_ALWAYS_117 t_ALWAYS_122 t_ALWAYS_123 : Tok}
    {r_ENDING_4 : Addr} {t_ENDING_1 t_ENDING_2 t_ENDING_3 : Tok}
    {r_FAULTING_5 : Addr} {t_FAULTING_1 t_FAULTING_2 t_FAULTING_3 t_FAULTING_4 : Tok}
    {r_GOING_4 : Addr} {t_GOING_1 t_GOING_2 t_GOING_3 : Tok}
    {ep_LEFT : Nat}
    {d_LEFT : Addr} {t_LEFT_1 t_LEFT_2 t_LEFT_3 t_LEFT_4 t_LEFT_5 t_LEFT_6 t_LEFT_7 t_LEFT_8 t_LEFT_9 t_LEFT_10 t_LEFT_11 t_LEFT_12 t_LEFT_13 t_LEFT_14 t_LEFT_15 t_LEFT_16 t_LEFT_17 t_LEFT_18 t_LEFT_19 t_LEFT_20 : Tok}
    {r_OF_RECORDS_6 : Addr} {t_OF_RECORDS_1 t_OF_RECORDS_2 t_OF_RECORDS_3 t_OF_RECORDS_4 t_OF_RECORDS_5 : Tok}
    (a0 : PySem.W.nsIn K mainGlobals "_law_draw" = some (some (.ref f0))) (l0 : K.lookup f0 = some ⟨oc0, od0, .func (PySem.W.fnOf "_law_draw" "_law_draw" (defArgs s_law_draw) (defBody s_law_draw) (defScope s_law_draw) .none kV0 dc0 pm0 an0 cd0 ct0), sl0⟩) (c0 : PySem.W.codeIn K cd0 "_law_draw" = true) (k0 : PySem.W.keepIn K (.ref f0) = true)
    (a1 : PySem.W.nsIn K mainGlobals "_law_elders" = some (some (.ref f1))) (l1 : K.lookup f1 = some ⟨oc1, od1, .func (PySem.W.fnOf "_law_elders" "_law_elders" (defArgs s_law_elders) (defBody s_law_elders) (defScope s_law_elders) .none kV1 dc1 pm1 an1 cd1 ct1), sl1⟩) (c1 : PySem.W.codeIn K cd1 "_law_elders" = true) (k1 : PySem.W.keepIn K (.ref f1) = true)
    (a2 : PySem.W.nsIn K mainGlobals "_law_fields" = some (some (.ref f2))) (l2 : K.lookup f2 = some ⟨oc2, od2, .func (PySem.W.fnOf "_law_fields" "_law_fields" (defArgs s_law_fields) (defBody s_law_fields) (defScope s_law_fields) .none kV2 dc2 pm2 an2 cd2 ct2), sl2⟩) (c2 : PySem.W.codeIn K cd2 "_law_fields" = true) (k2 : PySem.W.keepIn K (.ref f2) = true)
    (a3 : PySem.W.nsIn K mainGlobals "_law_kind" = some (some (.ref f3))) (l3 : K.lookup f3 = some ⟨oc3, od3, .func (PySem.W.fnOf "_law_kind" "_law_kind" (defArgs s_law_kind) (defBody s_law_kind) (defScope s_law_kind) .none kV3 dc3 pm3 an3 cd3 ct3), sl3⟩) (c3 : PySem.W.codeIn K cd3 "_law_kind" = true) (k3 : PySem.W.keepIn K (.ref f3) = true)
    (a4 : PySem.W.nsIn K mainGlobals "_law_makes" = some (some (.ref f4))) (l4 : K.lookup f4 = some ⟨oc4, od4, .func (PySem.W.fnOf "_law_makes" "_law_makes" (defArgs s_law_makes) (defBody s_law_makes) (defScope s_law_makes) .none kV4 dc4 pm4 an4 cd4 ct4), sl4⟩) (c4 : PySem.W.codeIn K cd4 "_law_makes" = true) (k4 : PySem.W.keepIn K (.ref f4) = true)
    (a5 : PySem.W.nsIn K mainGlobals "_law_last" = some (some (.ref f5))) (l5 : K.lookup f5 = some ⟨oc5, od5, .func (PySem.W.fnOf "_law_last" "_law_last" (defArgs s_law_last) (defBody s_law_last) (defScope s_law_last) .none kV5 dc5 pm5 an5 cd5 ct5), sl5⟩) (c5 : PySem.W.codeIn K cd5 "_law_last" = true) (k5 : PySem.W.keepIn K (.ref f5) = true)
    (a6 : PySem.W.nsIn K mainGlobals "_law_signs" = some (some (.ref f6))) (l6 : K.lookup f6 = some ⟨oc6, od6, .func (PySem.W.fnOf "_law_signs" "_law_signs" (defArgs s_law_signs) (defBody s_law_signs) (defScope s_law_signs) .none kV6 dc6 pm6 an6 cd6 ct6), sl6⟩) (c6 : PySem.W.codeIn K cd6 "_law_signs" = true) (k6 : PySem.W.keepIn K (.ref f6) = true)
    (a7 : PySem.W.nsIn K mainGlobals "_law_row" = some (some (.ref f7))) (l7 : K.lookup f7 = some ⟨oc7, od7, .func (PySem.W.fnOf "_law_row" "_law_row" (defArgs s_law_row) (defBody s_law_row) (defScope s_law_row) .none kV7 dc7 pm7 an7 cd7 ct7), sl7⟩) (c7 : PySem.W.codeIn K cd7 "_law_row" = true) (k7 : PySem.W.keepIn K (.ref f7) = true)
    (a8 : PySem.W.nsIn K mainGlobals "_law_stretch" = some (some (.ref f8))) (l8 : K.lookup f8 = some ⟨oc8, od8, .func (PySem.W.fnOf "_law_stretch" "_law_stretch" (defArgs s_law_stretch) (defBody s_law_stretch) (defScope s_law_stretch) .none kV8 dc8 pm8 an8 cd8 ct8), sl8⟩) (c8 : PySem.W.codeIn K cd8 "_law_stretch" = true) (k8 : PySem.W.keepIn K (.ref f8) = true)
    (a9 : PySem.W.nsIn K mainGlobals "_law_part" = some (some (.ref f9))) (l9 : K.lookup f9 = some ⟨oc9, od9, .func (PySem.W.fnOf "_law_part" "_law_part" (defArgs s_law_part) (defBody s_law_part) (defScope s_law_part) .none kV9 dc9 pm9 an9 cd9 ct9), sl9⟩) (c9 : PySem.W.codeIn K cd9 "_law_part" = true) (k9 : PySem.W.keepIn K (.ref f9) = true)
    (a10 : PySem.W.nsIn K mainGlobals "_law_book" = some (some (.ref f10))) (l10 : K.lookup f10 = some ⟨oc10, od10, .func (PySem.W.fnOf "_law_book" "_law_book" (defArgs s_law_book) (defBody s_law_book) (defScope s_law_book) .none kV10 dc10 pm10 an10 cd10 ct10), sl10⟩) (c10 : PySem.W.codeIn K cd10 "_law_book" = true) (k10 : PySem.W.keepIn K (.ref f10) = true)
    (a11 : PySem.W.nsIn K mainGlobals "_law_asked" = some (some (.ref f11))) (l11 : K.lookup f11 = some ⟨oc11, od11, .func (PySem.W.fnOf "_law_asked" "_law_asked" (defArgs s_law_asked) (defBody s_law_asked) (defScope s_law_asked) .none kV11 dc11 pm11 an11 cd11 ct11), sl11⟩) (c11 : PySem.W.codeIn K cd11 "_law_asked" = true) (k11 : PySem.W.keepIn K (.ref f11) = true)
    (a12 : PySem.W.nsIn K mainGlobals "_law_below" = some (some (.ref f12))) (l12 : K.lookup f12 = some ⟨oc12, od12, .func (PySem.W.fnOf "_law_below" "_law_below" (defArgs s_law_below) (defBody s_law_below) (defScope s_law_below) .none kV12 dc12 pm12 an12 cd12 ct12), sl12⟩) (c12 : PySem.W.codeIn K cd12 "_law_below" = true) (k12 : PySem.W.keepIn K (.ref f12) = true)
    (a13 : PySem.W.nsIn K mainGlobals "_law_break" = some (some (.ref f13))) (l13 : K.lookup f13 = some ⟨oc13, od13, .func (PySem.W.fnOf "_law_break" "_law_break" (defArgs s_law_break) (defBody s_law_break) (defScope s_law_break) .none kV13 dc13 pm13 an13 cd13 ct13), sl13⟩) (c13 : PySem.W.codeIn K cd13 "_law_break" = true) (k13 : PySem.W.keepIn K (.ref f13) = true)
    (a14 : PySem.W.nsIn K mainGlobals "_law_copy" = some (some (.ref f14))) (l14 : K.lookup f14 = some ⟨oc14, od14, .func (PySem.W.fnOf "_law_copy" "_law_copy" (defArgs s_law_copy) (defBody s_law_copy) (defScope s_law_copy) .none kV14 dc14 pm14 an14 cd14 ct14), sl14⟩) (c14 : PySem.W.codeIn K cd14 "_law_copy" = true) (k14 : PySem.W.keepIn K (.ref f14) = true)
    (a15 : PySem.W.nsIn K mainGlobals "_law_copied" = some (some (.ref f15))) (l15 : K.lookup f15 = some ⟨oc15, od15, .func (PySem.W.fnOf "_law_copied" "_law_copied" (defArgs s_law_copied) (defBody s_law_copied) (defScope s_law_copied) .none kV15 dc15 pm15 an15 cd15 ct15), sl15⟩) (c15 : PySem.W.codeIn K cd15 "_law_copied" = true) (k15 : PySem.W.keepIn K (.ref f15) = true)
    (a16 : PySem.W.nsIn K mainGlobals "_law_lower" = some (some (.ref f16))) (l16 : K.lookup f16 = some ⟨oc16, od16, .func (PySem.W.fnOf "_law_lower" "_law_lower" (defArgs s_law_lower) (defBody s_law_lower) (defScope s_law_lower) .none kV16 dc16 pm16 an16 cd16 ct16), sl16⟩) (c16 : PySem.W.codeIn K cd16 "_law_lower" = true) (k16 : PySem.W.keepIn K (.ref f16) = true)
    (a17 : PySem.W.nsIn K mainGlobals "_law_stand" = some (some (.ref f17))) (l17 : K.lookup f17 = some ⟨oc17, od17, .func (PySem.W.fnOf "_law_stand" "_law_stand" (defArgs s_law_stand) (defBody s_law_stand) (defScope s_law_stand) .none kV17 dc17 pm17 an17 cd17 ct17), sl17⟩) (c17 : PySem.W.codeIn K cd17 "_law_stand" = true) (k17 : PySem.W.keepIn K (.ref f17) = true)
    (a18 : PySem.W.nsIn K mainGlobals "_law_put_there" = some (some (.ref f18))) (l18 : K.lookup f18 = some ⟨oc18, od18, .func (PySem.W.fnOf "_law_put_there" "_law_put_there" (defArgs s_law_put_there) (defBody s_law_put_there) (defScope s_law_put_there) .none kV18 dc18 pm18 an18 cd18 ct18), sl18⟩) (c18 : PySem.W.codeIn K cd18 "_law_put_there" = true) (k18 : PySem.W.keepIn K (.ref f18) = true)
    (a19 : PySem.W.nsIn K mainGlobals "_law_next" = some (some (.ref f19))) (l19 : K.lookup f19 = some ⟨oc19, od19, .func (PySem.W.fnOf "_law_next" "_law_next" (defArgs s_law_next) (defBody s_law_next) (defScope s_law_next) .none kV19 dc19 pm19 an19 cd19 ct19), sl19⟩) (c19 : PySem.W.codeIn K cd19 "_law_next" = true) (k19 : PySem.W.keepIn K (.ref f19) = true)
    (a20 : PySem.W.nsIn K mainGlobals "_law_leads" = some (some (.ref f20))) (l20 : K.lookup f20 = some ⟨oc20, od20, .func (PySem.W.fnOf "_law_leads" "_law_leads" (defArgs s_law_leads) (defBody s_law_leads) (defScope s_law_leads) .none kV20 dc20 pm20 an20 cd20 ct20), sl20⟩) (c20 : PySem.W.codeIn K cd20 "_law_leads" = true) (k20 : PySem.W.keepIn K (.ref f20) = true)
    (a21 : PySem.W.nsIn K mainGlobals "_law_same_kind" = some (some (.ref f21))) (l21 : K.lookup f21 = some ⟨oc21, od21, .func (PySem.W.fnOf "_law_same_kind" "_law_same_kind" (defArgs s_law_same_kind) (defBody s_law_same_kind) (defScope s_law_same_kind) .none kV21 dc21 pm21 an21 cd21 ct21), sl21⟩) (c21 : PySem.W.codeIn K cd21 "_law_same_kind" = true) (k21 : PySem.W.keepIn K (.ref f21) = true)
    (a22 : PySem.W.nsIn K mainGlobals "_law_same_stand" = some (some (.ref f22))) (l22 : K.lookup f22 = some ⟨oc22, od22, .func (PySem.W.fnOf "_law_same_stand" "_law_same_stand" (defArgs s_law_same_stand) (defBody s_law_same_stand) (defScope s_law_same_stand) .none kV22 dc22 pm22 an22 cd22 ct22), sl22⟩) (c22 : PySem.W.codeIn K cd22 "_law_same_stand" = true) (k22 : PySem.W.keepIn K (.ref f22) = true)
    (a23 : PySem.W.nsIn K mainGlobals "catcher" = some (some (.ref f23))) (l23 : K.lookup f23 = some ⟨oc23, od23, .func (PySem.W.fnOf "catcher" "catcher" (defArgs s_catcher) (defBody s_catcher) (defScope s_catcher) .none kV23 dc23 pm23 an23 cd23 ct23), sl23⟩) (c23 : PySem.W.codeIn K cd23 "catcher" = true) (k23 : PySem.W.keepIn K (.ref f23) = true)
    (a24 : PySem.W.nsIn K mainGlobals "elders_of" = some (some (.ref f24))) (l24 : K.lookup f24 = some ⟨oc24, od24, .func (PySem.W.fnOf "elders_of" "elders_of" (defArgs s_elders_of) (defBody s_elders_of) (defScope s_elders_of) .none kV24 dc24 pm24 an24 cd24 ct24), sl24⟩) (c24 : PySem.W.codeIn K cd24 "elders_of" = true) (k24 : PySem.W.keepIn K (.ref f24) = true)
    (a25 : PySem.W.nsIn K mainGlobals "fields_of" = some (some (.ref f25))) (l25 : K.lookup f25 = some ⟨oc25, od25, .func (PySem.W.fnOf "fields_of" "fields_of" (defArgs s_fields_of) (defBody s_fields_of) (defScope s_fields_of) .none kV25 dc25 pm25 an25 cd25 ct25), sl25⟩) (c25 : PySem.W.codeIn K cd25 "fields_of" = true) (k25 : PySem.W.keepIn K (.ref f25) = true)
    (a26 : PySem.W.nsIn K mainGlobals "full_mask" = some (some (.ref f26))) (l26 : K.lookup f26 = some ⟨oc26, od26, .func (PySem.W.fnOf "full_mask" "full_mask" (defArgs s_full_mask) (defBody s_full_mask) (defScope s_full_mask) .none kV26 dc26 pm26 an26 cd26 ct26), sl26⟩) (c26 : PySem.W.codeIn K cd26 "full_mask" = true) (k26 : PySem.W.keepIn K (.ref f26) = true)
    (a27 : PySem.W.nsIn K mainGlobals "asked_of_records" = some (some (.ref f27))) (l27 : K.lookup f27 = some ⟨oc27, od27, .func (PySem.W.fnOf "asked_of_records" "asked_of_records" (defArgs s_asked_of_records) (defBody s_asked_of_records) (defScope s_asked_of_records) .none kV27 dc27 pm27 an27 cd27 ct27), sl27⟩) (c27 : PySem.W.codeIn K cd27 "asked_of_records" = true) (k27 : PySem.W.keepIn K (.ref f27) = true)
    (a28 : PySem.W.nsIn K mainGlobals "asked" = some (some (.ref f28))) (l28 : K.lookup f28 = some ⟨oc28, od28, .func (PySem.W.fnOf "asked" "asked" (defArgs s_asked) (defBody s_asked) (defScope s_asked) .none kV28 dc28 pm28 an28 cd28 ct28), sl28⟩) (c28 : PySem.W.codeIn K cd28 "asked" = true) (k28 : PySem.W.keepIn K (.ref f28) = true)
    (a29 : PySem.W.nsIn K mainGlobals "kinds_put_of_records" = some (some (.ref f29))) (l29 : K.lookup f29 = some ⟨oc29, od29, .func (PySem.W.fnOf "kinds_put_of_records" "kinds_put_of_records" (defArgs s_kinds_put_of_records) (defBody s_kinds_put_of_records) (defScope s_kinds_put_of_records) .none kV29 dc29 pm29 an29 cd29 ct29), sl29⟩) (c29 : PySem.W.codeIn K cd29 "kinds_put_of_records" = true) (k29 : PySem.W.keepIn K (.ref f29) = true)
    (a30 : PySem.W.nsIn K mainGlobals "leaves" = some (some (.ref f30))) (l30 : K.lookup f30 = some ⟨oc30, od30, .func (PySem.W.fnOf "leaves" "leaves" (defArgs s_leaves) (defBody s_leaves) (defScope s_leaves) .none kV30 dc30 pm30 an30 cd30 ct30), sl30⟩) (c30 : PySem.W.codeIn K cd30 "leaves" = true) (k30 : PySem.W.keepIn K (.ref f30) = true)
    (a31 : PySem.W.nsIn K mainGlobals "kinds_put" = some (some (.ref f31))) (l31 : K.lookup f31 = some ⟨oc31, od31, .func (PySem.W.fnOf "kinds_put" "kinds_put" (defArgs s_kinds_put) (defBody s_kinds_put) (defScope s_kinds_put) .none kV31 dc31 pm31 an31 cd31 ct31), sl31⟩) (c31 : PySem.W.codeIn K cd31 "kinds_put" = true) (k31 : PySem.W.keepIn K (.ref f31) = true)
    (a32 : PySem.W.nsIn K mainGlobals "replaced" = some (some (.ref f32))) (l32 : K.lookup f32 = some ⟨oc32, od32, .func (PySem.W.fnOf "replaced" "replaced" (defArgs s_replaced) (defBody s_replaced) (defScope s_replaced) .none kV32 dc32 pm32 an32 cd32 ct32), sl32⟩) (c32 : PySem.W.codeIn K cd32 "replaced" = true) (k32 : PySem.W.keepIn K (.ref f32) = true)
    (a33 : PySem.W.nsIn K mainGlobals "stand_behind" = some (some (.ref f33))) (l33 : K.lookup f33 = some ⟨oc33, od33, .func (PySem.W.fnOf "stand_behind" "stand_behind" (defArgs s_stand_behind) (defBody s_stand_behind) (defScope s_stand_behind) .none kV33 dc33 pm33 an33 cd33 ct33), sl33⟩) (c33 : PySem.W.codeIn K cd33 "stand_behind" = true) (k33 : PySem.W.keepIn K (.ref f33) = true)
    (a34 : PySem.W.nsIn K mainGlobals "outs" = some (some (.ref f34))) (l34 : K.lookup f34 = some ⟨oc34, od34, .func (PySem.W.fnOf "outs" "outs" (defArgs s_outs) (defBody s_outs) (defScope s_outs) .none kV34 dc34 pm34 an34 cd34 ct34), sl34⟩) (c34 : PySem.W.codeIn K cd34 "outs" = true) (k34 : PySem.W.keepIn K (.ref f34) = true)
    (a35 : PySem.W.nsIn K mainGlobals "_law_told" = some (some (.ref f35))) (l35 : K.lookup f35 = some ⟨oc35, od35, .func (PySem.W.fnOf "_law_told" "_law_told" (defArgs s_law_told) (defBody s_law_told) (defScope s_law_told) .none kV35 dc35 pm35 an35 cd35 ct35), sl35⟩) (c35 : PySem.W.codeIn K cd35 "_law_told" = true) (k35 : PySem.W.keepIn K (.ref f35) = true)
    (a36 : PySem.W.nsIn K mainGlobals "law" = some (some (.ref f36))) (l36 : K.lookup f36 = some ⟨oc36, od36, .func (PySem.W.fnOf "law" "law" (defArgs s_law) (defBody s_law) (defScope s_law) .none kV36 dc36 pm36 an36 cd36 ct36), sl36⟩) (c36 : PySem.W.codeIn K cd36 "law" = true) (k36 : PySem.W.keepIn K (.ref f36) = true)
    (g_ALWAYS : PySem.W.nsIn K mainGlobals "ALWAYS" = some (some (.ref d_ALWAYS)))
    (n_ALWAYS_129 : (d_ALWAYS == sysModules) = false)
    (q_ALWAYS_128 : K.lookup d_ALWAYS = some { cls := .type "dict", data := .dict #[{ hash := PyData.keyHash w.params "push", key := .str "push" t_ALWAYS_1, val := .ref r_ALWAYS_2 }, { hash := PyData.keyHash w.params "load", key := .str "load" t_ALWAYS_4, val := .ref r_ALWAYS_5 }, { hash := PyData.keyHash w.params "store", key := .str "store" t_ALWAYS_7, val := .ref r_ALWAYS_11 }, { hash := PyData.keyHash w.params "dup", key := .str "dup" t_ALWAYS_13, val := .ref r_ALWAYS_17 }, { hash := PyData.keyHash w.params "swap", key := .str "swap" t_ALWAYS_19, val := .ref r_ALWAYS_26 }, { hash := PyData.keyHash w.params "drop", key := .str "drop" t_ALWAYS_28, val := .ref r_ALWAYS_32 }, { hash := PyData.keyHash w.params "add", key := .str "add" t_ALWAYS_34, val := .ref r_ALWAYS_41 }, { hash := PyData.keyHash w.params "sub", key := .str "sub" t_ALWAYS_43, val := .ref r_ALWAYS_50 }, { hash := PyData.keyHash w.params "mul", key := .str "mul" t_ALWAYS_52, val := .ref r_ALWAYS_59 }, { hash := PyData.keyHash w.params "div", key := .str "div" t_ALWAYS_61, val := .ref r_ALWAYS_68 }, { hash := PyData.keyHash w.params "rem", key := .str "rem" t_ALWAYS_70, val := .ref r_ALWAYS_77 }, { hash := PyData.keyHash w.params "less", key := .str "less" t_ALWAYS_79, val := .ref r_ALWAYS_86 }, { hash := PyData.keyHash w.params "same", key := .str "same" t_ALWAYS_88, val := .ref r_ALWAYS_95 }, { hash := PyData.keyHash w.params "jump", key := .str "jump" t_ALWAYS_97, val := .ref r_ALWAYS_98 }, { hash := PyData.keyHash w.params "zero", key := .str "zero" t_ALWAYS_100, val := .ref r_ALWAYS_104 }, { hash := PyData.keyHash w.params "kin", key := .str "kin" t_ALWAYS_106, val := .ref r_ALWAYS_111 }, { hash := PyData.keyHash w.params "make", key := .str "make" t_ALWAYS_113, val := .ref r_ALWAYS_114 }, { hash := PyData.keyHash w.params "toss", key := .str "toss" t_ALWAYS_116, val := .ref r_ALWAYS_120 }, { hash := PyData.keyHash w.params "say", key := .str "say" t_ALWAYS_122, val := .ref r_ALWAYS_126 }] ep_ALWAYS })
    (q_ALWAYS_127 : K.lookup r_ALWAYS_126 = some { cls := .type "tuple", data := .seq #[.ref r_ALWAYS_124] 0 })
    (q_ALWAYS_125 : K.lookup r_ALWAYS_124 = some { cls := .type "tuple", data := .seq #[.str "number" t_ALWAYS_123] 0 })
    (q_ALWAYS_121 : K.lookup r_ALWAYS_120 = some { cls := .type "tuple", data := .seq #[.ref r_ALWAYS_118] 0 })
    (q_ALWAYS_119 : K.lookup r_ALWAYS_118 = some { cls := .type "tuple", data := .seq #[.str "number" t_ALWAYS_117] 0 })
    (q_ALWAYS_115 : K.lookup r_ALWAYS_114 = some { cls := .type "tuple", data := .seq #[] 0 })
    (q_ALWAYS_112 : K.lookup r_ALWAYS_111 = some { cls := .type "tuple", data := .seq #[.ref r_ALWAYS_109] 0 })
    (q_ALWAYS_110 : K.lookup r_ALWAYS_109 = some { cls := .type "tuple", data := .seq #[.str "whole" t_ALWAYS_107, .int 0 t_ALWAYS_108] 0 })
    (q_ALWAYS_105 : K.lookup r_ALWAYS_104 = some { cls := .type "tuple", data := .seq #[.ref r_ALWAYS_102] 0 })
    (q_ALWAYS_103 : K.lookup r_ALWAYS_102 = some { cls := .type "tuple", data := .seq #[.str "number" t_ALWAYS_101] 0 })
    (q_ALWAYS_99 : K.lookup r_ALWAYS_98 = some { cls := .type "tuple", data := .seq #[] 0 })
    (q_ALWAYS_96 : K.lookup r_ALWAYS_95 = some { cls := .type "tuple", data := .seq #[.ref r_ALWAYS_90, .ref r_ALWAYS_93] 0 })
    (q_ALWAYS_94 : K.lookup r_ALWAYS_93 = some { cls := .type "tuple", data := .seq #[.str "number" t_ALWAYS_92] 0 })
    (q_ALWAYS_91 : K.lookup r_ALWAYS_90 = some { cls := .type "tuple", data := .seq #[.str "number" t_ALWAYS_89] 0 })
    (q_ALWAYS_87 : K.lookup r_ALWAYS_86 = some { cls := .type "tuple", data := .seq #[.ref r_ALWAYS_81, .ref r_ALWAYS_84] 0 })
    (q_ALWAYS_85 : K.lookup r_ALWAYS_84 = some { cls := .type "tuple", data := .seq #[.str "number" t_ALWAYS_83] 0 })
    (q_ALWAYS_82 : K.lookup r_ALWAYS_81 = some { cls := .type "tuple", data := .seq #[.str "number" t_ALWAYS_80] 0 })
    (q_ALWAYS_78 : K.lookup r_ALWAYS_77 = some { cls := .type "tuple", data := .seq #[.ref r_ALWAYS_72, .ref r_ALWAYS_75] 0 })
    (q_ALWAYS_76 : K.lookup r_ALWAYS_75 = some { cls := .type "tuple", data := .seq #[.str "number" t_ALWAYS_74] 0 })
    (q_ALWAYS_73 : K.lookup r_ALWAYS_72 = some { cls := .type "tuple", data := .seq #[.str "number" t_ALWAYS_71] 0 })
    (q_ALWAYS_69 : K.lookup r_ALWAYS_68 = some { cls := .type "tuple", data := .seq #[.ref r_ALWAYS_63, .ref r_ALWAYS_66] 0 })
    (q_ALWAYS_67 : K.lookup r_ALWAYS_66 = some { cls := .type "tuple", data := .seq #[.str "number" t_ALWAYS_65] 0 })
    (q_ALWAYS_64 : K.lookup r_ALWAYS_63 = some { cls := .type "tuple", data := .seq #[.str "number" t_ALWAYS_62] 0 })
    (q_ALWAYS_60 : K.lookup r_ALWAYS_59 = some { cls := .type "tuple", data := .seq #[.ref r_ALWAYS_54, .ref r_ALWAYS_57] 0 })
    (q_ALWAYS_58 : K.lookup r_ALWAYS_57 = some { cls := .type "tuple", data := .seq #[.str "number" t_ALWAYS_56] 0 })
    (q_ALWAYS_55 : K.lookup r_ALWAYS_54 = some { cls := .type "tuple", data := .seq #[.str "number" t_ALWAYS_53] 0 })
    (q_ALWAYS_51 : K.lookup r_ALWAYS_50 = some { cls := .type "tuple", data := .seq #[.ref r_ALWAYS_45, .ref r_ALWAYS_48] 0 })
    (q_ALWAYS_49 : K.lookup r_ALWAYS_48 = some { cls := .type "tuple", data := .seq #[.str "number" t_ALWAYS_47] 0 })
    (q_ALWAYS_46 : K.lookup r_ALWAYS_45 = some { cls := .type "tuple", data := .seq #[.str "number" t_ALWAYS_44] 0 })
    (q_ALWAYS_42 : K.lookup r_ALWAYS_41 = some { cls := .type "tuple", data := .seq #[.ref r_ALWAYS_36, .ref r_ALWAYS_39] 0 })
    (q_ALWAYS_40 : K.lookup r_ALWAYS_39 = some { cls := .type "tuple", data := .seq #[.str "number" t_ALWAYS_38] 0 })
    (q_ALWAYS_37 : K.lookup r_ALWAYS_36 = some { cls := .type "tuple", data := .seq #[.str "number" t_ALWAYS_35] 0 })
    (q_ALWAYS_33 : K.lookup r_ALWAYS_32 = some { cls := .type "tuple", data := .seq #[.ref r_ALWAYS_30] 0 })
    (q_ALWAYS_31 : K.lookup r_ALWAYS_30 = some { cls := .type "tuple", data := .seq #[.str "any" t_ALWAYS_29] 0 })
    (q_ALWAYS_27 : K.lookup r_ALWAYS_26 = some { cls := .type "tuple", data := .seq #[.ref r_ALWAYS_21, .ref r_ALWAYS_24] 0 })
    (q_ALWAYS_25 : K.lookup r_ALWAYS_24 = some { cls := .type "tuple", data := .seq #[.str "any" t_ALWAYS_23] 0 })
    (q_ALWAYS_22 : K.lookup r_ALWAYS_21 = some { cls := .type "tuple", data := .seq #[.str "any" t_ALWAYS_20] 0 })
    (q_ALWAYS_18 : K.lookup r_ALWAYS_17 = some { cls := .type "tuple", data := .seq #[.ref r_ALWAYS_15] 0 })
    (q_ALWAYS_16 : K.lookup r_ALWAYS_15 = some { cls := .type "tuple", data := .seq #[.str "any" t_ALWAYS_14] 0 })
    (q_ALWAYS_12 : K.lookup r_ALWAYS_11 = some { cls := .type "tuple", data := .seq #[.ref r_ALWAYS_9] 0 })
    (q_ALWAYS_10 : K.lookup r_ALWAYS_9 = some { cls := .type "tuple", data := .seq #[.str "any" t_ALWAYS_8] 0 })
    (q_ALWAYS_6 : K.lookup r_ALWAYS_5 = some { cls := .type "tuple", data := .seq #[] 0 })
    (q_ALWAYS_3 : K.lookup r_ALWAYS_2 = some { cls := .type "tuple", data := .seq #[] 0 })
    (g_ENDING : PySem.W.nsIn K mainGlobals "ENDING" = some (some (.ref r_ENDING_4)))
    (q_ENDING_5 : K.lookup r_ENDING_4 = some { cls := .type "tuple", data := .seq #[.str "jump" t_ENDING_1, .str "toss" t_ENDING_2, .str "give" t_ENDING_3] 0 })
    (g_FAULTING : PySem.W.nsIn K mainGlobals "FAULTING" = some (some (.ref r_FAULTING_5)))
    (q_FAULTING_6 : K.lookup r_FAULTING_5 = some { cls := .type "tuple", data := .seq #[.str "div" t_FAULTING_1, .str "rem" t_FAULTING_2, .str "toss" t_FAULTING_3, .str "call" t_FAULTING_4] 0 })
    (g_GOING : PySem.W.nsIn K mainGlobals "GOING" = some (some (.ref r_GOING_4)))
    (q_GOING_5 : K.lookup r_GOING_4 = some { cls := .type "tuple", data := .seq #[.str "jump" t_GOING_1, .str "zero" t_GOING_2, .str "kin" t_GOING_3] 0 })
    (g_LEFT : PySem.W.nsIn K mainGlobals "LEFT" = some (some (.ref d_LEFT)))
    (n_LEFT_22 : (d_LEFT == sysModules) = false)
    (q_LEFT_21 : K.lookup d_LEFT = some { cls := .type "dict", data := .dict #[{ hash := PyData.keyHash w.params "store", key := .str "store" t_LEFT_1, val := .int 0 t_LEFT_2 }, { hash := PyData.keyHash w.params "dup", key := .str "dup" t_LEFT_3, val := .int 2 t_LEFT_4 }, { hash := PyData.keyHash w.params "swap", key := .str "swap" t_LEFT_5, val := .int 2 t_LEFT_6 }, { hash := PyData.keyHash w.params "drop", key := .str "drop" t_LEFT_7, val := .int 0 t_LEFT_8 }, { hash := PyData.keyHash w.params "jump", key := .str "jump" t_LEFT_9, val := .int 0 t_LEFT_10 }, { hash := PyData.keyHash w.params "zero", key := .str "zero" t_LEFT_11, val := .int 0 t_LEFT_12 }, { hash := PyData.keyHash w.params "put", key := .str "put" t_LEFT_13, val := .int 0 t_LEFT_14 }, { hash := PyData.keyHash w.params "toss", key := .str "toss" t_LEFT_15, val := .int 0 t_LEFT_16 }, { hash := PyData.keyHash w.params "say", key := .str "say" t_LEFT_17, val := .int 0 t_LEFT_18 }, { hash := PyData.keyHash w.params "give", key := .str "give" t_LEFT_19, val := .int 0 t_LEFT_20 }] ep_LEFT })
    (g_OF_RECORDS : PySem.W.nsIn K mainGlobals "OF_RECORDS" = some (some (.ref r_OF_RECORDS_6)))
    (q_OF_RECORDS_7 : K.lookup r_OF_RECORDS_6 = some { cls := .type "tuple", data := .seq #[.str "make" t_OF_RECORDS_1, .str "fill" t_OF_RECORDS_2, .str "begin" t_OF_RECORDS_3, .str "get" t_OF_RECORDS_4, .str "put" t_OF_RECORDS_5] 0 })
    (z_all : PySem.W.nsIn K mainGlobals "all" = some none)
    (z_bool : PySem.W.nsIn K mainGlobals "bool" = some none)
    (z_int : PySem.W.nsIn K mainGlobals "int" = some none)
    (z_isinstance : PySem.W.nsIn K mainGlobals "isinstance" = some none)
    (z_len : PySem.W.nsIn K mainGlobals "len" = some none)
    (z_list : PySem.W.nsIn K mainGlobals "list" = some none)
    (z_max : PySem.W.nsIn K mainGlobals "max" = some none)
    (z_range : PySem.W.nsIn K mainGlobals "range" = some none)
    (z_reversed : PySem.W.nsIn K mainGlobals "reversed" = some none)
    (z_tuple : PySem.W.nsIn K mainGlobals "tuple" = some none)
    : ∃ fd : FuncData, (∀ (s : Shared) (v : Value), BindsTo s fd ⟨[v], []⟩ [("_law_script", v)]) ∧ ∀ base : Heap, K.In base → base.Ns mainGlobals mg → FnOk l.prog w K mg base CX0 9 fa fd ["_law_script"] (sp_law K) := by
  have e := hfa.symm.trans (PySem.W.mg_of X G a36)
  cases e
  have F0 := fun_mk (st := s_law_draw) l0 c0 k0
  have b0 := F0.binds (ps := ["_law_script", "_law_k"]) fun _ _ _ _ _ _ => ln2 (fun _ _ => by rfl)
  have F1 := fun_mk (st := s_law_elders) l1 c1 k1
  have b1 := F1.binds (ps := ["_law_makes_here", "_law_c"]) fun _ _ _ _ _ _ => ln2 (fun _ _ => by rfl)
  have F2 := fun_mk (st := s_law_fields) l2 c2 k2
  have b2 := F2.binds (ps := ["_law_makes_here", "_law_c"]) fun _ _ _ _ _ _ => ln2 (fun _ _ => by rfl)
  have F3 := fun_mk (st := s_law_kind) l3 c3 k3
  have b3 := F3.binds (ps := ["_law_cell", "_law_sizes"]) fun _ _ _ _ _ _ => ln2 (fun _ _ => by rfl)
  have F4 := fun_mk (st := s_law_makes) l4 c4 k4
  have b4 := F4.binds (ps := ["_law_script", "_law_at"]) fun _ _ _ _ _ _ => ln2 (fun _ _ => by rfl)
  have F5 := fun_mk (st := s_law_last) l5 c5 k5
  have b5 := F5.binds (ps := ["_law_cell", "_law_many"]) fun _ _ _ _ _ _ => ln2 (fun _ _ => by rfl)
  have F6 := fun_mk (st := s_law_signs) l6 c6 k6
  have b6 := F6.binds (ps := []) fun _ _ _ _ _ _ => ln0 (by rfl)
  have F7 := fun_mk (st := s_law_row) l7 c7 k7
  have b7 := F7.binds (ps := ["_law_cell", "_law_sizes", "_law_parts", "_law_boxes", "_law_many"]) fun _ _ _ _ _ _ => ln5 (fun _ _ _ _ _ => by rfl)
  have F8 := fun_mk (st := s_law_stretch) l8 c8 k8
  have b8 := F8.binds (ps := ["_law_cell", "_law_other", "_law_many"]) fun _ _ _ _ _ _ => ln3 (fun _ _ _ => by rfl)
  have F9 := fun_mk (st := s_law_part) l9 c9 k9
  have b9 := F9.binds (ps := ["_law_script", "_law_at", "_law_sizes", "_law_parts"]) fun _ _ _ _ _ _ => ln4 (fun _ _ _ _ => by rfl)
  have F10 := fun_mk (st := s_law_book) l10 c10 k10
  have b10 := F10.binds (ps := ["_law_script", "_law_at"]) fun _ _ _ _ _ _ => ln2 (fun _ _ => by rfl)
  have F11 := fun_mk (st := s_law_asked) l11 c11 k11
  have b11 := F11.binds (ps := ["_law_book_here", "_law_part_here", "_law_row_here"]) fun _ _ _ _ _ _ => ln3 (fun _ _ _ => by rfl)
  have F12 := fun_mk (st := s_law_below) l12 c12 k12
  have b12 := F12.binds (ps := ["_law_makes_here", "_law_kind_here", "_law_other"]) fun _ _ _ _ _ _ => ln3 (fun _ _ _ => by rfl)
  have F13 := fun_mk (st := s_law_break) l13 c13 k13
  have b13 := F13.binds (ps := ["_law_book_here", "_law_part_here", "_law_row_here", "_law_stand_here"]) fun _ _ _ _ _ _ => ln4 (fun _ _ _ _ => by rfl)
  have F14 := fun_mk (st := s_law_copy) l14 c14 k14
  have b14 := F14.binds (ps := ["_law_makes_here"]) fun _ _ _ _ _ _ => ln1 (fun _ => by rfl)
  have F15 := fun_mk (st := s_law_copied) l15 c15 k15
  have b15 := F15.binds (ps := ["_law_book_here"]) fun _ _ _ _ _ _ => ln1 (fun _ => by rfl)
  have F16 := fun_mk (st := s_law_lower) l16 c16 k16
  have b16 := F16.binds (ps := ["_law_makes_here", "_law_sizes", "_law_kind_here", "_law_cell"]) fun _ _ _ _ _ _ => ln4 (fun _ _ _ _ => by rfl)
  have F17 := fun_mk (st := s_law_stand) l17 c17 k17
  have b17 := F17.binds (ps := ["_law_script", "_law_at", "_law_book_here", "_law_part_here", "_law_row_here"]) fun _ _ _ _ _ _ => ln5 (fun _ _ _ _ _ => by rfl)
  have F18 := fun_mk (st := s_law_put_there) l18 c18 k18
  have b18 := F18.binds (ps := ["_law_book_here", "_law_row_here", "_law_boxes", "_law_top"]) fun _ _ _ _ _ _ => ln4 (fun _ _ _ _ => by rfl)
  have F19 := fun_mk (st := s_law_next) l19 c19 k19
  have b19 := F19.binds (ps := ["_law_book_here", "_law_part_here", "_law_row_here", "_law_stand_here"]) fun _ _ _ _ _ _ => ln4 (fun _ _ _ _ => by rfl)
  have F20 := fun_mk (st := s_law_leads) l20 c20 k20
  have b20 := F20.binds (ps := ["_law_book_here", "_law_part_here", "_law_at", "_law_stand_here"]) fun _ _ _ _ _ _ => ln4 (fun _ _ _ _ => by rfl)
  have F21 := fun_mk (st := s_law_same_kind) l21 c21 k21
  have b21 := F21.binds (ps := ["_law_found", "_law_due"]) fun _ _ _ _ _ _ => ln2 (fun _ _ => by rfl)
  have F22 := fun_mk (st := s_law_same_stand) l22 c22 k22
  have b22 := F22.binds (ps := ["_law_found", "_law_due"]) fun _ _ _ _ _ _ => ln2 (fun _ _ => by rfl)
  have F23 := fun_mk (st := s_catcher) l23 c23 k23
  have b23 := F23.binds (ps := ["stretches", "at"]) fun _ _ _ _ _ _ => ln2 (fun _ _ => by rfl)
  have F24 := fun_mk (st := s_elders_of) l24 c24 k24
  have b24 := F24.binds (ps := ["makes", "c"]) fun _ _ _ _ _ _ => ln2 (fun _ _ => by rfl)
  have F25 := fun_mk (st := s_fields_of) l25 c25 k25
  have b25 := F25.binds (ps := ["makes", "c"]) fun _ _ _ _ _ _ => ln2 (fun _ _ => by rfl)
  have F26 := fun_mk (st := s_full_mask) l26 c26 k26
  have b26 := F26.binds (ps := ["makes", "c"]) fun _ _ _ _ _ _ => ln2 (fun _ _ => by rfl)
  have F27 := fun_mk (st := s_asked_of_records) l27 c27 k27
  have b27 := F27.binds (ps := ["makes", "row"]) fun _ _ _ _ _ _ => ln2 (fun _ _ => by rfl)
  have F28 := fun_mk (st := s_asked) l28 c28 k28
  have b28 := F28.binds (ps := ["book", "part", "row"]) fun _ _ _ _ _ _ => ln3 (fun _ _ _ => by rfl)
  have F29 := fun_mk (st := s_kinds_put_of_records) l29 c29 k29
  have b29 := F29.binds (ps := ["makes", "row", "took"]) fun _ _ _ _ _ _ => ln3 (fun _ _ _ => by rfl)
  have F30 := fun_mk (st := s_leaves) l30 c30 k30
  have b30 := F30.binds (ps := ["row"]) fun _ _ _ _ _ _ => ln1 (fun _ => by rfl)
  have F31 := fun_mk (st := s_kinds_put) l31 c31 k31
  have b31 := F31.binds (ps := ["book", "row", "boxes", "took"]) fun _ _ _ _ _ _ => ln4 (fun _ _ _ _ => by rfl)
  have F32 := fun_mk (st := s_replaced) l32 c32 k32
  have b32 := F32.binds (ps := ["some", "spot", "thing"]) fun _ _ _ _ _ _ => ln3 (fun _ _ _ => by rfl)
  have F33 := fun_mk (st := s_stand_behind) l33 c33 k33
  have b33 := F33.binds (ps := ["book", "part", "row", "stand"]) fun _ _ _ _ _ _ => ln4 (fun _ _ _ _ => by rfl)
  have F34 := fun_mk (st := s_outs) l34 c34 k34
  have b34 := F34.binds (ps := ["book", "part", "at", "stand"]) fun _ _ _ _ _ _ => ln4 (fun _ _ _ _ => by rfl)
  have F35 := fun_mk (st := s_law_told) l35 c35 k35
  have b35 := F35.binds (ps := ["_law_handed", "_law_book_here", "_law_part_here", "_law_at", "_law_stand_here"]) fun _ _ _ _ _ _ => ln5 (fun _ _ _ _ _ => by rfl)
  have F36 := fun_mk (st := s_law) l36 c36 k36
  have y_all := PySem.W.mg_none_of X G z_all
  have y_bool := PySem.W.mg_none_of X G z_bool
  have y_int := PySem.W.mg_none_of X G z_int
  have y_isinstance := PySem.W.mg_none_of X G z_isinstance
  have y_len := PySem.W.mg_none_of X G z_len
  have y_list := PySem.W.mg_none_of X G z_list
  have y_max := PySem.W.mg_none_of X G z_max
  have y_range := PySem.W.mg_none_of X G z_range
  have y_reversed := PySem.W.mg_none_of X G z_reversed
  have y_tuple := PySem.W.mg_none_of X G z_tuple
  have v_ALWAYS := PySem.W.mg_of X G g_ALWAYS
  have v_ENDING := PySem.W.mg_of X G g_ENDING
  have v_FAULTING := PySem.W.mg_of X G g_FAULTING
  have v_GOING := PySem.W.mg_of X G g_GOING
  have v_LEFT := PySem.W.mg_of X G g_LEFT
  have v_OF_RECORDS := PySem.W.mg_of X G g_OF_RECORDS
  have w_ALWAYS : DiD K w d_ALWAYS kd_ALWAYS := diD_of (ent := [("push", t_ALWAYS_1, .ref r_ALWAYS_2), ("load", t_ALWAYS_4, .ref r_ALWAYS_5), ("store", t_ALWAYS_7, .ref r_ALWAYS_11), ("dup", t_ALWAYS_13, .ref r_ALWAYS_17), ("swap", t_ALWAYS_19, .ref r_ALWAYS_26), ("drop", t_ALWAYS_28, .ref r_ALWAYS_32), ("add", t_ALWAYS_34, .ref r_ALWAYS_41), ("sub", t_ALWAYS_43, .ref r_ALWAYS_50), ("mul", t_ALWAYS_52, .ref r_ALWAYS_59), ("div", t_ALWAYS_61, .ref r_ALWAYS_68), ("rem", t_ALWAYS_70, .ref r_ALWAYS_77), ("less", t_ALWAYS_79, .ref r_ALWAYS_86), ("same", t_ALWAYS_88, .ref r_ALWAYS_95), ("jump", t_ALWAYS_97, .ref r_ALWAYS_98), ("zero", t_ALWAYS_100, .ref r_ALWAYS_104), ("kin", t_ALWAYS_106, .ref r_ALWAYS_111), ("make", t_ALWAYS_113, .ref r_ALWAYS_114), ("toss", t_ALWAYS_116, .ref r_ALWAYS_120), ("say", t_ALWAYS_122, .ref r_ALWAYS_126)]) n_ALWAYS_129 q_ALWAYS_128 (show (["push", "load", "store", "dup", "swap", "drop", "add", "sub", "mul", "div", "rem", "less", "same", "jump", "zero", "kin", "make", "toss", "say"] : List Str).Nodup by decide +kernel) (.cons ⟨rfl, (rdK_tup (its := []) q_ALWAYS_3 (show 0 ≤ sizeLine by decide) .nil)⟩ (.cons ⟨rfl, (rdK_tup (its := []) q_ALWAYS_6 (show 0 ≤ sizeLine by decide) .nil)⟩ (.cons ⟨rfl, (rdK_tup (its := [.ref r_ALWAYS_9]) q_ALWAYS_12 (show 1 ≤ sizeLine by decide) (.cons (rdK_tup (its := [.str "any" t_ALWAYS_8]) q_ALWAYS_10 (show 1 ≤ sizeLine by decide) (.cons rdK_str .nil)) .nil))⟩ (.cons ⟨rfl, (rdK_tup (its := [.ref r_ALWAYS_15]) q_ALWAYS_18 (show 1 ≤ sizeLine by decide) (.cons (rdK_tup (its := [.str "any" t_ALWAYS_14]) q_ALWAYS_16 (show 1 ≤ sizeLine by decide) (.cons rdK_str .nil)) .nil))⟩ (.cons ⟨rfl, (rdK_tup (its := [.ref r_ALWAYS_21, .ref r_ALWAYS_24]) q_ALWAYS_27 (show 2 ≤ sizeLine by decide) (.cons (rdK_tup (its := [.str "any" t_ALWAYS_20]) q_ALWAYS_22 (show 1 ≤ sizeLine by decide) (.cons rdK_str .nil)) (.cons (rdK_tup (its := [.str "any" t_ALWAYS_23]) q_ALWAYS_25 (show 1 ≤ sizeLine by decide) (.cons rdK_str .nil)) .nil)))⟩ (.cons ⟨rfl, (rdK_tup (its := [.ref r_ALWAYS_30]) q_ALWAYS_33 (show 1 ≤ sizeLine by decide) (.cons (rdK_tup (its := [.str "any" t_ALWAYS_29]) q_ALWAYS_31 (show 1 ≤ sizeLine by decide) (.cons rdK_str .nil)) .nil))⟩ (.cons ⟨rfl, (rdK_tup (its := [.ref r_ALWAYS_36, .ref r_ALWAYS_39]) q_ALWAYS_42 (show 2 ≤ sizeLine by decide) (.cons (rdK_tup (its := [.str "number" t_ALWAYS_35]) q_ALWAYS_37 (show 1 ≤ sizeLine by decide) (.cons rdK_str .nil)) (.cons (rdK_tup (its := [.str "number" t_ALWAYS_38]) q_ALWAYS_40 (show 1 ≤ sizeLine by decide) (.cons rdK_str .nil)) .nil)))⟩ (.cons ⟨rfl, (rdK_tup (its := [.ref r_ALWAYS_45, .ref r_ALWAYS_48]) q_ALWAYS_51 (show 2 ≤ sizeLine by decide) (.cons (rdK_tup (its := [.str "number" t_ALWAYS_44]) q_ALWAYS_46 (show 1 ≤ sizeLine by decide) (.cons rdK_str .nil)) (.cons (rdK_tup (its := [.str "number" t_ALWAYS_47]) q_ALWAYS_49 (show 1 ≤ sizeLine by decide) (.cons rdK_str .nil)) .nil)))⟩ (.cons ⟨rfl, (rdK_tup (its := [.ref r_ALWAYS_54, .ref r_ALWAYS_57]) q_ALWAYS_60 (show 2 ≤ sizeLine by decide) (.cons (rdK_tup (its := [.str "number" t_ALWAYS_53]) q_ALWAYS_55 (show 1 ≤ sizeLine by decide) (.cons rdK_str .nil)) (.cons (rdK_tup (its := [.str "number" t_ALWAYS_56]) q_ALWAYS_58 (show 1 ≤ sizeLine by decide) (.cons rdK_str .nil)) .nil)))⟩ (.cons ⟨rfl, (rdK_tup (its := [.ref r_ALWAYS_63, .ref r_ALWAYS_66]) q_ALWAYS_69 (show 2 ≤ sizeLine by decide) (.cons (rdK_tup (its := [.str "number" t_ALWAYS_62]) q_ALWAYS_64 (show 1 ≤ sizeLine by decide) (.cons rdK_str .nil)) (.cons (rdK_tup (its := [.str "number" t_ALWAYS_65]) q_ALWAYS_67 (show 1 ≤ sizeLine by decide) (.cons rdK_str .nil)) .nil)))⟩ (.cons ⟨rfl, (rdK_tup (its := [.ref r_ALWAYS_72, .ref r_ALWAYS_75]) q_ALWAYS_78 (show 2 ≤ sizeLine by decide) (.cons (rdK_tup (its := [.str "number" t_ALWAYS_71]) q_ALWAYS_73 (show 1 ≤ sizeLine by decide) (.cons rdK_str .nil)) (.cons (rdK_tup (its := [.str "number" t_ALWAYS_74]) q_ALWAYS_76 (show 1 ≤ sizeLine by decide) (.cons rdK_str .nil)) .nil)))⟩ (.cons ⟨rfl, (rdK_tup (its := [.ref r_ALWAYS_81, .ref r_ALWAYS_84]) q_ALWAYS_87 (show 2 ≤ sizeLine by decide) (.cons (rdK_tup (its := [.str "number" t_ALWAYS_80]) q_ALWAYS_82 (show 1 ≤ sizeLine by decide) (.cons rdK_str .nil)) (.cons (rdK_tup (its := [.str "number" t_ALWAYS_83]) q_ALWAYS_85 (show 1 ≤ sizeLine by decide) (.cons rdK_str .nil)) .nil)))⟩ (.cons ⟨rfl, (rdK_tup (its := [.ref r_ALWAYS_90, .ref r_ALWAYS_93]) q_ALWAYS_96 (show 2 ≤ sizeLine by decide) (.cons (rdK_tup (its := [.str "number" t_ALWAYS_89]) q_ALWAYS_91 (show 1 ≤ sizeLine by decide) (.cons rdK_str .nil)) (.cons (rdK_tup (its := [.str "number" t_ALWAYS_92]) q_ALWAYS_94 (show 1 ≤ sizeLine by decide) (.cons rdK_str .nil)) .nil)))⟩ (.cons ⟨rfl, (rdK_tup (its := []) q_ALWAYS_99 (show 0 ≤ sizeLine by decide) .nil)⟩ (.cons ⟨rfl, (rdK_tup (its := [.ref r_ALWAYS_102]) q_ALWAYS_105 (show 1 ≤ sizeLine by decide) (.cons (rdK_tup (its := [.str "number" t_ALWAYS_101]) q_ALWAYS_103 (show 1 ≤ sizeLine by decide) (.cons rdK_str .nil)) .nil))⟩ (.cons ⟨rfl, (rdK_tup (its := [.ref r_ALWAYS_109]) q_ALWAYS_112 (show 1 ≤ sizeLine by decide) (.cons (rdK_tup (its := [.str "whole" t_ALWAYS_107, .int 0 t_ALWAYS_108]) q_ALWAYS_110 (show 2 ≤ sizeLine by decide) (.cons rdK_str (.cons rdK_int .nil))) .nil))⟩ (.cons ⟨rfl, (rdK_tup (its := []) q_ALWAYS_115 (show 0 ≤ sizeLine by decide) .nil)⟩ (.cons ⟨rfl, (rdK_tup (its := [.ref r_ALWAYS_118]) q_ALWAYS_121 (show 1 ≤ sizeLine by decide) (.cons (rdK_tup (its := [.str "number" t_ALWAYS_117]) q_ALWAYS_119 (show 1 ≤ sizeLine by decide) (.cons rdK_str .nil)) .nil))⟩ (.cons ⟨rfl, (rdK_tup (its := [.ref r_ALWAYS_124]) q_ALWAYS_127 (show 1 ≤ sizeLine by decide) (.cons (rdK_tup (its := [.str "number" t_ALWAYS_123]) q_ALWAYS_125 (show 1 ≤ sizeLine by decide) (.cons rdK_str .nil)) .nil))⟩ .nil)))))))))))))))))))
  have w_ENDING : ∀ H : Hp, RdV K H (.ref r_ENDING_4) kd_ENDING := rdK_ref (rdK_tup (its := [.str "jump" t_ENDING_1, .str "toss" t_ENDING_2, .str "give" t_ENDING_3]) q_ENDING_5 (show 3 ≤ sizeLine by decide) (.cons rdK_str (.cons rdK_str (.cons rdK_str .nil))))
  have w_FAULTING : ∀ H : Hp, RdV K H (.ref r_FAULTING_5) kd_FAULTING := rdK_ref (rdK_tup (its := [.str "div" t_FAULTING_1, .str "rem" t_FAULTING_2, .str "toss" t_FAULTING_3, .str "call" t_FAULTING_4]) q_FAULTING_6 (show 4 ≤ sizeLine by decide) (.cons rdK_str (.cons rdK_str (.cons rdK_str (.cons rdK_str .nil)))))
  have w_GOING : ∀ H : Hp, RdV K H (.ref r_GOING_4) kd_GOING := rdK_ref (rdK_tup (its := [.str "jump" t_GOING_1, .str "zero" t_GOING_2, .str "kin" t_GOING_3]) q_GOING_5 (show 3 ≤ sizeLine by decide) (.cons rdK_str (.cons rdK_str (.cons rdK_str .nil))))
  have w_LEFT : DiD K w d_LEFT kd_LEFT := diD_of (ent := [("store", t_LEFT_1, .int 0 t_LEFT_2), ("dup", t_LEFT_3, .int 2 t_LEFT_4), ("swap", t_LEFT_5, .int 2 t_LEFT_6), ("drop", t_LEFT_7, .int 0 t_LEFT_8), ("jump", t_LEFT_9, .int 0 t_LEFT_10), ("zero", t_LEFT_11, .int 0 t_LEFT_12), ("put", t_LEFT_13, .int 0 t_LEFT_14), ("toss", t_LEFT_15, .int 0 t_LEFT_16), ("say", t_LEFT_17, .int 0 t_LEFT_18), ("give", t_LEFT_19, .int 0 t_LEFT_20)]) n_LEFT_22 q_LEFT_21 (show (["store", "dup", "swap", "drop", "jump", "zero", "put", "toss", "say", "give"] : List Str).Nodup by decide +kernel) (.cons ⟨rfl, rdK_int⟩ (.cons ⟨rfl, rdK_int⟩ (.cons ⟨rfl, rdK_int⟩ (.cons ⟨rfl, rdK_int⟩ (.cons ⟨rfl, rdK_int⟩ (.cons ⟨rfl, rdK_int⟩ (.cons ⟨rfl, rdK_int⟩ (.cons ⟨rfl, rdK_int⟩ (.cons ⟨rfl, rdK_int⟩ (.cons ⟨rfl, rdK_int⟩ .nil))))))))))
  have w_OF_RECORDS : ∀ H : Hp, RdV K H (.ref r_OF_RECORDS_6) kd_OF_RECORDS := rdK_ref (rdK_tup (its := [.str "make" t_OF_RECORDS_1, .str "fill" t_OF_RECORDS_2, .str "begin" t_OF_RECORDS_3, .str "get" t_OF_RECORDS_4, .str "put" t_OF_RECORDS_5]) q_OF_RECORDS_7 (show 5 ≤ sizeLine by decide) (.cons rdK_str (.cons rdK_str (.cons rdK_str (.cons rdK_str (.cons rdK_str .nil))))))
  refine ⟨PySem.W.fnOf "law" "law" (defArgs s_law) (defBody s_law) (defScope s_law) .none kV36 dc36 pm36 an36 cd36 ct36, fun s v => .of_eq rfl, fun base _ _ => ?_⟩
  have H__law_draw : Has l.prog w K mg base CX0 "_law_draw" 1 ["_law_script", "_law_k"] (sp_law_draw K) := ⟨_, _, ok__law_draw F0 (z_len := y_len), b0, k0, PySem.W.mg_of X G a0⟩
  have H__law_elders : Has l.prog w K mg base CX0 "_law_elders" 1 ["_law_makes_here", "_law_c"] (sp_law_elders K) := ⟨_, _, ok__law_elders F1 , b1, k1, PySem.W.mg_of X G a1⟩
  have H__law_fields : Has l.prog w K mg base CX0 "_law_fields" 2 ["_law_makes_here", "_law_c"] (sp_law_fields K) := ⟨_, _, ok__law_fields F2 (z_reversed := y_reversed) (h__law_elders := H__law_elders), b2, k2, PySem.W.mg_of X G a2⟩
  have H__law_kind : Has l.prog w K mg base CX0 "_law_kind" 1 ["_law_cell", "_law_sizes"] (sp_law_kind K) := ⟨_, _, ok__law_kind F3 (z_len := y_len), b3, k3, PySem.W.mg_of X G a3⟩
  have H__law_makes : Has l.prog w K mg base CX0 "_law_makes" 2 ["_law_script", "_law_at"] (sp_law_makes K) := ⟨_, _, ok__law_makes F4 (z_len := y_len) (z_range := y_range) (h__law_draw := H__law_draw) (h__law_kind := H__law_kind), b4, k4, PySem.W.mg_of X G a4⟩
  have H__law_last : Has l.prog w K mg base CX0 "_law_last" 1 ["_law_cell", "_law_many"] (sp_law_last K) := ⟨_, _, ok__law_last F5 , b5, k5, PySem.W.mg_of X G a5⟩
  have H__law_signs : Has l.prog w K mg base CX0 "_law_signs" 1 [] (sp_law_signs K) := ⟨_, _, ok__law_signs F6 , b6, k6, PySem.W.mg_of X G a6⟩
  have H__law_row : Has l.prog w K mg base CX0 "_law_row" 2 ["_law_cell", "_law_sizes", "_law_parts", "_law_boxes", "_law_many"] (sp_law_row K) := ⟨_, _, ok__law_row F7 (z_int := y_int) (z_len := y_len) (z_max := y_max) (h__law_signs := H__law_signs), b7, k7, PySem.W.mg_of X G a7⟩
  have H__law_stretch : Has l.prog w K mg base CX0 "_law_stretch" 1 ["_law_cell", "_law_other", "_law_many"] (sp_law_stretch K) := ⟨_, _, ok__law_stretch F8 , b8, k8, PySem.W.mg_of X G a8⟩
  have H__law_part : Has l.prog w K mg base CX0 "_law_part" 3 ["_law_script", "_law_at", "_law_sizes", "_law_parts"] (sp_law_part K) := ⟨_, _, ok__law_part F9 (z_range := y_range) (h__law_draw := H__law_draw) (h__law_kind := H__law_kind) (h__law_last := H__law_last) (h__law_row := H__law_row) (h__law_stretch := H__law_stretch), b9, k9, PySem.W.mg_of X G a9⟩
  have H__law_book : Has l.prog w K mg base CX0 "_law_book" 4 ["_law_script", "_law_at"] (sp_law_book K) := ⟨_, _, ok__law_book F10 (z_len := y_len) (z_range := y_range) (h__law_draw := H__law_draw) (h__law_fields := H__law_fields) (h__law_makes := H__law_makes) (h__law_part := H__law_part), b10, k10, PySem.W.mg_of X G a10⟩
  have H__law_asked : Has l.prog w K mg base CX0 "_law_asked" 3 ["_law_book_here", "_law_part_here", "_law_row_here"] (sp_law_asked K) := ⟨_, _, ok__law_asked F11 (z_int := y_int) (z_len := y_len) (h__law_fields := H__law_fields), b11, k11, PySem.W.mg_of X G a11⟩
  have H__law_below : Has l.prog w K mg base CX0 "_law_below" 2 ["_law_makes_here", "_law_kind_here", "_law_other"] (sp_law_below K) := ⟨_, _, ok__law_below F12 (h__law_elders := H__law_elders), b12, k12, PySem.W.mg_of X G a12⟩
  have H__law_break : Has l.prog w K mg base CX0 "_law_break" 4 ["_law_book_here", "_law_part_here", "_law_row_here", "_law_stand_here"] (sp_law_break K) := ⟨_, _, ok__law_break F13 (z_len := y_len) (z_range := y_range) (h__law_asked := H__law_asked) (h__law_below := H__law_below), b13, k13, PySem.W.mg_of X G a13⟩
  have H__law_copy : Has l.prog w K mg base CX0 "_law_copy" 1 ["_law_makes_here"] (sp_law_copy K) := ⟨_, _, ok__law_copy F14 (z_list := y_list), b14, k14, PySem.W.mg_of X G a14⟩
  have H__law_copied : Has l.prog w K mg base CX0 "_law_copied" 2 ["_law_book_here"] (sp_law_copied K) := ⟨_, _, ok__law_copied F15 (z_list := y_list) (h__law_copy := H__law_copy), b15, k15, PySem.W.mg_of X G a15⟩
  have H__law_lower : Has l.prog w K mg base CX0 "_law_lower" 2 ["_law_makes_here", "_law_sizes", "_law_kind_here", "_law_cell"] (sp_law_lower K) := ⟨_, _, ok__law_lower F16 (z_len := y_len) (z_range := y_range) (h__law_elders := H__law_elders) (h__law_kind := H__law_kind), b16, k16, PySem.W.mg_of X G a16⟩
  have H__law_stand : Has l.prog w K mg base CX0 "_law_stand" 4 ["_law_script", "_law_at", "_law_book_here", "_law_part_here", "_law_row_here"] (sp_law_stand K) := ⟨_, _, ok__law_stand F17 (z_len := y_len) (z_max := y_max) (z_range := y_range) (z_tuple := y_tuple) (h__law_asked := H__law_asked) (h__law_draw := H__law_draw) (h__law_fields := H__law_fields) (h__law_kind := H__law_kind) (h__law_lower := H__law_lower), b17, k17, PySem.W.mg_of X G a17⟩
  have H__law_put_there : Has l.prog w K mg base CX0 "_law_put_there" 3 ["_law_book_here", "_law_row_here", "_law_boxes", "_law_top"] (sp_law_put_there K) := ⟨_, _, ok__law_put_there F18 (h__law_fields := H__law_fields), b18, k18, PySem.W.mg_of X G a18⟩
  have H__law_next : Has l.prog w K mg base CX0 "_law_next" 4 ["_law_book_here", "_law_part_here", "_law_row_here", "_law_stand_here"] (sp_law_next K) := ⟨_, _, ok__law_next F19 (z_len := y_len) (h__law_asked := H__law_asked) (h__law_put_there := H__law_put_there), b19, k19, PySem.W.mg_of X G a19⟩
  have H__law_leads : Has l.prog w K mg base CX0 "_law_leads" 5 ["_law_book_here", "_law_part_here", "_law_at", "_law_stand_here"] (sp_law_leads K) := ⟨_, _, ok__law_leads F20 (z_len := y_len) (h__law_asked := H__law_asked) (h__law_next := H__law_next), b20, k20, PySem.W.mg_of X G a20⟩
  have H__law_same_kind : Has l.prog w K mg base CX0 "_law_same_kind" 1 ["_law_found", "_law_due"] (sp_law_same_kind K) := ⟨_, _, ok__law_same_kind F21 (z_all := y_all) (z_bool := y_bool) (z_int := y_int) (z_isinstance := y_isinstance) (z_tuple := y_tuple), b21, k21, PySem.W.mg_of X G a21⟩
  have H__law_same_stand : Has l.prog w K mg base CX0 "_law_same_stand" 2 ["_law_found", "_law_due"] (sp_law_same_stand K) := ⟨_, _, ok__law_same_stand F22 (z_isinstance := y_isinstance) (z_len := y_len) (z_range := y_range) (z_tuple := y_tuple) (h__law_same_kind := H__law_same_kind), b22, k22, PySem.W.mg_of X G a22⟩
  have H_catcher : Has l.prog w K mg base CX0 "catcher" 1 ["stretches", "at"] (sp_catcher K) := ⟨_, _, ok_catcher F23 , b23, k23, PySem.W.mg_of X G a23⟩
  have H_elders_of : Has l.prog w K mg base CX0 "elders_of" 1 ["makes", "c"] (sp_elders_of K) := ⟨_, _, ok_elders_of F24 , b24, k24, PySem.W.mg_of X G a24⟩
  have H_fields_of : Has l.prog w K mg base CX0 "fields_of" 2 ["makes", "c"] (sp_fields_of K) := ⟨_, _, ok_fields_of F25 (z_list := y_list) (h_elders_of := H_elders_of), b25, k25, PySem.W.mg_of X G a25⟩
  have H_full_mask : Has l.prog w K mg base CX0 "full_mask" 3 ["makes", "c"] (sp_full_mask K) := ⟨_, _, ok_full_mask F26 (z_len := y_len) (h_fields_of := H_fields_of), b26, k26, PySem.W.mg_of X G a26⟩
  have H_asked_of_records : Has l.prog w K mg base CX0 "asked_of_records" 4 ["makes", "row"] (sp_asked_of_records K) := ⟨_, _, ok_asked_of_records F27 (h_fields_of := H_fields_of) (h_full_mask := H_full_mask), b27, k27, PySem.W.mg_of X G a27⟩
  have H_asked : Has l.prog w K mg base CX0 "asked" 5 ["book", "part", "row"] (sp_asked K) := ⟨_, _, ok_asked F28 (z_list := y_list) (g_ALWAYS := v_ALWAYS) (c_ALWAYS := w_ALWAYS) (h_asked_of_records := H_asked_of_records), b28, k28, PySem.W.mg_of X G a28⟩
  have H_kinds_put_of_records : Has l.prog w K mg base CX0 "kinds_put_of_records" 3 ["makes", "row", "took"] (sp_kinds_put_of_records K) := ⟨_, _, ok_kinds_put_of_records F29 (h_fields_of := H_fields_of), b29, k29, PySem.W.mg_of X G a29⟩
  have H_leaves : Has l.prog w K mg base CX0 "leaves" 1 ["row"] (sp_leaves K) := ⟨_, _, ok_leaves F30 (g_LEFT := v_LEFT) (c_LEFT := w_LEFT), b30, k30, PySem.W.mg_of X G a30⟩
  have H_kinds_put : Has l.prog w K mg base CX0 "kinds_put" 4 ["book", "row", "boxes", "took"] (sp_kinds_put K) := ⟨_, _, ok_kinds_put F31 (g_OF_RECORDS := v_OF_RECORDS) (c_OF_RECORDS := w_OF_RECORDS) (o_OF_RECORDS := ⟨_, q_OF_RECORDS_7, rfl, rfl⟩) (h_kinds_put_of_records := H_kinds_put_of_records) (h_leaves := H_leaves), b31, k31, PySem.W.mg_of X G a31⟩
  have H_replaced : Has l.prog w K mg base CX0 "replaced" 1 ["some", "spot", "thing"] (sp_replaced K) := ⟨_, _, ok_replaced F32 , b32, k32, PySem.W.mg_of X G a32⟩
  have H_stand_behind : Has l.prog w K mg base CX0 "stand_behind" 6 ["book", "part", "row", "stand"] (sp_stand_behind K) := ⟨_, _, ok_stand_behind F33 (z_len := y_len) (h_asked := H_asked) (h_kinds_put := H_kinds_put) (h_replaced := H_replaced), b33, k33, PySem.W.mg_of X G a33⟩
  have H_outs : Has l.prog w K mg base CX0 "outs" 7 ["book", "part", "at", "stand"] (sp_outs K) := ⟨_, _, ok_outs F34 (g_ENDING := v_ENDING) (c_ENDING := w_ENDING) (o_ENDING := ⟨_, q_ENDING_5, rfl, rfl⟩) (g_FAULTING := v_FAULTING) (c_FAULTING := w_FAULTING) (o_FAULTING := ⟨_, q_FAULTING_6, rfl, rfl⟩) (g_GOING := v_GOING) (c_GOING := w_GOING) (o_GOING := ⟨_, q_GOING_5, rfl, rfl⟩) (h_catcher := H_catcher) (h_stand_behind := H_stand_behind), b34, k34, PySem.W.mg_of X G a34⟩
  have H__law_told : Has l.prog w K mg base CX0 "_law_told" 8 ["_law_handed", "_law_book_here", "_law_part_here", "_law_at", "_law_stand_here"] (sp_law_told K) := ⟨_, _, ok__law_told F35 (z_bool := y_bool) (z_int := y_int) (z_isinstance := y_isinstance) (z_len := y_len) (z_list := y_list) (z_range := y_range) (z_tuple := y_tuple) (h__law_leads := H__law_leads) (h__law_same_stand := H__law_same_stand) (h_outs := H_outs), b35, k35, PySem.W.mg_of X G a35⟩
  exact ok_law (P := l.prog) (w := w) (base := base) F36 (z_len := y_len) (z_range := y_range) (h__law_book := H__law_book) (h__law_break := H__law_break) (h__law_copied := H__law_copied) (h__law_draw := H__law_draw) (h__law_stand := H__law_stand) (h__law_told := H__law_told)
theorem walk {l : PySem.W.OpenLaw} {q : Program} {loose : List Str} {XP : (Str → Option Value) → Heap → Prop} {YP : World → Heap → Prop} {d : DefRec} {K : Params → PySem.W.Frag} (hn : l.most = some 63) (hdf : d.params.defaults = [])
    (hY : ∀ (w : World) (h : Heap), YP w h → (K w.params).In h)
    (F : ∀ (w : World) (mg : Str → Option Value) (fa : Addr) (h : Heap), (K w.params).In h → h.Ns mainGlobals mg → mg d.name = some (.ref fa) →
      ∃ fd : FuncData, (∀ (s : Shared) (u : Value), BindsTo s fd ⟨[u], []⟩ [("_law_script", u)]) ∧ ∀ base : Heap, (K w.params).In base → base.Ns mainGlobals mg → FnOk l.prog w (K w.params) mg base CX0 9 fa fd ["_law_script"] (sp_law (K w.params))) :
    PySem.W.WalkO q loose XP YP l.row.toRowW d [] (fun f vs => PySem.call f vs) :=
  L2.walk_of (n := 63) (k := 9) (x := "_law_script") (CX := fun _ => CX0) (sp := fun w => sp_law (K w.params)) hn (by decide) hdf ⟨rfl, by decide, by decide, rfl⟩ hY F (fun _ _ a ns hl _ hS => ⟨a, ns, rfl, hS, hl, fun _ => rfl⟩) fun _ _ _ _ _ z => z
end Mine
namespace MH
open PySem PySem.W L2 Mine
abbrev OF := Program → Params → Obj
abbrev r (a : Nat) : Value := .ref a
abbrev s (x : Str) (t : Tok) : Value := .str x t
abbrev i (n : Int) : Value := .int n 0
abbrev cF : Str := "/claim/cut.py"
def de (P : Params) (x : Str) (t : Tok) (v : Value) : DictEntry := ⟨PyData.keyHash P x, .str x t, v⟩
abbrev fn (a b : Str) (e : Stmt) (dV kV doc pm : Value) (an : Option Addr) (cd ct : Value) : FuncData := PySem.W.fnOf a b (defArgs e) (defBody e) (defScope e) dV kV doc pm an cd ct
abbrev fx (g u : Nat) (a b : Str) (e : Stmt) (dV kV doc pm : Value) (an : Option Addr) (cd ct : Value) : FuncData := ⟨a, b, defArgs e, .stmts (defBody e), defScope e, g, [], dV, kV, doc, pm, an, cd, ct, u⟩
abbrev tu (l : List Value) : Obj := ⟨.type "tuple", none, .seq l.toArray 0, #[]⟩
abbrev nf (l : List Value) : Obj := ⟨.none, none, .fields l.toArray, #[]⟩
abbrev co (l : List Value) : Obj := ⟨.type "code", none, .fields l.toArray, #[]⟩
abbrev fm (l : List (Option Value)) : Obj := ⟨.type "frame", none, .plain, l.toArray⟩
abbrev di (l : List DictEntry) (n : Nat) : Obj := ⟨.type "dict", none, .dict l.toArray n, #[]⟩
abbrev fo (f : FuncData) : Obj := ⟨.type "function", none, .func f, #[]⟩
abbrev no (f : FuncData) : Obj := ⟨.none, none, .func f, #[]⟩
abbrev bn (o : Obj) (l r : BT) : BT := .node o l r
abbrev bl (o : Obj) : BT := .node o .nil .nil
abbrev pw : Program := PySem.Challenge.pw_stackwarden_k43_where_rows_lead
def envF (p : Program) : Env := { scope := p.main.scope, locals := mainNs, globals := mainNs, cells := [], code := (.ref 13), frame := some 14 }
def codeF (p : Program) : Code := .body (behindTheImports p) (envF p)
abbrev BF : List Frame := [topFrame ⟨0, 0, 0, 0⟩]
def stsF (p : Program) (i n : Nat) : List Stmt := ((behindTheImports p).drop i).take n
def viewF (p : Program) : Program := { p with main := { p.main with body := [tf p 1, tf p 2, tf p 3, tf p 5, tf p 6, tf p 7, tf p 8, tf p 9, tf p 10, tf p 11, tf p 12, tf p 13, tf p 14, tf p 16, tf p 18, tf p 19, tf p 20, tf p 21, tf p 23, tf p 24, tf p 25, tf p 26, tf p 27, tf p 28, tf p 29, tf p 30, tf p 31, tf p 32, tf p 33, tf p 34, tf p 35, tf p 36, tf p 37, tf p 38, tf p 39, tf p 40, tf p 41, tf p 42, tf p 43, tf p 44, tf p 45, tf p 46, tf p 47] } }
abbrev ST (t : BT) (n k : Nat) (os : OsState) : SharedT := ⟨t, n, {}, Array.mk [], {}, k, os⟩
abbrev SH (h : Heap) (k : Nat) (os : OsState) : Shared := ⟨h, Array.mk [], {}, k, os⟩
local macro_rules | `(tactic| walk_at "qk") => `(tactic| ((try rewrite [PySem.W.Fast.te14364793385576792824]); (try rewrite [PySem.W.Fast.te10110043849684766642]); (try rewrite [PySem.W.Fast.te14374325043358763698]); (try rewrite [PySem.W.Fast.te15667345088766844465]); (try rewrite [PySem.W.Fast.te14082659384304107361]); (try rewrite [PySem.W.Fast.te11892475500146522536]); (try rewrite [PySem.W.Fast.te5160383126252970620]); (try rewrite [PySem.W.Fast.te3399658132070893891]); (try rewrite [PySem.W.Fast.te5991557255702980513]); (try rewrite [PySem.W.Fast.te10880121769531294198]); (try rewrite [PySem.W.Fast.te821141287760084731]); (try rewrite [PySem.W.Fast.te7409074990110511671]); (try rewrite [PySem.W.Fast.te13664370479719496447]); (try rewrite [PySem.W.Fast.te5923862056798008813]); (try rewrite [PySem.W.Fast.te14722251495701143533]); (try rewrite [PySem.W.Fast.te10994771534591457954]); (try rewrite [PySem.W.Fast.te479339242167458305]); (try rewrite [PySem.W.Fast.te16090120013241838585]); (try rewrite [PySem.W.Fast.te3247288618530077131]); (try rewrite [PySem.W.Fast.te2386780881361962483]); (try rewrite [PySem.W.Fast.te11698064438423848299]); (try rewrite [PySem.W.Fast.te7317090234206586261]); (try rewrite [PySem.W.Fast.te7369524293546568484]); (try rewrite [PySem.W.Fast.te8920871248978507458]); (try rewrite [PySem.W.R.mapR_eq]); (try rewrite [PySem.W.Fast.te18252864982344286355]); kernel_rfl))
def o0 : OF := fun p P => tu []
def o1 : OF := fun p P => nf []
def o2 : OF := fun p P => co [(s "<module>" 182), (s "<module>" 183), (s cF 184), (i 1), (i 0), (i 0), (i 0), (i 0), (r 11), (.bool false), (i 181), (r 12), .none, .none, .none, .none, (i 185), (i 1), (s cF 186)]
def o3 : OF := fun p P => fm [(some (r 13)), (some (r 3)), (some (r 3)), none, (some (s "__main__" 164)), none, (some (r 0))]
noncomputable def H0 (p : Program) (P : Params) : Heap := ⟨Array.mk [(PySem.W.boot_o_0 P), (PySem.W.boot_o_1 P), (PySem.W.boot_o_2 P), (PySem.W.boot_o_3 P), (PySem.W.boot_o_4 P), (PySem.W.boot_o_5 P), (PySem.W.boot_o_6 P), (PySem.W.boot_o_7 P), (PySem.W.boot_o_8 P), (PySem.W.boot_o_9 P), (PySem.W.boot_o_10 P), (o0 p P), (o1 p P), (o2 p P), (o3 p P)], {}⟩
noncomputable def T0 (p : Program) (P : Params) : BT := (bn (PySem.W.boot_o_0 P) (bn (PySem.W.boot_o_1 P) (bn (PySem.W.boot_o_3 P) (bl (PySem.W.boot_o_7 P)) (bl (o0 p P))) (bn (PySem.W.boot_o_5 P) (bl (PySem.W.boot_o_9 P)) (bl (o2 p P)))) (bn (PySem.W.boot_o_2 P) (bn (PySem.W.boot_o_4 P) (bl (PySem.W.boot_o_8 P)) (bl (o1 p P))) (bn (PySem.W.boot_o_6 P) (bl (PySem.W.boot_o_10 P)) (bl (o3 p P)))))
def o4 : OF := fun p P => di [de P "__name__" 165 (s "stackwarden.asks" 216), de P "__doc__" 166 .none, de P "__package__" 167 .none, de P "__loader__" 168 (.builtin "__main__.__loader__#opaque"), de P "__spec__" 169 .none, de P "__annotations__" 170 (r 6), de P "__builtins__" 171 (r 4), de P "__file__" 173 (s cF 172), de P "__cached__" 174 .none, de P "elders_of" 197 (r 21), de P "fields_of" 207 (r 28), de P "full_mask" 215 (r 35)] 12
def o5 : OF := fun p P => nf [(i 2), (i 0), (r 20), (i 8), (i 0), (r 27), (i 13), (i 0), (r 34)]
def o6 : OF := fun p P => tu [(s "makes" 192), (s "c" 193), (s "elders" 194)]
def o7 : OF := fun p P => no (fx 0 0 "elders_of" "elders_of" (tf p 1) .none .none .none .none none .none .none)
def o8 : OF := fun p P => co [(s "elders_of" 189), (s "elders_of" 190), (s cF 191), (i 2), (i 2), (i 0), (i 0), (i 3), (r 15), (.bool true), (i 181), (r 16), .none, (r 17), (r 18), (r 19), (i 195), (i 2), (s cF 196)]
def o9 : OF := fun p P => fo (fn "elders_of" "elders_of" (tf p 1) .none .none .none (s "stackwarden.kinds" 187) none (r 20) .none)
def o10 : OF := fun p P => tu [(s "makes" 201), (s "c" 202), (s "fields" 203), (s "elder" 204)]
def o11 : OF := fun p P => no (fx 0 0 "fields_of" "fields_of" (tf p 2) .none .none .none .none none .none .none)
def o12 : OF := fun p P => co [(s "fields_of" 198), (s "fields_of" 199), (s cF 200), (i 8), (i 2), (i 0), (i 0), (i 3), (r 22), (.bool true), (i 181), (r 23), .none, (r 24), (r 25), (r 26), (i 205), (i 8), (s cF 206)]
def o13 : OF := fun p P => fo (fn "fields_of" "fields_of" (tf p 2) .none .none .none (s "stackwarden.kinds" 187) none (r 27) .none)
def o14 : OF := fun p P => tu [(s "makes" 211), (s "c" 212)]
def o15 : OF := fun p P => no (fx 0 0 "full_mask" "full_mask" (tf p 3) .none .none .none .none none .none .none)
def o16 : OF := fun p P => co [(s "full_mask" 208), (s "full_mask" 209), (s cF 210), (i 13), (i 2), (i 0), (i 0), (i 3), (r 29), (.bool true), (i 181), (r 30), .none, (r 31), (r 32), (r 33), (i 213), (i 13), (s cF 214)]
def o17 : OF := fun p P => fo (fn "full_mask" "full_mask" (tf p 3) .none .none .none (s "stackwarden.kinds" 187) none (r 34) .none)
noncomputable def T1 (p : Program) (P : Params) : BT := (bn (PySem.W.boot_o_0 P) (bn (PySem.W.boot_o_1 P) (bn (o4 p P) (bn (PySem.W.boot_o_7 P) (bn (o0 p P) (bl (o14 p P)) .nil) (bl (o1 p P))) (bn (o0 p P) (bn (o7 p P) (bl (o17 p P)) .nil) (bl (o12 p P)))) (bn (PySem.W.boot_o_5 P) (bn (PySem.W.boot_o_9 P) (bn (o6 p P) (bl (o15 p P)) .nil) (bl (o0 p P))) (bn (o2 p P) (bl (o9 p P)) (bl (o0 p P))))) (bn (PySem.W.boot_o_2 P) (bn (PySem.W.boot_o_4 P) (bn (PySem.W.boot_o_8 P) (bn (o1 p P) (bl (o0 p P)) .nil) (bl (o10 p P))) (bn (o5 p P) (bl (o8 p P)) (bl (o13 p P)))) (bn (PySem.W.boot_o_6 P) (bn (PySem.W.boot_o_10 P) (bn (o0 p P) (bl (o16 p P)) .nil) (bl (o11 p P))) (bn (o3 p P) (bl (o0 p P)) (bl (o1 p P))))))
def o18 : OF := fun p P => di [de P "__name__" 165 (s "stackwarden.asks" 216), de P "__doc__" 166 .none, de P "__package__" 167 .none, de P "__loader__" 168 (.builtin "__main__.__loader__#opaque"), de P "__spec__" 169 .none, de P "__annotations__" 170 (r 6), de P "__builtins__" 171 (r 4), de P "__file__" 173 (s cF 172), de P "__cached__" 174 .none, de P "elders_of" 197 (r 21), de P "fields_of" 207 (r 28), de P "full_mask" 215 (r 35), de P "ALWAYS" 280 (r 36)] 13
def o19 : OF := fun p P => di [de P "push" 218 (r 37), de P "load" 220 (r 38), de P "store" 222 (r 40), de P "dup" 225 (r 42), de P "swap" 228 (r 45), de P "drop" 232 (r 47), de P "add" 235 (r 50), de P "sub" 239 (r 53), de P "mul" 243 (r 56), de P "div" 247 (r 59), de P "rem" 251 (r 62), de P "less" 255 (r 65), de P "same" 259 (r 68), de P "jump" 263 (r 69), de P "zero" 265 (r 71), de P "kin" 268 (r 73), de P "make" 272 (r 74), de P "toss" 274 (r 77), de P "say" 276 (r 79)] 19
def o20 : OF := fun p P => tu [(s "any" 223)]
def o21 : OF := fun p P => tu [(r 39)]
def o22 : OF := fun p P => tu [(s "any" 226)]
def o23 : OF := fun p P => tu [(r 41)]
def o24 : OF := fun p P => tu [(s "any" 229)]
def o25 : OF := fun p P => tu [(s "any" 230)]
def o26 : OF := fun p P => tu [(r 43), (r 44)]
def o27 : OF := fun p P => tu [(s "any" 233)]
def o28 : OF := fun p P => tu [(r 46)]
def o29 : OF := fun p P => tu [(s "number" 236)]
def o30 : OF := fun p P => tu [(s "number" 237)]
def o31 : OF := fun p P => tu [(r 48), (r 49)]
def o32 : OF := fun p P => tu [(s "number" 240)]
def o33 : OF := fun p P => tu [(s "number" 241)]
def o34 : OF := fun p P => tu [(r 51), (r 52)]
def o35 : OF := fun p P => tu [(s "number" 244)]
def o36 : OF := fun p P => tu [(s "number" 245)]
def o37 : OF := fun p P => tu [(r 54), (r 55)]
def o38 : OF := fun p P => tu [(s "number" 248)]
def o39 : OF := fun p P => tu [(s "number" 249)]
def o40 : OF := fun p P => tu [(r 57), (r 58)]
def o41 : OF := fun p P => tu [(s "number" 252)]
def o42 : OF := fun p P => tu [(s "number" 253)]
def o43 : OF := fun p P => tu [(r 60), (r 61)]
def o44 : OF := fun p P => tu [(s "number" 256)]
def o45 : OF := fun p P => tu [(s "number" 257)]
def o46 : OF := fun p P => tu [(r 63), (r 64)]
def o47 : OF := fun p P => tu [(s "number" 260)]
def o48 : OF := fun p P => tu [(s "number" 261)]
def o49 : OF := fun p P => tu [(r 66), (r 67)]
def o50 : OF := fun p P => tu [(s "number" 266)]
def o51 : OF := fun p P => tu [(r 70)]
def o52 : OF := fun p P => tu [(s "whole" 269), (.int 0 270)]
def o53 : OF := fun p P => tu [(r 72)]
def o54 : OF := fun p P => di [de P "toss" 274 (r 77), de P "say" 276 (r 79)] 2
def o55 : OF := fun p P => tu [(s "number" 275)]
def o56 : OF := fun p P => tu [(r 76)]
def o57 : OF := fun p P => tu [(s "number" 277)]
def o58 : OF := fun p P => tu [(r 78)]
noncomputable def T2 (p : Program) (P : Params) : BT := (bn (PySem.W.boot_o_0 P) (bn (PySem.W.boot_o_1 P) (bn (o18 p P) (bn (PySem.W.boot_o_7 P) (bn (o0 p P) (bn (o14 p P) (bl (o44 p P)) .nil) (bn (o28 p P) (bl (o58 p P)) .nil)) (bn (o1 p P) (bn (o20 p P) (bl (o51 p P)) .nil) (bl (o36 p P)))) (bn (o0 p P) (bn (o7 p P) (bn (o17 p P) (bl (o48 p P)) .nil) (bl (o32 p P))) (bn (o12 p P) (bn (o24 p P) (bl (o54 p P)) .nil) (bl (o40 p P))))) (bn (PySem.W.boot_o_5 P) (bn (PySem.W.boot_o_9 P) (bn (o6 p P) (bn (o15 p P) (bl (o46 p P)) .nil) (bl (o30 p P))) (bn (o0 p P) (bn (o22 p P) (bl (o53 p P)) .nil) (bl (o38 p P)))) (bn (o2 p P) (bn (o9 p P) (bn (o0 p P) (bl (o0 p P)) .nil) (bl (o34 p P))) (bn (o0 p P) (bn (o26 p P) (bl (o56 p P)) .nil) (bl (o42 p P)))))) (bn (PySem.W.boot_o_2 P) (bn (PySem.W.boot_o_4 P) (bn (PySem.W.boot_o_8 P) (bn (o1 p P) (bn (o0 p P) (bl (o45 p P)) .nil) (bl (o29 p P))) (bn (o10 p P) (bn (o21 p P) (bl (o52 p P)) .nil) (bl (o37 p P)))) (bn (o5 p P) (bn (o8 p P) (bn (o19 p P) (bl (o49 p P)) .nil) (bl (o33 p P))) (bn (o13 p P) (bn (o25 p P) (bl (o55 p P)) .nil) (bl (o41 p P))))) (bn (PySem.W.boot_o_6 P) (bn (PySem.W.boot_o_10 P) (bn (o0 p P) (bn (o16 p P) (bl (o47 p P)) .nil) (bl (o31 p P))) (bn (o11 p P) (bn (o23 p P) (bl (o0 p P)) .nil) (bl (o39 p P)))) (bn (o3 p P) (bn (o0 p P) (bn (o0 p P) (bl (o50 p P)) .nil) (bl (o35 p P))) (bn (o1 p P) (bn (o27 p P) (bl (o57 p P)) .nil) (bl (o43 p P)))))))
def o59 : OF := fun p P => di [de P "__name__" 165 (s "stackwarden.flow" 380), de P "__doc__" 166 .none, de P "__package__" 167 .none, de P "__loader__" 168 (.builtin "__main__.__loader__#opaque"), de P "__spec__" 169 .none, de P "__annotations__" 170 (r 6), de P "__builtins__" 171 (r 4), de P "__file__" 173 (s cF 172), de P "__cached__" 174 .none, de P "elders_of" 197 (r 21), de P "fields_of" 207 (r 28), de P "full_mask" 215 (r 35), de P "ALWAYS" 280 (r 36), de P "LEFT" 311 (r 80), de P "asked" 322 (r 87), de P "asked_of_records" 333 (r 94), de P "leaves" 340 (r 101), de P "catcher" 349 (r 108), de P "OF_RECORDS" 355 (r 109), de P "GOING" 359 (r 110), de P "ENDING" 363 (r 111), de P "FAULTING" 368 (r 112), de P "replaced" 379 (r 119)] 23
def o60 : OF := fun p P => nf [(i 2), (i 0), (r 20), (i 8), (i 0), (r 27), (i 13), (i 0), (r 34), (i 18), (i 0), (r 86), (i 28), (i 0), (r 93), (i 39), (i 0), (r 100), (i 41), (i 0), (r 107), (i 51), (i 0), (r 118)]
def o61 : OF := fun p P => di [de P "store" 281 (.int 0 282), de P "dup" 283 (.int 2 284), de P "swap" 285 (.int 2 286), de P "drop" 287 (.int 0 288), de P "jump" 289 (.int 0 290), de P "zero" 291 (.int 0 292), de P "put" 293 (.int 0 294), de P "toss" 295 (.int 0 296), de P "say" 297 (.int 0 298), de P "give" 299 (.int 0 300)] 10
def o62 : OF := fun p P => tu [(s "book" 315), (s "part" 316), (s "row" 317), (s "sign" 318), (s "parts" 319)]
def o63 : OF := fun p P => no (fx 0 0 "asked" "asked" (tf p 7) .none .none .none .none none .none .none)
def o64 : OF := fun p P => co [(s "asked" 312), (s "asked" 313), (s cF 314), (i 18), (i 3), (i 0), (i 0), (i 3), (r 81), (.bool true), (i 181), (r 82), .none, (r 83), (r 84), (r 85), (i 320), (i 18), (s cF 321)]
def o65 : OF := fun p P => fo (fn "asked" "asked" (tf p 7) .none .none .none (s "stackwarden.asks" 216) none (r 86) .none)
def o66 : OF := fun p P => tu [(s "makes" 326), (s "row" 327), (s "sign" 328), (s "c" 329), (s "field" 330)]
def o67 : OF := fun p P => no (fx 0 0 "asked_of_records" "asked_of_records" (tf p 8) .none .none .none .none none .none .none)
def o68 : OF := fun p P => co [(s "asked_of_records" 323), (s "asked_of_records" 324), (s cF 325), (i 28), (i 2), (i 0), (i 0), (i 3), (r 88), (.bool true), (i 181), (r 89), .none, (r 90), (r 91), (r 92), (i 331), (i 28), (s cF 332)]
def o69 : OF := fun p P => fo (fn "asked_of_records" "asked_of_records" (tf p 8) .none .none .none (s "stackwarden.asks" 216) none (r 93) .none)
def o70 : OF := fun p P => tu [(s "row" 337)]
def o71 : OF := fun p P => no (fx 0 0 "leaves" "leaves" (tf p 9) .none .none .none .none none .none .none)
def o72 : OF := fun p P => co [(s "leaves" 334), (s "leaves" 335), (s cF 336), (i 39), (i 1), (i 0), (i 0), (i 3), (r 95), (.bool true), (i 181), (r 96), .none, (r 97), (r 98), (r 99), (i 338), (i 39), (s cF 339)]
def o73 : OF := fun p P => fo (fn "leaves" "leaves" (tf p 9) .none .none .none (s "stackwarden.asks" 216) none (r 100) .none)
def o74 : OF := fun p P => tu [(s "stretches" 344), (s "at" 345), (s "stretch" 346)]
def o75 : OF := fun p P => no (fx 0 0 "catcher" "catcher" (tf p 10) .none .none .none .none none .none .none)
def o76 : OF := fun p P => co [(s "catcher" 341), (s "catcher" 342), (s cF 343), (i 41), (i 2), (i 0), (i 0), (i 3), (r 102), (.bool true), (i 181), (r 103), .none, (r 104), (r 105), (r 106), (i 347), (i 41), (s cF 348)]
def o77 : OF := fun p P => fo (fn "catcher" "catcher" (tf p 10) .none .none .none (s "stackwarden.asks" 216) none (r 107) .none)
def o78 : OF := fun p P => tu [(s "make" 350), (s "fill" 351), (s "begin" 352), (s "get" 353), (s "put" 354)]
def o79 : OF := fun p P => tu [(s "jump" 356), (s "zero" 357), (s "kin" 358)]
def o80 : OF := fun p P => tu [(s "jump" 360), (s "toss" 361), (s "give" 362)]
def o81 : OF := fun p P => tu [(s "div" 364), (s "rem" 365), (s "toss" 366), (s "call" 367)]
def o82 : OF := fun p P => tu [(s "some" 374), (s "spot" 375), (s "thing" 376)]
def o83 : OF := fun p P => no (fx 0 0 "replaced" "replaced" (tf p 16) .none .none .none .none none .none .none)
def o84 : OF := fun p P => co [(s "replaced" 371), (s "replaced" 372), (s cF 373), (i 51), (i 3), (i 0), (i 0), (i 3), (r 113), (.bool true), (i 181), (r 114), .none, (r 115), (r 116), (r 117), (i 377), (i 51), (s cF 378)]
def o85 : OF := fun p P => fo (fn "replaced" "replaced" (tf p 16) .none .none .none (s "stackwarden.spots" 369) none (r 118) .none)
noncomputable def T3 (p : Program) (P : Params) : BT := (bn (PySem.W.boot_o_0 P) (bn (PySem.W.boot_o_1 P) (bn (o59 p P) (bn (PySem.W.boot_o_7 P) (bn (o0 p P) (bn (o14 p P) (bl (o44 p P)) (bl (o0 p P))) (bn (o28 p P) (bl (o58 p P)) (bl (o80 p P)))) (bn (o1 p P) (bn (o20 p P) (bl (o51 p P)) (bl (o1 p P))) (bn (o36 p P) (bl (o65 p P)) (bl (o85 p P))))) (bn (o0 p P) (bn (o7 p P) (bn (o17 p P) (bl (o48 p P)) (bl (o71 p P))) (bn (o32 p P) (bl (o62 p P)) (bl (o82 p P)))) (bn (o12 p P) (bn (o24 p P) (bl (o54 p P)) (bl (o76 p P))) (bn (o40 p P) (bl (o0 p P)) .nil)))) (bn (PySem.W.boot_o_5 P) (bn (PySem.W.boot_o_9 P) (bn (o6 p P) (bn (o15 p P) (bl (o46 p P)) (bl (o70 p P))) (bn (o30 p P) (bl (o0 p P)) (bl (o0 p P)))) (bn (o0 p P) (bn (o22 p P) (bl (o53 p P)) (bl (o0 p P))) (bn (o38 p P) (bl (o1 p P)) .nil))) (bn (o2 p P) (bn (o9 p P) (bn (o0 p P) (bl (o0 p P)) (bl (o73 p P))) (bn (o34 p P) (bl (o63 p P)) (bl (o83 p P)))) (bn (o0 p P) (bn (o26 p P) (bl (o56 p P)) (bl (o78 p P))) (bn (o42 p P) (bl (o68 p P)) .nil))))) (bn (PySem.W.boot_o_2 P) (bn (PySem.W.boot_o_4 P) (bn (PySem.W.boot_o_8 P) (bn (o1 p P) (bn (o0 p P) (bl (o45 p P)) (bl (o1 p P))) (bn (o29 p P) (bl (o61 p P)) (bl (o81 p P)))) (bn (o10 p P) (bn (o21 p P) (bl (o52 p P)) (bl (o74 p P))) (bn (o37 p P) (bl (o0 p P)) .nil))) (bn (o60 p P) (bn (o8 p P) (bn (o19 p P) (bl (o49 p P)) (bl (o72 p P))) (bn (o33 p P) (bl (o0 p P)) (bl (o0 p P)))) (bn (o13 p P) (bn (o25 p P) (bl (o55 p P)) (bl (o77 p P))) (bn (o41 p P) (bl (o67 p P)) .nil)))) (bn (PySem.W.boot_o_6 P) (bn (PySem.W.boot_o_10 P) (bn (o0 p P) (bn (o16 p P) (bl (o47 p P)) (bl (o0 p P))) (bn (o31 p P) (bl (o1 p P)) (bl (o1 p P)))) (bn (o11 p P) (bn (o23 p P) (bl (o0 p P)) (bl (o75 p P))) (bn (o39 p P) (bl (o66 p P)) .nil))) (bn (o3 p P) (bn (o0 p P) (bn (o0 p P) (bl (o50 p P)) (bl (o0 p P))) (bn (o35 p P) (bl (o64 p P)) (bl (o84 p P)))) (bn (o1 p P) (bn (o27 p P) (bl (o57 p P)) (bl (o79 p P))) (bn (o43 p P) (bl (o69 p P)) .nil))))))
def o86 : OF := fun p P => di [de P "__name__" 165 (s "law_stackwarden_k43_where_rows_lead" 433), de P "__doc__" 166 .none, de P "__package__" 167 .none, de P "__loader__" 168 (.builtin "__main__.__loader__#opaque"), de P "__spec__" 169 .none, de P "__annotations__" 170 (r 6), de P "__builtins__" 171 (r 4), de P "__file__" 173 (s cF 172), de P "__cached__" 174 .none, de P "elders_of" 197 (r 21), de P "fields_of" 207 (r 28), de P "full_mask" 215 (r 35), de P "ALWAYS" 280 (r 36), de P "LEFT" 311 (r 80), de P "asked" 322 (r 87), de P "asked_of_records" 333 (r 94), de P "leaves" 340 (r 101), de P "catcher" 349 (r 108), de P "OF_RECORDS" 355 (r 109), de P "GOING" 359 (r 110), de P "ENDING" 363 (r 111), de P "FAULTING" 368 (r 112), de P "replaced" 379 (r 119), de P "kinds_put" 392 (r 126), de P "kinds_put_of_records" 403 (r 133), de P "stand_behind" 417 (r 140), de P "outs" 432 (r 147), de P "_law_draw" 444 (r 154), de P "_law_kind" 453 (r 161), de P "_law_makes" 459 (r 166), de P "_law_elders" 468 (r 173), de P "_law_fields" 478 (r 180), de P "_law_same_kind" 484 (r 185), de P "_law_same_stand" 494 (r 192), de P "_law_copy" 500 (r 197)] 35
def o87 : OF := fun p P => nf [(i 2), (i 0), (r 20), (i 8), (i 0), (r 27), (i 13), (i 0), (r 34), (i 18), (i 0), (r 86), (i 28), (i 0), (r 93), (i 39), (i 0), (r 100), (i 41), (i 0), (r 107), (i 51), (i 0), (r 118), (i 54), (i 0), (r 125), (i 69), (i 0), (r 132), (i 81), (i 0), (r 139), (i 89), (i 0), (r 146), (i 105), (i 0), (r 153), (i 113), (i 0), (r 160), (i 122), (i 0), (r 165), (i 137), (i 0), (r 172), (i 143), (i 0), (r 179), (i 148), (i 0), (r 184), (i 152), (i 0), (r 191), (i 162), (i 0), (r 196)]
def o88 : OF := fun p P => tu [(s "book" 385), (s "row" 386), (s "boxes" 387), (s "took" 388), (s "sign" 389)]
def o89 : OF := fun p P => no (fx 0 0 "kinds_put" "kinds_put" (tf p 18) .none .none .none .none none .none .none)
def o90 : OF := fun p P => co [(s "kinds_put" 382), (s "kinds_put" 383), (s cF 384), (i 54), (i 4), (i 0), (i 0), (i 3), (r 120), (.bool true), (i 181), (r 121), .none, (r 122), (r 123), (r 124), (i 390), (i 54), (s cF 391)]
def o91 : OF := fun p P => fo (fn "kinds_put" "kinds_put" (tf p 18) .none .none .none (s "stackwarden.flow" 380) none (r 125) .none)
def o92 : OF := fun p P => tu [(s "makes" 396), (s "row" 397), (s "took" 398), (s "sign" 399), (s "c" 400)]
def o93 : OF := fun p P => no (fx 0 0 "kinds_put_of_records" "kinds_put_of_records" (tf p 19) .none .none .none .none none .none .none)
def o94 : OF := fun p P => co [(s "kinds_put_of_records" 393), (s "kinds_put_of_records" 394), (s cF 395), (i 69), (i 3), (i 0), (i 0), (i 3), (r 127), (.bool true), (i 181), (r 128), .none, (r 129), (r 130), (r 131), (i 401), (i 69), (s cF 402)]
def o95 : OF := fun p P => fo (fn "kinds_put_of_records" "kinds_put_of_records" (tf p 19) .none .none .none (s "stackwarden.flow" 380) none (r 132) .none)
def o96 : OF := fun p P => tu [(s "book" 407), (s "part" 408), (s "row" 409), (s "stand" 410), (s "boxes" 411), (s "under" 412), (s "took" 413), (s "stack" 414)]
def o97 : OF := fun p P => no (fx 0 0 "stand_behind" "stand_behind" (tf p 20) .none .none .none .none none .none .none)
def o98 : OF := fun p P => co [(s "stand_behind" 404), (s "stand_behind" 405), (s cF 406), (i 81), (i 4), (i 0), (i 0), (i 3), (r 134), (.bool true), (i 181), (r 135), .none, (r 136), (r 137), (r 138), (i 415), (i 81), (s cF 416)]
def o99 : OF := fun p P => fo (fn "stand_behind" "stand_behind" (tf p 20) .none .none .none (s "stackwarden.flow" 380) none (r 139) .none)
def o100 : OF := fun p P => tu [(s "book" 421), (s "part" 422), (s "at" 423), (s "stand" 424), (s "row" 425), (s "sign" 426), (s "told" 427), (s "behind" 428), (s "caught" 429)]
def o101 : OF := fun p P => no (fx 0 0 "outs" "outs" (tf p 21) .none .none .none .none none .none .none)
def o102 : OF := fun p P => co [(s "outs" 418), (s "outs" 419), (s cF 420), (i 89), (i 4), (i 0), (i 0), (i 3), (r 141), (.bool true), (i 181), (r 142), .none, (r 143), (r 144), (r 145), (i 430), (i 89), (s cF 431)]
def o103 : OF := fun p P => fo (fn "outs" "outs" (tf p 21) .none .none .none (s "stackwarden.flow" 380) none (r 146) .none)
def o104 : OF := fun p P => tu [(s "_law_script" 438), (s "_law_k" 439), (s "_law_cell" 440), (s "_law_other" 441)]
def o105 : OF := fun p P => no (fx 0 0 "_law_draw" "_law_draw" (tf p 23) .none .none .none .none none .none .none)
def o106 : OF := fun p P => co [(s "_law_draw" 435), (s "_law_draw" 436), (s cF 437), (i 105), (i 2), (i 0), (i 0), (i 3), (r 148), (.bool true), (i 181), (r 149), .none, (r 150), (r 151), (r 152), (i 442), (i 105), (s cF 443)]
def o107 : OF := fun p P => fo (fn "_law_draw" "_law_draw" (tf p 23) .none .none .none (s "law_stackwarden_k43_where_rows_lead" 433) none (r 153) .none)
def o108 : OF := fun p P => tu [(s "_law_cell" 448), (s "_law_sizes" 449), (s "_law_c" 450)]
def o109 : OF := fun p P => no (fx 0 0 "_law_kind" "_law_kind" (tf p 24) .none .none .none .none none .none .none)
def o110 : OF := fun p P => co [(s "_law_kind" 445), (s "_law_kind" 446), (s cF 447), (i 113), (i 2), (i 0), (i 0), (i 3), (r 155), (.bool true), (i 181), (r 156), .none, (r 157), (r 158), (r 159), (i 451), (i 113), (s cF 452)]
def o111 : OF := fun p P => fo (fn "_law_kind" "_law_kind" (tf p 24) .none .none .none (s "law_stackwarden_k43_where_rows_lead" 433) none (r 160) .none)
def o112 : OF := fun p P => no (fx 0 0 "_law_makes" "_law_makes" (tf p 25) .none .none .none .none none .none .none)
def o113 : OF := fun p P => co [(s "_law_makes" 454), (s "_law_makes" 455), (s cF 456), (i 122), (i 2), (i 0), (i 0), (i 3), (r 162), (.bool true), (i 181), (r 163), .none, .none, .none, (r 164), (i 457), (i 122), (s cF 458)]
def o114 : OF := fun p P => fo (fn "_law_makes" "_law_makes" (tf p 25) .none .none .none (s "law_stackwarden_k43_where_rows_lead" 433) none (r 165) .none)
def o115 : OF := fun p P => tu [(s "_law_makes_here" 463), (s "_law_c" 464), (s "_law_found" 465)]
def o116 : OF := fun p P => no (fx 0 0 "_law_elders" "_law_elders" (tf p 26) .none .none .none .none none .none .none)
def o117 : OF := fun p P => co [(s "_law_elders" 460), (s "_law_elders" 461), (s cF 462), (i 137), (i 2), (i 0), (i 0), (i 3), (r 167), (.bool true), (i 181), (r 168), .none, (r 169), (r 170), (r 171), (i 466), (i 137), (s cF 467)]
def o118 : OF := fun p P => fo (fn "_law_elders" "_law_elders" (tf p 26) .none .none .none (s "law_stackwarden_k43_where_rows_lead" 433) none (r 172) .none)
def o119 : OF := fun p P => tu [(s "_law_makes_here" 472), (s "_law_c" 473), (s "_law_found" 474), (s "_law_one" 475)]
def o120 : OF := fun p P => no (fx 0 0 "_law_fields" "_law_fields" (tf p 27) .none .none .none .none none .none .none)
def o121 : OF := fun p P => co [(s "_law_fields" 469), (s "_law_fields" 470), (s cF 471), (i 143), (i 2), (i 0), (i 0), (i 3), (r 174), (.bool true), (i 181), (r 175), .none, (r 176), (r 177), (r 178), (i 476), (i 143), (s cF 477)]
def o122 : OF := fun p P => fo (fn "_law_fields" "_law_fields" (tf p 27) .none .none .none (s "law_stackwarden_k43_where_rows_lead" 433) none (r 179) .none)
def o123 : OF := fun p P => no (fx 0 0 "_law_same_kind" "_law_same_kind" (tf p 28) .none .none .none .none none .none .none)
def o124 : OF := fun p P => co [(s "_law_same_kind" 479), (s "_law_same_kind" 480), (s cF 481), (i 148), (i 2), (i 0), (i 0), (i 3), (r 181), (.bool true), (i 181), (r 182), .none, .none, .none, (r 183), (i 482), (i 148), (s cF 483)]
def o125 : OF := fun p P => fo (fn "_law_same_kind" "_law_same_kind" (tf p 28) .none .none .none (s "law_stackwarden_k43_where_rows_lead" 433) none (r 184) .none)
def o126 : OF := fun p P => tu [(s "_law_found" 488), (s "_law_due" 489), (s "_law_k" 490), (s "_law_j" 491)]
def o127 : OF := fun p P => no (fx 0 0 "_law_same_stand" "_law_same_stand" (tf p 29) .none .none .none .none none .none .none)
def o128 : OF := fun p P => co [(s "_law_same_stand" 485), (s "_law_same_stand" 486), (s cF 487), (i 152), (i 2), (i 0), (i 0), (i 3), (r 186), (.bool true), (i 181), (r 187), .none, (r 188), (r 189), (r 190), (i 492), (i 152), (s cF 493)]
def o129 : OF := fun p P => fo (fn "_law_same_stand" "_law_same_stand" (tf p 29) .none .none .none (s "law_stackwarden_k43_where_rows_lead" 433) none (r 191) .none)
def o130 : OF := fun p P => no (fx 0 0 "_law_copy" "_law_copy" (tf p 30) .none .none .none .none none .none .none)
def o131 : OF := fun p P => co [(s "_law_copy" 495), (s "_law_copy" 496), (s cF 497), (i 162), (i 1), (i 0), (i 0), (i 3), (r 193), (.bool true), (i 181), (r 194), .none, .none, .none, (r 195), (i 498), (i 162), (s cF 499)]
def o132 : OF := fun p P => fo (fn "_law_copy" "_law_copy" (tf p 30) .none .none .none (s "law_stackwarden_k43_where_rows_lead" 433) none (r 196) .none)
noncomputable def T4 (p : Program) (P : Params) : BT := (bn (PySem.W.boot_o_0 P) (bn (PySem.W.boot_o_1 P) (bn (o86 p P) (bn (PySem.W.boot_o_7 P) (bn (o0 p P) (bn (o14 p P) (bn (o44 p P) (bl (o0 p P)) (bl (o128 p P))) (bn (o0 p P) (bl (o109 p P)) .nil)) (bn (o28 p P) (bn (o58 p P) (bl (o100 p P)) .nil) (bn (o80 p P) (bl (o1 p P)) .nil))) (bn (o1 p P) (bn (o20 p P) (bn (o51 p P) (bl (o1 p P)) .nil) (bn (o1 p P) (bl (o0 p P)) .nil)) (bn (o36 p P) (bn (o65 p P) (bl (o0 p P)) .nil) (bn (o85 p P) (bl (o123 p P)) .nil)))) (bn (o0 p P) (bn (o7 p P) (bn (o17 p P) (bn (o48 p P) (bl (o93 p P)) (bl (o130 p P))) (bn (o71 p P) (bl (o1 p P)) .nil)) (bn (o32 p P) (bn (o62 p P) (bl (o103 p P)) .nil) (bn (o82 p P) (bl (o121 p P)) .nil))) (bn (o12 p P) (bn (o24 p P) (bn (o54 p P) (bl (o98 p P)) .nil) (bn (o76 p P) (bl (o116 p P)) .nil)) (bn (o40 p P) (bn (o0 p P) (bl (o0 p P)) .nil) (bn (o0 p P) (bl (o1 p P)) .nil))))) (bn (PySem.W.boot_o_5 P) (bn (PySem.W.boot_o_9 P) (bn (o6 p P) (bn (o15 p P) (bn (o46 p P) (bl (o92 p P)) (bl (o0 p P))) (bn (o70 p P) (bl (o111 p P)) .nil)) (bn (o30 p P) (bn (o0 p P) (bl (o101 p P)) .nil) (bn (o0 p P) (bl (o0 p P)) .nil))) (bn (o0 p P) (bn (o22 p P) (bn (o53 p P) (bl (o0 p P)) .nil) (bn (o0 p P) (bl (o115 p P)) .nil)) (bn (o38 p P) (bn (o1 p P) (bl (o106 p P)) .nil) (bn (o1 p P) (bl (o125 p P)) .nil)))) (bn (o2 p P) (bn (o9 p P) (bn (o0 p P) (bn (o0 p P) (bl (o95 p P)) (bl (o132 p P))) (bn (o73 p P) (bl (o113 p P)) .nil)) (bn (o34 p P) (bn (o63 p P) (bl (o1 p P)) .nil) (bn (o83 p P) (bl (o0 p P)) .nil))) (bn (o0 p P) (bn (o26 p P) (bn (o56 p P) (bl (o0 p P)) .nil) (bn (o78 p P) (bl (o118 p P)) .nil)) (bn (o42 p P) (bn (o68 p P) (bl (o108 p P)) .nil) (bn (o90 p P) (bl (o0 p P)) .nil)))))) (bn (PySem.W.boot_o_2 P) (bn (PySem.W.boot_o_4 P) (bn (PySem.W.boot_o_8 P) (bn (o1 p P) (bn (o0 p P) (bn (o45 p P) (bl (o1 p P)) (bl (o129 p P))) (bn (o1 p P) (bl (o110 p P)) .nil)) (bn (o29 p P) (bn (o61 p P) (bl (o0 p P)) .nil) (bn (o81 p P) (bl (o119 p P)) .nil))) (bn (o10 p P) (bn (o21 p P) (bn (o52 p P) (bl (o96 p P)) .nil) (bn (o74 p P) (bl (o1 p P)) .nil)) (bn (o37 p P) (bn (o0 p P) (bl (o105 p P)) .nil) (bn (o0 p P) (bl (o124 p P)) .nil)))) (bn (o87 p P) (bn (o8 p P) (bn (o19 p P) (bn (o49 p P) (bl (o94 p P)) (bl (o131 p P))) (bn (o72 p P) (bl (o112 p P)) .nil)) (bn (o33 p P) (bn (o0 p P) (bl (o0 p P)) .nil) (bn (o0 p P) (bl (o122 p P)) .nil))) (bn (o13 p P) (bn (o25 p P) (bn (o55 p P) (bl (o99 p P)) .nil) (bn (o77 p P) (bl (o117 p P)) .nil)) (bn (o41 p P) (bn (o67 p P) (bl (o1 p P)) .nil) (bn (o89 p P) (bl (o126 p P)) .nil))))) (bn (PySem.W.boot_o_6 P) (bn (PySem.W.boot_o_10 P) (bn (o0 p P) (bn (o16 p P) (bn (o47 p P) (bl (o0 p P)) (bl (o1 p P))) (bn (o0 p P) (bl (o0 p P)) .nil)) (bn (o31 p P) (bn (o1 p P) (bl (o102 p P)) .nil) (bn (o1 p P) (bl (o120 p P)) .nil))) (bn (o11 p P) (bn (o23 p P) (bn (o0 p P) (bl (o97 p P)) .nil) (bn (o75 p P) (bl (o0 p P)) .nil)) (bn (o39 p P) (bn (o66 p P) (bl (o107 p P)) .nil) (bn (o88 p P) (bl (o0 p P)) .nil)))) (bn (o3 p P) (bn (o0 p P) (bn (o0 p P) (bn (o50 p P) (bl (o0 p P)) .nil) (bn (o0 p P) (bl (o114 p P)) .nil)) (bn (o35 p P) (bn (o64 p P) (bl (o104 p P)) .nil) (bn (o84 p P) (bl (o1 p P)) .nil))) (bn (o1 p P) (bn (o27 p P) (bn (o57 p P) (bl (o1 p P)) .nil) (bn (o79 p P) (bl (o0 p P)) .nil)) (bn (o43 p P) (bn (o69 p P) (bl (o0 p P)) .nil) (bn (o91 p P) (bl (o127 p P)) .nil)))))))
def o133 : OF := fun p P => di [de P "__name__" 165 (s "law_stackwarden_k43_where_rows_lead" 433), de P "__doc__" 166 .none, de P "__package__" 167 .none, de P "__loader__" 168 (.builtin "__main__.__loader__#opaque"), de P "__spec__" 169 .none, de P "__annotations__" 170 (r 6), de P "__builtins__" 171 (r 4), de P "__file__" 173 (s cF 172), de P "__cached__" 174 .none, de P "elders_of" 197 (r 21), de P "fields_of" 207 (r 28), de P "full_mask" 215 (r 35), de P "ALWAYS" 280 (r 36), de P "LEFT" 311 (r 80), de P "asked" 322 (r 87), de P "asked_of_records" 333 (r 94), de P "leaves" 340 (r 101), de P "catcher" 349 (r 108), de P "OF_RECORDS" 355 (r 109), de P "GOING" 359 (r 110), de P "ENDING" 363 (r 111), de P "FAULTING" 368 (r 112), de P "replaced" 379 (r 119), de P "kinds_put" 392 (r 126), de P "kinds_put_of_records" 403 (r 133), de P "stand_behind" 417 (r 140), de P "outs" 432 (r 147), de P "_law_draw" 444 (r 154), de P "_law_kind" 453 (r 161), de P "_law_makes" 459 (r 166), de P "_law_elders" 468 (r 173), de P "_law_fields" 478 (r 180), de P "_law_same_kind" 484 (r 185), de P "_law_same_stand" 494 (r 192), de P "_law_copy" 500 (r 197), de P "_law_copied" 514 (r 204), de P "_law_signs" 521 (r 211), de P "_law_row" 535 (r 218), de P "_law_last" 543 (r 225), de P "_law_stretch" 553 (r 232), de P "_law_part" 559 (r 237), de P "_law_book" 565 (r 242), de P "_law_below" 574 (r 249), de P "_law_asked" 585 (r 256), de P "_law_break" 600 (r 263), de P "_law_put_there" 612 (r 270), de P "_law_next" 626 (r 277)] 47
def o134 : OF := fun p P => nf [(i 2), (i 0), (r 20), (i 8), (i 0), (r 27), (i 13), (i 0), (r 34), (i 18), (i 0), (r 86), (i 28), (i 0), (r 93), (i 39), (i 0), (r 100), (i 41), (i 0), (r 107), (i 51), (i 0), (r 118), (i 54), (i 0), (r 125), (i 69), (i 0), (r 132), (i 81), (i 0), (r 139), (i 89), (i 0), (r 146), (i 105), (i 0), (r 153), (i 113), (i 0), (r 160), (i 122), (i 0), (r 165), (i 137), (i 0), (r 172), (i 143), (i 0), (r 179), (i 148), (i 0), (r 184), (i 152), (i 0), (r 191), (i 162), (i 0), (r 196), (i 164), (i 0), (r 203), (i 169), (i 0), (r 210), (i 172), (i 0), (r 217), (i 191), (i 0), (r 224), (i 193), (i 0), (r 231), (i 196), (i 0), (r 236), (i 211), (i 0), (r 241), (i 216), (i 0), (r 248), (i 226), (i 0), (r 255), (i 250), (i 0), (r 262), (i 267), (i 0), (r 269), (i 291), (i 0), (r 276)]
def o135 : OF := fun p P => tu [(s "_law_book_here" 504), (s "_law_parts" 505), (s "_law_takes" 506), (s "_law_gives" 507), (s "_law_boxes" 508), (s "_law_height" 509), (s "_law_rows" 510), (s "_law_stretches" 511)]
def o136 : OF := fun p P => no (fx 0 0 "_law_copied" "_law_copied" (tf p 31) .none .none .none .none none .none .none)
def o137 : OF := fun p P => co [(s "_law_copied" 501), (s "_law_copied" 502), (s cF 503), (i 164), (i 1), (i 0), (i 0), (i 3), (r 198), (.bool true), (i 181), (r 199), .none, (r 200), (r 201), (r 202), (i 512), (i 164), (s cF 513)]
def o138 : OF := fun p P => fo (fn "_law_copied" "_law_copied" (tf p 31) .none .none .none (s "law_stackwarden_k43_where_rows_lead" 433) none (r 203) .none)
def o139 : OF := fun p P => tu [(s "_law_some" 518)]
def o140 : OF := fun p P => no (fx 0 0 "_law_signs" "_law_signs" (tf p 32) .none .none .none .none none .none .none)
def o141 : OF := fun p P => co [(s "_law_signs" 515), (s "_law_signs" 516), (s cF 517), (i 169), (i 0), (i 0), (i 0), (i 3), (r 205), (.bool true), (i 181), (r 206), .none, (r 207), (r 208), (r 209), (i 519), (i 169), (s cF 520)]
def o142 : OF := fun p P => fo (fn "_law_signs" "_law_signs" (tf p 32) .none .none .none (s "law_stackwarden_k43_where_rows_lead" 433) none (r 210) .none)
def o143 : OF := fun p P => tu [(s "_law_cell" 525), (s "_law_sizes" 526), (s "_law_parts" 527), (s "_law_boxes" 528), (s "_law_many" 529), (s "_law_sign" 530), (s "_law_rest" 531), (s "_law_c" 532)]
def o144 : OF := fun p P => no (fx 0 0 "_law_row" "_law_row" (tf p 33) .none .none .none .none none .none .none)
def o145 : OF := fun p P => co [(s "_law_row" 522), (s "_law_row" 523), (s cF 524), (i 172), (i 5), (i 0), (i 0), (i 3), (r 212), (.bool true), (i 181), (r 213), .none, (r 214), (r 215), (r 216), (i 533), (i 172), (s cF 534)]
def o146 : OF := fun p P => fo (fn "_law_row" "_law_row" (tf p 33) .none .none .none (s "law_stackwarden_k43_where_rows_lead" 433) none (r 217) .none)
def o147 : OF := fun p P => tu [(s "_law_cell" 539), (s "_law_many" 540)]
def o148 : OF := fun p P => no (fx 0 0 "_law_last" "_law_last" (tf p 34) .none .none .none .none none .none .none)
def o149 : OF := fun p P => co [(s "_law_last" 536), (s "_law_last" 537), (s cF 538), (i 191), (i 2), (i 0), (i 0), (i 3), (r 219), (.bool true), (i 181), (r 220), .none, (r 221), (r 222), (r 223), (i 541), (i 191), (s cF 542)]
def o150 : OF := fun p P => fo (fn "_law_last" "_law_last" (tf p 34) .none .none .none (s "law_stackwarden_k43_where_rows_lead" 433) none (r 224) .none)
def o151 : OF := fun p P => tu [(s "_law_cell" 547), (s "_law_other" 548), (s "_law_many" 549), (s "_law_first" 550)]
def o152 : OF := fun p P => no (fx 0 0 "_law_stretch" "_law_stretch" (tf p 35) .none .none .none .none none .none .none)
def o153 : OF := fun p P => co [(s "_law_stretch" 544), (s "_law_stretch" 545), (s cF 546), (i 193), (i 3), (i 0), (i 0), (i 3), (r 226), (.bool true), (i 181), (r 227), .none, (r 228), (r 229), (r 230), (i 551), (i 193), (s cF 552)]
def o154 : OF := fun p P => fo (fn "_law_stretch" "_law_stretch" (tf p 35) .none .none .none (s "law_stackwarden_k43_where_rows_lead" 433) none (r 231) .none)
def o155 : OF := fun p P => no (fx 0 0 "_law_part" "_law_part" (tf p 36) .none .none .none .none none .none .none)
def o156 : OF := fun p P => co [(s "_law_part" 554), (s "_law_part" 555), (s cF 556), (i 196), (i 4), (i 0), (i 0), (i 3), (r 233), (.bool true), (i 181), (r 234), .none, .none, .none, (r 235), (i 557), (i 196), (s cF 558)]
def o157 : OF := fun p P => fo (fn "_law_part" "_law_part" (tf p 36) .none .none .none (s "law_stackwarden_k43_where_rows_lead" 433) none (r 236) .none)
def o158 : OF := fun p P => no (fx 0 0 "_law_book" "_law_book" (tf p 37) .none .none .none .none none .none .none)
def o159 : OF := fun p P => co [(s "_law_book" 560), (s "_law_book" 561), (s cF 562), (i 211), (i 2), (i 0), (i 0), (i 3), (r 238), (.bool true), (i 181), (r 239), .none, .none, .none, (r 240), (i 563), (i 211), (s cF 564)]
def o160 : OF := fun p P => fo (fn "_law_book" "_law_book" (tf p 37) .none .none .none (s "law_stackwarden_k43_where_rows_lead" 433) none (r 241) .none)
def o161 : OF := fun p P => tu [(s "_law_makes_here" 569), (s "_law_kind_here" 570), (s "_law_other" 571)]
def o162 : OF := fun p P => no (fx 0 0 "_law_below" "_law_below" (tf p 38) .none .none .none .none none .none .none)
def o163 : OF := fun p P => co [(s "_law_below" 566), (s "_law_below" 567), (s cF 568), (i 216), (i 3), (i 0), (i 0), (i 3), (r 243), (.bool true), (i 181), (r 244), .none, (r 245), (r 246), (r 247), (i 572), (i 216), (s cF 573)]
def o164 : OF := fun p P => fo (fn "_law_below" "_law_below" (tf p 38) .none .none .none (s "law_stackwarden_k43_where_rows_lead" 433) none (r 248) .none)
def o165 : OF := fun p P => tu [(s "_law_book_here" 578), (s "_law_part_here" 579), (s "_law_row_here" 580), (s "_law_sign" 581), (s "_law_fields_here" 582)]
def o166 : OF := fun p P => no (fx 0 0 "_law_asked" "_law_asked" (tf p 39) .none .none .none .none none .none .none)
def o167 : OF := fun p P => co [(s "_law_asked" 575), (s "_law_asked" 576), (s cF 577), (i 226), (i 3), (i 0), (i 0), (i 3), (r 250), (.bool true), (i 181), (r 251), .none, (r 252), (r 253), (r 254), (i 583), (i 226), (s cF 584)]
def o168 : OF := fun p P => fo (fn "_law_asked" "_law_asked" (tf p 39) .none .none .none (s "law_stackwarden_k43_where_rows_lead" 433) none (r 255) .none)
def o169 : OF := fun p P => tu [(s "_law_book_here" 589), (s "_law_part_here" 590), (s "_law_row_here" 591), (s "_law_stand_here" 592), (s "_law_due" 593), (s "_law_stack" 594), (s "_law_low" 595), (s "_law_k" 596), (s "_law_many" 597)]
def o170 : OF := fun p P => no (fx 0 0 "_law_break" "_law_break" (tf p 40) .none .none .none .none none .none .none)
def o171 : OF := fun p P => co [(s "_law_break" 586), (s "_law_break" 587), (s cF 588), (i 250), (i 4), (i 0), (i 0), (i 3), (r 257), (.bool true), (i 181), (r 258), .none, (r 259), (r 260), (r 261), (i 598), (i 250), (s cF 599)]
def o172 : OF := fun p P => fo (fn "_law_break" "_law_break" (tf p 40) .none .none .none (s "law_stackwarden_k43_where_rows_lead" 433) none (r 262) .none)
def o173 : OF := fun p P => tu [(s "_law_book_here" 604), (s "_law_row_here" 605), (s "_law_boxes" 606), (s "_law_top" 607), (s "_law_sign" 608), (s "_law_bits" 609)]
def o174 : OF := fun p P => no (fx 0 0 "_law_put_there" "_law_put_there" (tf p 41) .none .none .none .none none .none .none)
def o175 : OF := fun p P => co [(s "_law_put_there" 601), (s "_law_put_there" 602), (s cF 603), (i 267), (i 4), (i 0), (i 0), (i 3), (r 264), (.bool true), (i 181), (r 265), .none, (r 266), (r 267), (r 268), (i 610), (i 267), (s cF 611)]
def o176 : OF := fun p P => fo (fn "_law_put_there" "_law_put_there" (tf p 41) .none .none .none (s "law_stackwarden_k43_where_rows_lead" 433) none (r 269) .none)
def o177 : OF := fun p P => tu [(s "_law_book_here" 616), (s "_law_part_here" 617), (s "_law_row_here" 618), (s "_law_stand_here" 619), (s "_law_boxes" 620), (s "_law_stack" 621), (s "_law_low" 622), (s "_law_top" 623)]
def o178 : OF := fun p P => no (fx 0 0 "_law_next" "_law_next" (tf p 42) .none .none .none .none none .none .none)
def o179 : OF := fun p P => co [(s "_law_next" 613), (s "_law_next" 614), (s cF 615), (i 291), (i 4), (i 0), (i 0), (i 3), (r 271), (.bool true), (i 181), (r 272), .none, (r 273), (r 274), (r 275), (i 624), (i 291), (s cF 625)]
def o180 : OF := fun p P => fo (fn "_law_next" "_law_next" (tf p 42) .none .none .none (s "law_stackwarden_k43_where_rows_lead" 433) none (r 276) .none)
noncomputable def T5 (p : Program) (P : Params) : BT := (bn (PySem.W.boot_o_0 P) (bn (PySem.W.boot_o_1 P) (bn (o133 p P) (bn (PySem.W.boot_o_7 P) (bn (o0 p P) (bn (o14 p P) (bn (o44 p P) (bn (o0 p P) (bl (o167 p P)) .nil) (bl (o128 p P))) (bn (o0 p P) (bl (o109 p P)) (bl (o148 p P)))) (bn (o28 p P) (bn (o58 p P) (bn (o100 p P) (bl (o0 p P)) .nil) (bl (o139 p P))) (bn (o80 p P) (bl (o1 p P)) (bl (o1 p P))))) (bn (o1 p P) (bn (o20 p P) (bn (o51 p P) (bn (o1 p P) (bl (o172 p P)) .nil) (bl (o1 p P))) (bn (o1 p P) (bl (o0 p P)) (bl (o153 p P)))) (bn (o36 p P) (bn (o65 p P) (bl (o0 p P)) (bl (o0 p P))) (bn (o85 p P) (bl (o123 p P)) (bl (o162 p P)))))) (bn (o0 p P) (bn (o7 p P) (bn (o17 p P) (bn (o48 p P) (bn (o93 p P) (bl (o169 p P)) .nil) (bl (o130 p P))) (bn (o71 p P) (bl (o1 p P)) (bl (o1 p P)))) (bn (o32 p P) (bn (o62 p P) (bn (o103 p P) (bl (o178 p P)) .nil) (bl (o142 p P))) (bn (o82 p P) (bl (o121 p P)) (bl (o0 p P))))) (bn (o12 p P) (bn (o24 p P) (bn (o54 p P) (bn (o98 p P) (bl (o0 p P)) .nil) (bl (o137 p P))) (bn (o76 p P) (bl (o116 p P)) (bl (o155 p P)))) (bn (o40 p P) (bn (o0 p P) (bl (o0 p P)) (bl (o0 p P))) (bn (o0 p P) (bl (o1 p P)) (bl (o1 p P))))))) (bn (PySem.W.boot_o_5 P) (bn (PySem.W.boot_o_9 P) (bn (o6 p P) (bn (o15 p P) (bn (o46 p P) (bn (o92 p P) (bl (o0 p P)) .nil) (bl (o0 p P))) (bn (o70 p P) (bl (o111 p P)) (bl (o150 p P)))) (bn (o30 p P) (bn (o0 p P) (bn (o101 p P) (bl (o177 p P)) .nil) (bl (o140 p P))) (bn (o0 p P) (bl (o0 p P)) (bl (o159 p P))))) (bn (o0 p P) (bn (o22 p P) (bn (o53 p P) (bn (o0 p P) (bl (o1 p P)) .nil) (bl (o0 p P))) (bn (o0 p P) (bl (o115 p P)) (bl (o0 p P)))) (bn (o38 p P) (bn (o1 p P) (bl (o106 p P)) (bl (o145 p P))) (bn (o1 p P) (bl (o125 p P)) (bl (o164 p P)))))) (bn (o2 p P) (bn (o9 p P) (bn (o0 p P) (bn (o0 p P) (bn (o95 p P) (bl (o170 p P)) .nil) (bl (o132 p P))) (bn (o73 p P) (bl (o113 p P)) (bl (o0 p P)))) (bn (o34 p P) (bn (o63 p P) (bn (o1 p P) (bl (o180 p P)) .nil) (bl (o1 p P))) (bn (o83 p P) (bl (o0 p P)) (bl (o161 p P))))) (bn (o0 p P) (bn (o26 p P) (bn (o56 p P) (bn (o0 p P) (bl (o175 p P)) .nil) (bl (o0 p P))) (bn (o78 p P) (bl (o118 p P)) (bl (o157 p P)))) (bn (o42 p P) (bn (o68 p P) (bl (o108 p P)) (bl (o147 p P))) (bn (o90 p P) (bl (o0 p P)) (bl (o0 p P)))))))) (bn (PySem.W.boot_o_2 P) (bn (PySem.W.boot_o_4 P) (bn (PySem.W.boot_o_8 P) (bn (o1 p P) (bn (o0 p P) (bn (o45 p P) (bn (o1 p P) (bl (o168 p P)) .nil) (bl (o129 p P))) (bn (o1 p P) (bl (o110 p P)) (bl (o149 p P)))) (bn (o29 p P) (bn (o61 p P) (bn (o0 p P) (bl (o1 p P)) .nil) (bl (o0 p P))) (bn (o81 p P) (bl (o119 p P)) (bl (o158 p P))))) (bn (o10 p P) (bn (o21 p P) (bn (o52 p P) (bn (o96 p P) (bl (o0 p P)) .nil) (bl (o135 p P))) (bn (o74 p P) (bl (o1 p P)) (bl (o154 p P)))) (bn (o37 p P) (bn (o0 p P) (bl (o105 p P)) (bl (o144 p P))) (bn (o0 p P) (bl (o124 p P)) (bl (o163 p P)))))) (bn (o134 p P) (bn (o8 p P) (bn (o19 p P) (bn (o49 p P) (bn (o94 p P) (bl (o0 p P)) .nil) (bl (o131 p P))) (bn (o72 p P) (bl (o112 p P)) (bl (o151 p P)))) (bn (o33 p P) (bn (o0 p P) (bn (o0 p P) (bl (o179 p P)) .nil) (bl (o0 p P))) (bn (o0 p P) (bl (o122 p P)) (bl (o1 p P))))) (bn (o13 p P) (bn (o25 p P) (bn (o55 p P) (bn (o99 p P) (bl (o174 p P)) .nil) (bl (o138 p P))) (bn (o77 p P) (bl (o117 p P)) (bl (o156 p P)))) (bn (o41 p P) (bn (o67 p P) (bl (o1 p P)) (bl (o1 p P))) (bn (o89 p P) (bl (o126 p P)) (bl (o165 p P))))))) (bn (PySem.W.boot_o_6 P) (bn (PySem.W.boot_o_10 P) (bn (o0 p P) (bn (o16 p P) (bn (o47 p P) (bn (o0 p P) (bl (o1 p P)) .nil) (bl (o1 p P))) (bn (o0 p P) (bl (o0 p P)) (bl (o0 p P)))) (bn (o31 p P) (bn (o1 p P) (bn (o102 p P) (bl (o0 p P)) .nil) (bl (o141 p P))) (bn (o1 p P) (bl (o120 p P)) (bl (o160 p P))))) (bn (o11 p P) (bn (o23 p P) (bn (o0 p P) (bn (o97 p P) (bl (o173 p P)) .nil) (bl (o136 p P))) (bn (o75 p P) (bl (o0 p P)) (bl (o1 p P)))) (bn (o39 p P) (bn (o66 p P) (bl (o107 p P)) (bl (o146 p P))) (bn (o88 p P) (bl (o0 p P)) (bl (o0 p P)))))) (bn (o3 p P) (bn (o0 p P) (bn (o0 p P) (bn (o50 p P) (bn (o0 p P) (bl (o171 p P)) .nil) (bl (o0 p P))) (bn (o0 p P) (bl (o114 p P)) (bl (o152 p P)))) (bn (o35 p P) (bn (o64 p P) (bl (o104 p P)) (bl (o143 p P))) (bn (o84 p P) (bl (o1 p P)) (bl (o0 p P))))) (bn (o1 p P) (bn (o27 p P) (bn (o57 p P) (bn (o1 p P) (bl (o176 p P)) .nil) (bl (o1 p P))) (bn (o79 p P) (bl (o0 p P)) (bl (o0 p P)))) (bn (o43 p P) (bn (o69 p P) (bl (o0 p P)) (bl (o0 p P))) (bn (o91 p P) (bl (o127 p P)) (bl (o166 p P)))))))))
def o181 : OF := fun p P => di [de P "__name__" 165 (s "law_stackwarden_k43_where_rows_lead" 433), de P "__doc__" 166 .none, de P "__package__" 167 .none, de P "__loader__" 168 (.builtin "__main__.__loader__#opaque"), de P "__spec__" 169 .none, de P "__annotations__" 170 (r 6), de P "__builtins__" 171 (r 4), de P "__file__" 173 (s cF 172), de P "__cached__" 174 .none, de P "elders_of" 197 (r 21), de P "fields_of" 207 (r 28), de P "full_mask" 215 (r 35), de P "ALWAYS" 280 (r 36), de P "LEFT" 311 (r 80), de P "asked" 322 (r 87), de P "asked_of_records" 333 (r 94), de P "leaves" 340 (r 101), de P "catcher" 349 (r 108), de P "OF_RECORDS" 355 (r 109), de P "GOING" 359 (r 110), de P "ENDING" 363 (r 111), de P "FAULTING" 368 (r 112), de P "replaced" 379 (r 119), de P "kinds_put" 392 (r 126), de P "kinds_put_of_records" 403 (r 133), de P "stand_behind" 417 (r 140), de P "outs" 432 (r 147), de P "_law_draw" 444 (r 154), de P "_law_kind" 453 (r 161), de P "_law_makes" 459 (r 166), de P "_law_elders" 468 (r 173), de P "_law_fields" 478 (r 180), de P "_law_same_kind" 484 (r 185), de P "_law_same_stand" 494 (r 192), de P "_law_copy" 500 (r 197), de P "_law_copied" 514 (r 204), de P "_law_signs" 521 (r 211), de P "_law_row" 535 (r 218), de P "_law_last" 543 (r 225), de P "_law_stretch" 553 (r 232), de P "_law_part" 559 (r 237), de P "_law_book" 565 (r 242), de P "_law_below" 574 (r 249), de P "_law_asked" 585 (r 256), de P "_law_break" 600 (r 263), de P "_law_put_there" 612 (r 270), de P "_law_next" 626 (r 277), de P "_law_leads" 632 (r 282), de P "_law_lower" 638 (r 287), de P "_law_stand" 644 (r 292), de P "_law_told" 658 (r 299), de P "law" 673 (r 306)] 52
def o182 : OF := fun p P => nf [(i 2), (i 0), (r 20), (i 8), (i 0), (r 27), (i 13), (i 0), (r 34), (i 18), (i 0), (r 86), (i 28), (i 0), (r 93), (i 39), (i 0), (r 100), (i 41), (i 0), (r 107), (i 51), (i 0), (r 118), (i 54), (i 0), (r 125), (i 69), (i 0), (r 132), (i 81), (i 0), (r 139), (i 89), (i 0), (r 146), (i 105), (i 0), (r 153), (i 113), (i 0), (r 160), (i 122), (i 0), (r 165), (i 137), (i 0), (r 172), (i 143), (i 0), (r 179), (i 148), (i 0), (r 184), (i 152), (i 0), (r 191), (i 162), (i 0), (r 196), (i 164), (i 0), (r 203), (i 169), (i 0), (r 210), (i 172), (i 0), (r 217), (i 191), (i 0), (r 224), (i 193), (i 0), (r 231), (i 196), (i 0), (r 236), (i 211), (i 0), (r 241), (i 216), (i 0), (r 248), (i 226), (i 0), (r 255), (i 250), (i 0), (r 262), (i 267), (i 0), (r 269), (i 291), (i 0), (r 276), (i 298), (i 0), (r 281), (i 315), (i 0), (r 286), (i 324), (i 0), (r 291), (i 339), (i 0), (r 298), (i 353), (i 0), (r 305)]
def o183 : OF := fun p P => no (fx 0 0 "_law_leads" "_law_leads" (tf p 43) .none .none .none .none none .none .none)
def o184 : OF := fun p P => co [(s "_law_leads" 627), (s "_law_leads" 628), (s cF 629), (i 298), (i 4), (i 0), (i 0), (i 3), (r 278), (.bool true), (i 181), (r 279), .none, .none, .none, (r 280), (i 630), (i 298), (s cF 631)]
def o185 : OF := fun p P => fo (fn "_law_leads" "_law_leads" (tf p 43) .none .none .none (s "law_stackwarden_k43_where_rows_lead" 433) none (r 281) .none)
def o186 : OF := fun p P => no (fx 0 0 "_law_lower" "_law_lower" (tf p 44) .none .none .none .none none .none .none)
def o187 : OF := fun p P => co [(s "_law_lower" 633), (s "_law_lower" 634), (s cF 635), (i 315), (i 4), (i 0), (i 0), (i 3), (r 283), (.bool true), (i 181), (r 284), .none, .none, .none, (r 285), (i 636), (i 315), (s cF 637)]
def o188 : OF := fun p P => fo (fn "_law_lower" "_law_lower" (tf p 44) .none .none .none (s "law_stackwarden_k43_where_rows_lead" 433) none (r 286) .none)
def o189 : OF := fun p P => no (fx 0 0 "_law_stand" "_law_stand" (tf p 45) .none .none .none .none none .none .none)
def o190 : OF := fun p P => co [(s "_law_stand" 639), (s "_law_stand" 640), (s cF 641), (i 324), (i 5), (i 0), (i 0), (i 3), (r 288), (.bool true), (i 181), (r 289), .none, .none, .none, (r 290), (i 642), (i 324), (s cF 643)]
def o191 : OF := fun p P => fo (fn "_law_stand" "_law_stand" (tf p 45) .none .none .none (s "law_stackwarden_k43_where_rows_lead" 433) none (r 291) .none)
def o192 : OF := fun p P => tu [(s "_law_handed" 648), (s "_law_book_here" 649), (s "_law_part_here" 650), (s "_law_at" 651), (s "_law_stand_here" 652), (s "_law_due" 653), (s "_law_found" 654), (s "_law_k" 655)]
def o193 : OF := fun p P => no (fx 0 0 "_law_told" "_law_told" (tf p 46) .none .none .none .none none .none .none)
def o194 : OF := fun p P => co [(s "_law_told" 645), (s "_law_told" 646), (s cF 647), (i 339), (i 5), (i 0), (i 0), (i 3), (r 293), (.bool true), (i 181), (r 294), .none, (r 295), (r 296), (r 297), (i 656), (i 339), (s cF 657)]
def o195 : OF := fun p P => fo (fn "_law_told" "_law_told" (tf p 46) .none .none .none (s "law_stackwarden_k43_where_rows_lead" 433) none (r 298) .none)
def o196 : OF := fun p P => tu [(s "_law_script" 662), (s "_law_book_here" 663), (s "_law_part_here" 664), (s "_law_rows" 665), (s "_law_handed" 666), (s "_law_wide" 667), (s "_law_again" 668), (s "_law_at" 669), (s "_law_stand_here" 670)]
def o197 : OF := fun p P => no (fx 0 0 "law" "law" (tf p 47) .none .none .none .none none .none .none)
def o198 : OF := fun p P => co [(s "law" 659), (s "law" 660), (s cF 661), (i 353), (i 1), (i 0), (i 0), (i 3), (r 300), (.bool true), (i 181), (r 301), .none, (r 302), (r 303), (r 304), (i 671), (i 353), (s cF 672)]
def o199 : OF := fun p P => fo (fn "law" "law" (tf p 47) .none .none .none (s "law_stackwarden_k43_where_rows_lead" 433) none (r 305) .none)
noncomputable def T6 (p : Program) (P : Params) : BT := (bn (PySem.W.boot_o_0 P) (bn (PySem.W.boot_o_1 P) (bn (o181 p P) (bn (PySem.W.boot_o_7 P) (bn (o0 p P) (bn (o14 p P) (bn (o44 p P) (bn (o0 p P) (bl (o167 p P)) .nil) (bl (o128 p P))) (bn (o0 p P) (bn (o109 p P) (bl (o188 p P)) .nil) (bl (o148 p P)))) (bn (o28 p P) (bn (o58 p P) (bn (o100 p P) (bl (o0 p P)) .nil) (bl (o139 p P))) (bn (o80 p P) (bn (o1 p P) (bl (o0 p P)) .nil) (bl (o1 p P))))) (bn (o1 p P) (bn (o20 p P) (bn (o51 p P) (bn (o1 p P) (bl (o172 p P)) .nil) (bl (o1 p P))) (bn (o1 p P) (bn (o0 p P) (bl (o192 p P)) .nil) (bl (o153 p P)))) (bn (o36 p P) (bn (o65 p P) (bn (o0 p P) (bl (o1 p P)) .nil) (bl (o0 p P))) (bn (o85 p P) (bl (o123 p P)) (bl (o162 p P)))))) (bn (o0 p P) (bn (o7 p P) (bn (o17 p P) (bn (o48 p P) (bn (o93 p P) (bl (o169 p P)) .nil) (bl (o130 p P))) (bn (o71 p P) (bn (o1 p P) (bl (o190 p P)) .nil) (bl (o1 p P)))) (bn (o32 p P) (bn (o62 p P) (bn (o103 p P) (bl (o178 p P)) .nil) (bl (o142 p P))) (bn (o82 p P) (bl (o121 p P)) (bl (o0 p P))))) (bn (o12 p P) (bn (o24 p P) (bn (o54 p P) (bn (o98 p P) (bl (o0 p P)) .nil) (bl (o137 p P))) (bn (o76 p P) (bn (o116 p P) (bl (o195 p P)) .nil) (bl (o155 p P)))) (bn (o40 p P) (bn (o0 p P) (bn (o0 p P) (bl (o0 p P)) .nil) (bl (o0 p P))) (bn (o0 p P) (bl (o1 p P)) (bl (o1 p P))))))) (bn (PySem.W.boot_o_5 P) (bn (PySem.W.boot_o_9 P) (bn (o6 p P) (bn (o15 p P) (bn (o46 p P) (bn (o92 p P) (bl (o0 p P)) .nil) (bl (o0 p P))) (bn (o70 p P) (bn (o111 p P) (bl (o1 p P)) .nil) (bl (o150 p P)))) (bn (o30 p P) (bn (o0 p P) (bn (o101 p P) (bl (o177 p P)) .nil) (bl (o140 p P))) (bn (o0 p P) (bn (o0 p P) (bl (o198 p P)) .nil) (bl (o159 p P))))) (bn (o0 p P) (bn (o22 p P) (bn (o53 p P) (bn (o0 p P) (bl (o1 p P)) .nil) (bl (o0 p P))) (bn (o0 p P) (bn (o115 p P) (bl (o193 p P)) .nil) (bl (o0 p P)))) (bn (o38 p P) (bn (o1 p P) (bn (o106 p P) (bl (o184 p P)) .nil) (bl (o145 p P))) (bn (o1 p P) (bl (o125 p P)) (bl (o164 p P)))))) (bn (o2 p P) (bn (o9 p P) (bn (o0 p P) (bn (o0 p P) (bn (o95 p P) (bl (o170 p P)) .nil) (bl (o132 p P))) (bn (o73 p P) (bn (o113 p P) (bl (o0 p P)) .nil) (bl (o0 p P)))) (bn (o34 p P) (bn (o63 p P) (bn (o1 p P) (bl (o180 p P)) .nil) (bl (o1 p P))) (bn (o83 p P) (bl (o0 p P)) (bl (o161 p P))))) (bn (o0 p P) (bn (o26 p P) (bn (o56 p P) (bn (o0 p P) (bl (o175 p P)) .nil) (bl (o0 p P))) (bn (o78 p P) (bn (o118 p P) (bl (o1 p P)) .nil) (bl (o157 p P)))) (bn (o42 p P) (bn (o68 p P) (bn (o108 p P) (bl (o186 p P)) .nil) (bl (o147 p P))) (bn (o90 p P) (bl (o0 p P)) (bl (o0 p P)))))))) (bn (PySem.W.boot_o_2 P) (bn (PySem.W.boot_o_4 P) (bn (PySem.W.boot_o_8 P) (bn (o1 p P) (bn (o0 p P) (bn (o45 p P) (bn (o1 p P) (bl (o168 p P)) .nil) (bl (o129 p P))) (bn (o1 p P) (bn (o110 p P) (bl (o0 p P)) .nil) (bl (o149 p P)))) (bn (o29 p P) (bn (o61 p P) (bn (o0 p P) (bl (o1 p P)) .nil) (bl (o0 p P))) (bn (o81 p P) (bn (o119 p P) (bl (o197 p P)) .nil) (bl (o158 p P))))) (bn (o10 p P) (bn (o21 p P) (bn (o52 p P) (bn (o96 p P) (bl (o0 p P)) .nil) (bl (o135 p P))) (bn (o74 p P) (bn (o1 p P) (bl (o0 p P)) .nil) (bl (o154 p P)))) (bn (o37 p P) (bn (o0 p P) (bn (o105 p P) (bl (o183 p P)) .nil) (bl (o144 p P))) (bn (o0 p P) (bl (o124 p P)) (bl (o163 p P)))))) (bn (o182 p P) (bn (o8 p P) (bn (o19 p P) (bn (o49 p P) (bn (o94 p P) (bl (o0 p P)) .nil) (bl (o131 p P))) (bn (o72 p P) (bn (o112 p P) (bl (o191 p P)) .nil) (bl (o151 p P)))) (bn (o33 p P) (bn (o0 p P) (bn (o0 p P) (bl (o179 p P)) .nil) (bl (o0 p P))) (bn (o0 p P) (bl (o122 p P)) (bl (o1 p P))))) (bn (o13 p P) (bn (o25 p P) (bn (o55 p P) (bn (o99 p P) (bl (o174 p P)) .nil) (bl (o138 p P))) (bn (o77 p P) (bn (o117 p P) (bl (o0 p P)) .nil) (bl (o156 p P)))) (bn (o41 p P) (bn (o67 p P) (bn (o1 p P) (bl (o1 p P)) .nil) (bl (o1 p P))) (bn (o89 p P) (bl (o126 p P)) (bl (o165 p P))))))) (bn (PySem.W.boot_o_6 P) (bn (PySem.W.boot_o_10 P) (bn (o0 p P) (bn (o16 p P) (bn (o47 p P) (bn (o0 p P) (bl (o1 p P)) .nil) (bl (o1 p P))) (bn (o0 p P) (bn (o0 p P) (bl (o189 p P)) .nil) (bl (o0 p P)))) (bn (o31 p P) (bn (o1 p P) (bn (o102 p P) (bl (o0 p P)) .nil) (bl (o141 p P))) (bn (o1 p P) (bn (o120 p P) (bl (o199 p P)) .nil) (bl (o160 p P))))) (bn (o11 p P) (bn (o23 p P) (bn (o0 p P) (bn (o97 p P) (bl (o173 p P)) .nil) (bl (o136 p P))) (bn (o75 p P) (bn (o0 p P) (bl (o194 p P)) .nil) (bl (o1 p P)))) (bn (o39 p P) (bn (o66 p P) (bn (o107 p P) (bl (o185 p P)) .nil) (bl (o146 p P))) (bn (o88 p P) (bl (o0 p P)) (bl (o0 p P)))))) (bn (o3 p P) (bn (o0 p P) (bn (o0 p P) (bn (o50 p P) (bn (o0 p P) (bl (o171 p P)) .nil) (bl (o0 p P))) (bn (o0 p P) (bn (o114 p P) (bl (o1 p P)) .nil) (bl (o152 p P)))) (bn (o35 p P) (bn (o64 p P) (bn (o104 p P) (bl (o0 p P)) .nil) (bl (o143 p P))) (bn (o84 p P) (bl (o1 p P)) (bl (o0 p P))))) (bn (o1 p P) (bn (o27 p P) (bn (o57 p P) (bn (o1 p P) (bl (o176 p P)) .nil) (bl (o1 p P))) (bn (o79 p P) (bn (o0 p P) (bl (o196 p P)) .nil) (bl (o0 p P)))) (bn (o43 p P) (bn (o69 p P) (bn (o0 p P) (bl (o187 p P)) .nil) (bl (o0 p P))) (bn (o91 p P) (bl (o127 p P)) (bl (o166 p P)))))))))
noncomputable def HF (p : Program) (P : Params) : Heap := ⟨Array.mk [(PySem.W.boot_o_0 P), (PySem.W.boot_o_1 P), (PySem.W.boot_o_2 P), (o181 p P), (PySem.W.boot_o_4 P), (PySem.W.boot_o_5 P), (PySem.W.boot_o_6 P), (PySem.W.boot_o_7 P), (PySem.W.boot_o_8 P), (PySem.W.boot_o_9 P), (PySem.W.boot_o_10 P), (o0 p P), (o182 p P), (o2 p P), (o3 p P), (o0 p P), (o1 p P), (o6 p P), (o0 p P), (o7 p P), (o8 p P), (o9 p P), (o0 p P), (o1 p P), (o10 p P), (o0 p P), (o11 p P), (o12 p P), (o13 p P), (o0 p P), (o1 p P), (o14 p P), (o0 p P), (o15 p P), (o16 p P), (o17 p P), (o19 p P), (o0 p P), (o0 p P), (o20 p P), (o21 p P), (o22 p P), (o23 p P), (o24 p P), (o25 p P), (o26 p P), (o27 p P), (o28 p P), (o29 p P), (o30 p P), (o31 p P), (o32 p P), (o33 p P), (o34 p P), (o35 p P), (o36 p P), (o37 p P), (o38 p P), (o39 p P), (o40 p P), (o41 p P), (o42 p P), (o43 p P), (o44 p P), (o45 p P), (o46 p P), (o47 p P), (o48 p P), (o49 p P), (o0 p P), (o50 p P), (o51 p P), (o52 p P), (o53 p P), (o0 p P), (o54 p P), (o55 p P), (o56 p P), (o57 p P), (o58 p P), (o61 p P), (o0 p P), (o1 p P), (o62 p P), (o0 p P), (o63 p P), (o64 p P), (o65 p P), (o0 p P), (o1 p P), (o66 p P), (o0 p P), (o67 p P), (o68 p P), (o69 p P), (o0 p P), (o1 p P), (o70 p P), (o0 p P), (o71 p P), (o72 p P), (o73 p P), (o0 p P), (o1 p P), (o74 p P), (o0 p P), (o75 p P), (o76 p P), (o77 p P), (o78 p P), (o79 p P), (o80 p P), (o81 p P), (o0 p P), (o1 p P), (o82 p P), (o0 p P), (o83 p P), (o84 p P), (o85 p P), (o0 p P), (o1 p P), (o88 p P), (o0 p P), (o89 p P), (o90 p P), (o91 p P), (o0 p P), (o1 p P), (o92 p P), (o0 p P), (o93 p P), (o94 p P), (o95 p P), (o0 p P), (o1 p P), (o96 p P), (o0 p P), (o97 p P), (o98 p P), (o99 p P), (o0 p P), (o1 p P), (o100 p P), (o0 p P), (o101 p P), (o102 p P), (o103 p P), (o0 p P), (o1 p P), (o104 p P), (o0 p P), (o105 p P), (o106 p P), (o107 p P), (o0 p P), (o1 p P), (o108 p P), (o0 p P), (o109 p P), (o110 p P), (o111 p P), (o0 p P), (o1 p P), (o112 p P), (o113 p P), (o114 p P), (o0 p P), (o1 p P), (o115 p P), (o0 p P), (o116 p P), (o117 p P), (o118 p P), (o0 p P), (o1 p P), (o119 p P), (o0 p P), (o120 p P), (o121 p P), (o122 p P), (o0 p P), (o1 p P), (o123 p P), (o124 p P), (o125 p P), (o0 p P), (o1 p P), (o126 p P), (o0 p P), (o127 p P), (o128 p P), (o129 p P), (o0 p P), (o1 p P), (o130 p P), (o131 p P), (o132 p P), (o0 p P), (o1 p P), (o135 p P), (o0 p P), (o136 p P), (o137 p P), (o138 p P), (o0 p P), (o1 p P), (o139 p P), (o0 p P), (o140 p P), (o141 p P), (o142 p P), (o0 p P), (o1 p P), (o143 p P), (o0 p P), (o144 p P), (o145 p P), (o146 p P), (o0 p P), (o1 p P), (o147 p P), (o0 p P), (o148 p P), (o149 p P), (o150 p P), (o0 p P), (o1 p P), (o151 p P), (o0 p P), (o152 p P), (o153 p P), (o154 p P), (o0 p P), (o1 p P), (o155 p P), (o156 p P), (o157 p P), (o0 p P), (o1 p P), (o158 p P), (o159 p P), (o160 p P), (o0 p P), (o1 p P), (o161 p P), (o0 p P), (o162 p P), (o163 p P), (o164 p P), (o0 p P), (o1 p P), (o165 p P), (o0 p P), (o166 p P), (o167 p P), (o168 p P), (o0 p P), (o1 p P), (o169 p P), (o0 p P), (o170 p P), (o171 p P), (o172 p P), (o0 p P), (o1 p P), (o173 p P), (o0 p P), (o174 p P), (o175 p P), (o176 p P), (o0 p P), (o1 p P), (o177 p P), (o0 p P), (o178 p P), (o179 p P), (o180 p P), (o0 p P), (o1 p P), (o183 p P), (o184 p P), (o185 p P), (o0 p P), (o1 p P), (o186 p P), (o187 p P), (o188 p P), (o0 p P), (o1 p P), (o189 p P), (o190 p P), (o191 p P), (o0 p P), (o1 p P), (o192 p P), (o0 p P), (o193 p P), (o194 p P), (o195 p P), (o0 p P), (o1 p P), (o196 p P), (o0 p P), (o197 p P), (o198 p P), (o199 p P)], {}⟩
noncomputable def K (P : Params) : PySem.W.Frag := (nat_lit 2, (PySem.W.boot_o_2 P)) :: (nat_lit 3, (o181 pw P)) :: (nat_lit 15, (o0 pw P)) :: (nat_lit 17, (o6 pw P)) :: (nat_lit 18, (o0 pw P)) :: (nat_lit 20, (o8 pw P)) :: (nat_lit 21, (o9 pw P)) :: (nat_lit 22, (o0 pw P)) :: (nat_lit 24, (o10 pw P)) :: (nat_lit 25, (o0 pw P)) :: (nat_lit 27, (o12 pw P)) :: (nat_lit 28, (o13 pw P)) :: (nat_lit 29, (o0 pw P)) :: (nat_lit 31, (o14 pw P)) :: (nat_lit 32, (o0 pw P)) :: (nat_lit 34, (o16 pw P)) :: (nat_lit 35, (o17 pw P)) :: (nat_lit 36, (o19 pw P)) :: (nat_lit 37, (o0 pw P)) :: (nat_lit 38, (o0 pw P)) :: (nat_lit 39, (o20 pw P)) :: (nat_lit 40, (o21 pw P)) :: (nat_lit 41, (o22 pw P)) :: (nat_lit 42, (o23 pw P)) :: (nat_lit 43, (o24 pw P)) :: (nat_lit 44, (o25 pw P)) :: (nat_lit 45, (o26 pw P)) :: (nat_lit 46, (o27 pw P)) :: (nat_lit 47, (o28 pw P)) :: (nat_lit 48, (o29 pw P)) :: (nat_lit 49, (o30 pw P)) :: (nat_lit 50, (o31 pw P)) :: (nat_lit 51, (o32 pw P)) :: (nat_lit 52, (o33 pw P)) :: (nat_lit 53, (o34 pw P)) :: (nat_lit 54, (o35 pw P)) :: (nat_lit 55, (o36 pw P)) :: (nat_lit 56, (o37 pw P)) :: (nat_lit 57, (o38 pw P)) :: (nat_lit 58, (o39 pw P)) :: (nat_lit 59, (o40 pw P)) :: (nat_lit 60, (o41 pw P)) :: (nat_lit 61, (o42 pw P)) :: (nat_lit 62, (o43 pw P)) :: (nat_lit 63, (o44 pw P)) :: (nat_lit 64, (o45 pw P)) :: (nat_lit 65, (o46 pw P)) :: (nat_lit 66, (o47 pw P)) :: (nat_lit 67, (o48 pw P)) :: (nat_lit 68, (o49 pw P)) :: (nat_lit 69, (o0 pw P)) :: (nat_lit 70, (o50 pw P)) :: (nat_lit 71, (o51 pw P)) :: (nat_lit 72, (o52 pw P)) :: (nat_lit 73, (o53 pw P)) :: (nat_lit 74, (o0 pw P)) :: (nat_lit 76, (o55 pw P)) :: (nat_lit 77, (o56 pw P)) :: (nat_lit 78, (o57 pw P)) :: (nat_lit 79, (o58 pw P)) :: (nat_lit 80, (o61 pw P)) :: (nat_lit 81, (o0 pw P)) :: (nat_lit 83, (o62 pw P)) :: (nat_lit 84, (o0 pw P)) :: (nat_lit 86, (o64 pw P)) :: (nat_lit 87, (o65 pw P)) :: (nat_lit 88, (o0 pw P)) :: (nat_lit 90, (o66 pw P)) :: (nat_lit 91, (o0 pw P)) :: (nat_lit 93, (o68 pw P)) :: (nat_lit 94, (o69 pw P)) :: (nat_lit 95, (o0 pw P)) :: (nat_lit 97, (o70 pw P)) :: (nat_lit 98, (o0 pw P)) :: (nat_lit 100, (o72 pw P)) :: (nat_lit 101, (o73 pw P)) :: (nat_lit 102, (o0 pw P)) :: (nat_lit 104, (o74 pw P)) :: (nat_lit 105, (o0 pw P)) :: (nat_lit 107, (o76 pw P)) :: (nat_lit 108, (o77 pw P)) :: (nat_lit 109, (o78 pw P)) :: (nat_lit 110, (o79 pw P)) :: (nat_lit 111, (o80 pw P)) :: (nat_lit 112, (o81 pw P)) :: (nat_lit 113, (o0 pw P)) :: (nat_lit 115, (o82 pw P)) :: (nat_lit 116, (o0 pw P)) :: (nat_lit 118, (o84 pw P)) :: (nat_lit 119, (o85 pw P)) :: (nat_lit 120, (o0 pw P)) :: (nat_lit 122, (o88 pw P)) :: (nat_lit 123, (o0 pw P)) :: (nat_lit 125, (o90 pw P)) :: (nat_lit 126, (o91 pw P)) :: (nat_lit 127, (o0 pw P)) :: (nat_lit 129, (o92 pw P)) :: (nat_lit 130, (o0 pw P)) :: (nat_lit 132, (o94 pw P)) :: (nat_lit 133, (o95 pw P)) :: (nat_lit 134, (o0 pw P)) :: (nat_lit 136, (o96 pw P)) :: (nat_lit 137, (o0 pw P)) :: (nat_lit 139, (o98 pw P)) :: (nat_lit 140, (o99 pw P)) :: (nat_lit 141, (o0 pw P)) :: (nat_lit 143, (o100 pw P)) :: (nat_lit 144, (o0 pw P)) :: (nat_lit 146, (o102 pw P)) :: (nat_lit 147, (o103 pw P)) :: (nat_lit 148, (o0 pw P)) :: (nat_lit 150, (o104 pw P)) :: (nat_lit 151, (o0 pw P)) :: (nat_lit 153, (o106 pw P)) :: (nat_lit 154, (o107 pw P)) :: (nat_lit 155, (o0 pw P)) :: (nat_lit 157, (o108 pw P)) :: (nat_lit 158, (o0 pw P)) :: (nat_lit 160, (o110 pw P)) :: (nat_lit 161, (o111 pw P)) :: (nat_lit 162, (o0 pw P)) :: (nat_lit 165, (o113 pw P)) :: (nat_lit 166, (o114 pw P)) :: (nat_lit 167, (o0 pw P)) :: (nat_lit 169, (o115 pw P)) :: (nat_lit 170, (o0 pw P)) :: (nat_lit 172, (o117 pw P)) :: (nat_lit 173, (o118 pw P)) :: (nat_lit 174, (o0 pw P)) :: (nat_lit 176, (o119 pw P)) :: (nat_lit 177, (o0 pw P)) :: (nat_lit 179, (o121 pw P)) :: (nat_lit 180, (o122 pw P)) :: (nat_lit 181, (o0 pw P)) :: (nat_lit 184, (o124 pw P)) :: (nat_lit 185, (o125 pw P)) :: (nat_lit 186, (o0 pw P)) :: (nat_lit 188, (o126 pw P)) :: (nat_lit 189, (o0 pw P)) :: (nat_lit 191, (o128 pw P)) :: (nat_lit 192, (o129 pw P)) :: (nat_lit 193, (o0 pw P)) :: (nat_lit 196, (o131 pw P)) :: (nat_lit 197, (o132 pw P)) :: (nat_lit 198, (o0 pw P)) :: (nat_lit 200, (o135 pw P)) :: (nat_lit 201, (o0 pw P)) :: (nat_lit 203, (o137 pw P)) :: (nat_lit 204, (o138 pw P)) :: (nat_lit 205, (o0 pw P)) :: (nat_lit 207, (o139 pw P)) :: (nat_lit 208, (o0 pw P)) :: (nat_lit 210, (o141 pw P)) :: (nat_lit 211, (o142 pw P)) :: (nat_lit 212, (o0 pw P)) :: (nat_lit 214, (o143 pw P)) :: (nat_lit 215, (o0 pw P)) :: (nat_lit 217, (o145 pw P)) :: (nat_lit 218, (o146 pw P)) :: (nat_lit 219, (o0 pw P)) :: (nat_lit 221, (o147 pw P)) :: (nat_lit 222, (o0 pw P)) :: (nat_lit 224, (o149 pw P)) :: (nat_lit 225, (o150 pw P)) :: (nat_lit 226, (o0 pw P)) :: (nat_lit 228, (o151 pw P)) :: (nat_lit 229, (o0 pw P)) :: (nat_lit 231, (o153 pw P)) :: (nat_lit 232, (o154 pw P)) :: (nat_lit 233, (o0 pw P)) :: (nat_lit 236, (o156 pw P)) :: (nat_lit 237, (o157 pw P)) :: (nat_lit 238, (o0 pw P)) :: (nat_lit 241, (o159 pw P)) :: (nat_lit 242, (o160 pw P)) :: (nat_lit 243, (o0 pw P)) :: (nat_lit 245, (o161 pw P)) :: (nat_lit 246, (o0 pw P)) :: (nat_lit 248, (o163 pw P)) :: (nat_lit 249, (o164 pw P)) :: (nat_lit 250, (o0 pw P)) :: (nat_lit 252, (o165 pw P)) :: (nat_lit 253, (o0 pw P)) :: (nat_lit 255, (o167 pw P)) :: (nat_lit 256, (o168 pw P)) :: (nat_lit 257, (o0 pw P)) :: (nat_lit 259, (o169 pw P)) :: (nat_lit 260, (o0 pw P)) :: (nat_lit 262, (o171 pw P)) :: (nat_lit 263, (o172 pw P)) :: (nat_lit 264, (o0 pw P)) :: (nat_lit 266, (o173 pw P)) :: (nat_lit 267, (o0 pw P)) :: (nat_lit 269, (o175 pw P)) :: (nat_lit 270, (o176 pw P)) :: (nat_lit 271, (o0 pw P)) :: (nat_lit 273, (o177 pw P)) :: (nat_lit 274, (o0 pw P)) :: (nat_lit 276, (o179 pw P)) :: (nat_lit 277, (o180 pw P)) :: (nat_lit 278, (o0 pw P)) :: (nat_lit 281, (o184 pw P)) :: (nat_lit 282, (o185 pw P)) :: (nat_lit 283, (o0 pw P)) :: (nat_lit 286, (o187 pw P)) :: (nat_lit 287, (o188 pw P)) :: (nat_lit 288, (o0 pw P)) :: (nat_lit 291, (o190 pw P)) :: (nat_lit 292, (o191 pw P)) :: (nat_lit 293, (o0 pw P)) :: (nat_lit 295, (o192 pw P)) :: (nat_lit 296, (o0 pw P)) :: (nat_lit 298, (o194 pw P)) :: (nat_lit 299, (o195 pw P)) :: (nat_lit 300, (o0 pw P)) :: (nat_lit 302, (o196 pw P)) :: (nat_lit 303, (o0 pw P)) :: (nat_lit 305, (o198 pw P)) :: (nat_lit 306, (o199 pw P)) :: []
abbrev asK : List Addr := [2, 3, 15, 17, 18, 20, 21, 22, 24, 25, 27, 28, 29, 31, 32, 34, 35, 36, 37, 38, 39, 40, 41, 42, 43, 44, 45, 46, 47, 48, 49, 50, 51, 52, 53, 54, 55, 56, 57, 58, 59, 60, 61, 62, 63, 64, 65, 66, 67, 68, 69, 70, 71, 72, 73, 74, 76, 77, 78, 79, 80, 81, 83, 84, 86, 87, 88, 90, 91, 93, 94, 95, 97, 98, 100, 101, 102, 104, 105, 107, 108, 109, 110, 111, 112, 113, 115, 116, 118, 119, 120, 122, 123, 125, 126, 127, 129, 130, 132, 133, 134, 136, 137, 139, 140, 141, 143, 144, 146, 147, 148, 150, 151, 153, 154, 155, 157, 158, 160, 161, 162, 165, 166, 167, 169, 170, 172, 173, 174, 176, 177, 179, 180, 181, 184, 185, 186, 188, 189, 191, 192, 193, 196, 197, 198, 200, 201, 203, 204, 205, 207, 208, 210, 211, 212, 214, 215, 217, 218, 219, 221, 222, 224, 225, 226, 228, 229, 231, 232, 233, 236, 237, 238, 241, 242, 243, 245, 246, 248, 249, 250, 252, 253, 255, 256, 257, 259, 260, 262, 263, 264, 266, 267, 269, 270, 271, 273, 274, 276, 277, 278, 281, 282, 283, 286, 287, 288, 291, 292, 293, 295, 296, 298, 299, 300, 302, 303, 305, 306]
theorem asK_eq : ∀ P, asK = (K P).map (·.1) := fun _ => by kernel_rfl
noncomputable abbrev hK : Hook := kHook K asK asK_eq
theorem pre_ (w : World) : (fun os => topGo treeTable pw w 11 (some (.ref 6)) 12 ⟨boot_heap w.params, Array.mk [], boot_drawn, boot_toks, os⟩ (topStub pw)) = fun os => some (SH (H0 pw w.params) 187 os, (⟨denote treeTable (codeF pw), codeF pw, ⟨0, 0, 0, 0⟩, BF⟩ : Thread)) := by
  walk_at "qk"
theorem block_ (w : World) : (fun os => segRun treeTable pw w 11 (some (.ref 6)) 1 1 (SH (H0 pw w.params) 187 os) (blockOf (behindTheImports pw) (envF pw) (codeF pw) ⟨0, 0, 0, 0⟩ BF)) = fun os => some (.next, (ST (T0 pw w.params) 15 187 os).abs, codeF pw, ⟨0, 0, 0, 0⟩) := by
  walk_at "qk"
theorem seg1 (w : World) : (fun os => segRunT treeTable pw w 11 (some (.ref 6)) 1 112 (ST (T0 pw w.params) 15 187 os) (piecesOf (stsF pw 0 5) (envF pw) (codeF pw) ⟨0, 0, 0, 0⟩ BF)) = fun os => some (.next, ST (T1 pw w.params) 36 218 os, codeF pw, ⟨15, 0, 15, 8⟩) := by
  walk_at "qk"
theorem seg2 (w : World) : (fun os => segRunT treeTable pw w 11 (some (.ref 6)) 1 404 (ST (T1 pw w.params) 36 218 os) (piecesOf (stsF pw 5 1) (envF pw) (codeF pw) ⟨15, 0, 15, 8⟩ BF)) = fun os => some (.next, ST (T2 pw w.params) 80 281 os, codeF pw, ⟨16, 0, 16, 6⟩) := by
  refine byRow2 "special-get-raises" (P := fun w => (fun os => segRunT treeTable pw w 11 (some (.ref 6)) 1 404 (ST (T1 pw w.params) 36 218 os) (piecesOf (stsF pw 5 1) (envF pw) (codeF pw) ⟨15, 0, 15, 8⟩ BF)) = fun os => some (.next, ST (T2 pw w.params) 80 281 os, codeF pw, ⟨16, 0, 16, 6⟩)) (fun w => ?_) (fun w => ?_) w <;> (show _ = _; walk_at "qk")
theorem seg3 (w : World) : (fun os => segRunT treeTable pw w 11 (some (.ref 6)) 1 391 (ST (T2 pw w.params) 80 281 os) (piecesOf (stsF pw 6 12) (envF pw) (codeF pw) ⟨16, 0, 16, 6⟩ BF)) = fun os => some (.next, ST (T3 pw w.params) 120 382 os, codeF pw, ⟨53, 0, 53, 8⟩) := by
  refine byRow2 "special-get-raises" (P := fun w => (fun os => segRunT treeTable pw w 11 (some (.ref 6)) 1 391 (ST (T2 pw w.params) 80 281 os) (piecesOf (stsF pw 6 12) (envF pw) (codeF pw) ⟨16, 0, 16, 6⟩ BF)) = fun os => some (.next, ST (T3 pw w.params) 120 382 os, codeF pw, ⟨53, 0, 53, 8⟩)) (fun w => ?_) (fun w => ?_) w <;> (show _ = _; walk_at "qk")
theorem seg4 (w : World) : (fun os => segRunT treeTable pw w 11 (some (.ref 6)) 1 385 (ST (T3 pw w.params) 120 382 os) (piecesOf (stsF pw 18 13) (envF pw) (codeF pw) ⟨53, 0, 53, 8⟩ BF)) = fun os => some (.next, ST (T4 pw w.params) 198 501 os, codeF pw, ⟨162, 0, 163, 85⟩) := by
  walk_at "qk"
theorem seg5 (w : World) : (fun os => segRunT treeTable pw w 11 (some (.ref 6)) 1 387 (ST (T4 pw w.params) 198 501 os) (piecesOf (stsF pw 31 12) (envF pw) (codeF pw) ⟨162, 0, 163, 85⟩ BF)) = fun os => some (.next, ST (T5 pw w.params) 278 627 os, codeF pw, ⟨291, 0, 297, 124⟩) := by
  walk_at "qk"
theorem seg6 (w : World) : (fun os => segRunT treeTable pw w 11 (some (.ref 6)) 1 152 (ST (T5 pw w.params) 278 627 os) (piecesOf (stsF pw 43 5) (envF pw) (codeF pw) ⟨291, 0, 297, 124⟩ BF)) = fun os => some (.next, ST (T6 pw w.params) 307 674 os, codeF pw, ⟨353, 0, 365, 40⟩) := by
  walk_at "qk"
theorem fin_ (w : World) : (fun os => topRun treeTable pw w 11 (some (.ref 6)) 2 (ST (T6 pw w.params) 307 674 os).abs ⟨doneF .next, codeF pw, ⟨353, 0, 365, 40⟩, BF⟩) = fun os => some (SH (HF pw w.params) 674 os) := by
  walk_at "qk"
theorem body_ : behindTheImports pw = stsF pw 0 5 ++ (stsF pw 5 1 ++ (stsF pw 6 12 ++ (stsF pw 18 13 ++ (stsF pw 31 12 ++ (stsF pw 43 5 ++ ([])))))) := by
  kernel_rfl
theorem run_ (w : World) (os : OsState) : topRun treeTable pw w 11 (some (.ref 6)) (12 + (1 + (112 + (404 + (391 + (385 + (387 + (152 + 2)))))))) ⟨boot_heap w.params, Array.mk [], boot_drawn, boot_toks, os⟩ (topStub pw) = some (SH (HF pw w.params) 674 os) := by
  have k : topRun treeTable pw w 11 (some (.ref 6)) (112 + (404 + (391 + (385 + (387 + (152 + 2)))))) (ST (T0 pw w.params) 15 187 os).abs (restOf (stsF pw 0 5 ++ (stsF pw 5 1 ++ (stsF pw 6 12 ++ (stsF pw 18 13 ++ (stsF pw 31 12 ++ (stsF pw 43 5 ++ ([]))))))) (envF pw) (codeF pw) ⟨0, 0, 0, 0⟩ BF) = some (SH (HF pw w.params) 674 os) := piece_app (segRun_of (congrFun (seg1 w) os)) (piece_app (segRun_of (congrFun (seg2 w) os)) (piece_app (segRun_of (congrFun (seg3 w) os)) (piece_app (segRun_of (congrFun (seg4 w) os)) (piece_app (segRun_of (congrFun (seg5 w) os)) (piece_app (segRun_of (congrFun (seg6 w) os)) (congrFun (fin_ w) os))))))
  rw [← body_] at k
  exact go_top (congrFun (pre_ w) os) (piece_block (congrFun (block_ w) os) k)
theorem l0 (w : World) : (fun os => staticsOk (importedModules pw.main.body) (boot_heap w.params) (HF pw w.params) && namesBound pw (HF pw w.params) && gensDone (SH (HF pw w.params) 674 os) && laidKept (boot_heap w.params) (HF pw w.params)) = fun _ => true := by
  walk_at "qk"
theorem l1 (w : World) : (fun os => PyProof.Rows.seen ((PyProof.Rows.recsOf (viewF pw)).map (·.name)) (PyProof.Rows.ownsOf (viewF pw)) [] { (SH (HF pw w.params) 674 os) with gens := #[] }) = fun _ => PyProof.Rows.expectedOf (viewF pw) := by
  walk_at "qk"
theorem l2 (w : World) : (fun os => (SH (HF pw w.params) 674 os).heap.bltView) = fun _ => bltViewBooted := by
  walk_at "qk"
theorem l3 (w : World) : (fun os => (SH (HF pw w.params) 674 os).heap.keysOk (looseW (viewF pw) ["ALWAYS", "LEFT"]) ((PyProof.Rows.recsOf (viewF pw)).map (·.name)) ((PyProof.Rows.litsOf (viewF pw)).map (·.1)) ((PyProof.Rows.clssOf (viewF pw) (looseW (viewF pw) ["ALWAYS", "LEFT"])).map (·.name)) && (SH (HF pw w.params) 674 os).heap.accountedOkI (importedModules pw.main.body) && (SH (HF pw w.params) 674 os).heap.isNs mainGlobals && (SH (HF pw w.params) 674 os).heap.isNs builtinsNs && PyProof.Rows.tablesOk (viewF pw) (SH (HF pw w.params) 674 os).heap && (fun s => xlAt (viewF pw) [] s && recOk (RowW.records (OpenRow.toRowW PySem.Challenge.rw_stackwarden_k43_where_rows_lead.row)) s) (SH (HF pw w.params) 674 os) && (if true then (SH (HF pw w.params) 674 os).gens.size == 0 else !leftWithCleanup (SH (HF pw w.params) 674 os).gens)) = fun _ => true := by
  walk_at "qk"
theorem l4 (w : World) : (fun os => PyProof.Rows.tabsOk (viewF pw) (SH (HF pw w.params) 674 os)) = fun _ => true := by
  walk_at "qk"
theorem l5 (w : World) : (fun os => pinSeenD (viewF pw) (PyProof.Rows.drecsOf (viewF pw)) (SH (HF pw w.params) 674 os)) = fun _ => pinGoodD (PyProof.Rows.drecsOf (viewF pw)) := by
  walk_at "qk"
theorem l6 (w : World) : (fun os => PyProof.Rows.plainSeenE (viewF pw) (looseW (viewF pw) ["ALWAYS", "LEFT"]) (SH (HF pw w.params) 674 os)) = fun _ => PyProof.Rows.plainGoodE (viewF pw) (looseW (viewF pw) ["ALWAYS", "LEFT"]) := by
  walk_at "qk"
theorem l7 (w : World) : (fun os => PyProof.Rows.plainSeenD (viewF pw) ["ALWAYS", "LEFT"] (SH (HF pw w.params) 674 os)) = fun _ => PyProof.Rows.plainGoodD (viewF pw) ["ALWAYS", "LEFT"] := by
  walk_at "qk"
theorem l8 (w : World) : (fun os => wideSeen (viewF pw) (SH (HF pw w.params) 674 os)) = fun _ => wideGood (viewF pw) := by
  walk_at "qk"
theorem l9 (w : World) : (fun os => clsSeenW (viewF pw) ["ALWAYS", "LEFT"] (SH (HF pw w.params) 674 os)) = fun _ => clsGoodW (viewF pw) ["ALWAYS", "LEFT"] := by
  walk_at "qk"
theorem lY (w : World) : (fun os => hK.obs (SH (HF pw w.params) 674 os)) = fun _ => hK.val w := by
  show (fun os => asK.map (SH (HF pw w.params) 674 os).heap.get?) = fun _ => (K w.params).map fun p => some p.2
  unfold K
  walk_at "qk"
theorem hl : LeftO pw (viewF pw) ["ALWAYS", "LEFT"] (fun s => xlAt (viewF pw) [] s && recOk (RowW.records (OpenRow.toRowW PySem.Challenge.rw_stackwarden_k43_where_rows_lead.row)) s) hK.obs hK.val 3776 := by
  refine LeftO.of_pieces (m₀ := 11) (ann := (some (.ref 6))) (M := (12 + (1 + (112 + (404 + (391 + (385 + (387 + (152 + 2))))))))) (boot_open (by kernel_rfl) (by decide) (fun s => by kernel_rfl)) (fun w => ?_) run_ (by decide) (fun w => ?_)
  · walk_at "qk"
  · funext os
    exact looks_pair (congrFun (l0 w) os) (looks_pair (looks_pair (congrFun (l1 w) os) (looks_pair (congrFun (l2 w) os) (looks_pair (congrFun (l3 w) os) (looks_pair (congrFun (l4 w) os) (looks_pair (congrFun (l5 w) os) (looks_pair (congrFun (l6 w) os) (looks_pair (congrFun (l7 w) os) (looks_pair (congrFun (l8 w) os) (congrFun (l9 w) os))))))))) (congrFun (lY w) os))
end MH
open PySem PySem.W PyProof.Rows
set_option maxRecDepth 100000 in
set_option maxHeartbeats 0 in
theorem PySem.Challenge.cw_stackwarden_k43_where_rows_lead_holds : PySem.Challenge.rw_stackwarden_k43_where_rows_lead.Holds := by
  w_on; o_law
  refine PySem.W.holds_open (q := (MH.viewF PySem.Challenge.pw_stackwarden_k43_where_rows_lead)) (loose := ["ALWAYS", "LEFT"]) (Xt := (fun s => xlAt (MH.viewF PySem.Challenge.pw_stackwarden_k43_where_rows_lead) [] s && recOk (RowW.records (OpenRow.toRowW PySem.Challenge.rw_stackwarden_k43_where_rows_lead.row)) s)) (XP := XL (MH.viewF PySem.Challenge.pw_stackwarden_k43_where_rows_lead) []) (Yf := Hook.obs (kHook MH.K MH.asK MH.asK_eq)) (Ya := Hook.val (kHook MH.K MH.asK MH.asK_eq)) (YP := Hook.says (kHook MH.K MH.asK MH.asK_eq)) (N := 3776) MH.hl (Hook.of (kHook MH.K MH.asK MH.asK_eq)) (Hook.keeps (kHook MH.K MH.asK MH.asK_eq)) (fun s e => xl_of s (Bool.and_eq_true_iff.mp e).1) XL.keeps (by rfl) (by rfl) (by rfl) (fun s e => recFacts_of (Bool.and_eq_true_iff.mp e).2) (by rfl) (by first | assumption | decide +kernel) (by decide +kernel) ⟨rfl, rfl, rfl, rfl, rfl, by decide +kernel⟩ ?hw ?hc
  case hw => w_witness2
  k_fill
  refine Mine.walk (l := PySem.Challenge.rw_stackwarden_k43_where_rows_lead) rfl rfl (fun w h Y => PySem.W.kIn_of Y) ?F
  case F =>
    intro w mg fa h KX G hmg
    refine' Mine.all_mk KX G hmg ?a0 ?l0 ?c0 ?k0 ?a1 ?l1 ?c1 ?k1 ?a2 ?l2 ?c2 ?k2 ?a3 ?l3 ?c3 ?k3 ?a4 ?l4 ?c4 ?k4 ?a5 ?l5 ?c5 ?k5 ?a6 ?l6 ?c6 ?k6 ?a7 ?l7 ?c7 ?k7 ?a8 ?l8 ?c8 ?k8 ?a9 ?l9 ?c9 ?k9 ?a10 ?l10 ?c10 ?k10 ?a11 ?l11 ?c11 ?k11 ?a12 ?l12 ?c12 ?k12 ?a13 ?l13 ?c13 ?k13 ?a14 ?l14 ?c14 ?k14 ?a15 ?l15 ?c15 ?k15 ?a16 ?l16 ?c16 ?k16 ?a17 ?l17 ?c17 ?k17 ?a18 ?l18 ?c18 ?k18 ?a19 ?l19 ?c19 ?k19 ?a20 ?l20 ?c20 ?k20 ?a21 ?l21 ?c21 ?k21 ?a22 ?l22 ?c22 ?k22 ?a23 ?l23 ?c23 ?k23 ?a24 ?l24 ?c24 ?k24 ?a25 ?l25 ?c25 ?k25 ?a26 ?l26 ?c26 ?k26 ?a27 ?l27 ?c27 ?k27 ?a28 ?l28 ?c28 ?k28 ?a29 ?l29 ?c29 ?k29 ?a30 ?l30 ?c30 ?k30 ?a31 ?l31 ?c31 ?k31 ?a32 ?l32 ?c32 ?k32 ?a33 ?l33 ?c33 ?k33 ?a34 ?l34 ?c34 ?k34 ?a35 ?l35 ?c35 ?k35 ?a36 ?l36 ?c36 ?k36 ?g_ALWAYS ?n_ALWAYS_129 ?q_ALWAYS_128 ?q_ALWAYS_127 ?q_ALWAYS_125 ?q_ALWAYS_121 ?q_ALWAYS_119 ?q_ALWAYS_115 ?q_ALWAYS_112 ?q_ALWAYS_110 ?q_ALWAYS_105 ?q_ALWAYS_103 ?q_ALWAYS_99 ?q_ALWAYS_96 ?q_ALWAYS_94 ?q_ALWAYS_91 ?q_ALWAYS_87 ?q_ALWAYS_85 ?q_ALWAYS_82 ?q_ALWAYS_78 ?q_ALWAYS_76 ?q_ALWAYS_73 ?q_ALWAYS_69 ?q_ALWAYS_67 ?q_ALWAYS_64 ?q_ALWAYS_60 ?q_ALWAYS_58 ?q_ALWAYS_55 ?q_ALWAYS_51 ?q_ALWAYS_49 ?q_ALWAYS_46 ?q_ALWAYS_42 ?q_ALWAYS_40 ?q_ALWAYS_37 ?q_ALWAYS_33 ?q_ALWAYS_31 ?q_ALWAYS_27 ?q_ALWAYS_25 ?q_ALWAYS_22 ?q_ALWAYS_18 ?q_ALWAYS_16 ?q_ALWAYS_12 ?q_ALWAYS_10 ?q_ALWAYS_6 ?q_ALWAYS_3 ?g_ENDING ?q_ENDING_5 ?g_FAULTING ?q_FAULTING_6 ?g_GOING ?q_GOING_5 ?g_LEFT ?n_LEFT_22 ?q_LEFT_21 ?g_OF_RECORDS ?q_OF_RECORDS_7 ?z_all ?z_bool ?z_int ?z_isinstance ?z_len ?z_list ?z_max ?z_range ?z_reversed ?z_tuple
    (case a0 => k_is)
    (case l0 => k_is)
    (case c0 => k_is)
    (case k0 => k_is)
    (case a1 => k_is)
    (case l1 => k_is)
    (case c1 => k_is)
    (case k1 => k_is)
    (case a2 => k_is)
    (case l2 => k_is)
    (case c2 => k_is)
    (case k2 => k_is)
    (case a3 => k_is)
    (case l3 => k_is)
    (case c3 => k_is)
    (case k3 => k_is)
    (case a4 => k_is)
    (case l4 => k_is)
    (case c4 => k_is)
    (case k4 => k_is)
    (case a5 => k_is)
    (case l5 => k_is)
    (case c5 => k_is)
    (case k5 => k_is)
    (case a6 => k_is)
    (case l6 => k_is)
    (case c6 => k_is)
    (case k6 => k_is)
    (case a7 => k_is)
    (case l7 => k_is)
    (case c7 => k_is)
    (case k7 => k_is)
    (case a8 => k_is)
    (case l8 => k_is)
    (case c8 => k_is)
    (case k8 => k_is)
    (case a9 => k_is)
    (case l9 => k_is)
    (case c9 => k_is)
    (case k9 => k_is)
    (case a10 => k_is)
    (case l10 => k_is)
    (case c10 => k_is)
    (case k10 => k_is)
    (case a11 => k_is)
    (case l11 => k_is)
    (case c11 => k_is)
    (case k11 => k_is)
    (case a12 => k_is)
    (case l12 => k_is)
    (case c12 => k_is)
    (case k12 => k_is)
    (case a13 => k_is)
    (case l13 => k_is)
    (case c13 => k_is)
    (case k13 => k_is)
    (case a14 => k_is)
    (case l14 => k_is)
    (case c14 => k_is)
    (case k14 => k_is)
    (case a15 => k_is)
    (case l15 => k_is)
    (case c15 => k_is)
    (case k15 => k_is)
    (case a16 => k_is)
    (case l16 => k_is)
    (case c16 => k_is)
    (case k16 => k_is)
    (case a17 => k_is)
    (case l17 => k_is)
    (case c17 => k_is)
    (case k17 => k_is)
    (case a18 => k_is)
    (case l18 => k_is)
    (case c18 => k_is)
    (case k18 => k_is)
    (case a19 => k_is)
    (case l19 => k_is)
    (case c19 => k_is)
    (case k19 => k_is)
    (case a20 => k_is)
    (case l20 => k_is)
    (case c20 => k_is)
    (case k20 => k_is)
    (case a21 => k_is)
    (case l21 => k_is)
    (case c21 => k_is)
    (case k21 => k_is)
    (case a22 => k_is)
    (case l22 => k_is)
    (case c22 => k_is)
    (case k22 => k_is)
    (case a23 => k_is)
    (case l23 => k_is)
    (case c23 => k_is)
    (case k23 => k_is)
    (case a24 => k_is)
    (case l24 => k_is)
    (case c24 => k_is)
    (case k24 => k_is)
    (case a25 => k_is)
    (case l25 => k_is)
    (case c25 => k_is)
    (case k25 => k_is)
    (case a26 => k_is)
    (case l26 => k_is)
    (case c26 => k_is)
    (case k26 => k_is)
    (case a27 => k_is)
    (case l27 => k_is)
    (case c27 => k_is)
    (case k27 => k_is)
    (case a28 => k_is)
    (case l28 => k_is)
    (case c28 => k_is)
    (case k28 => k_is)
    (case a29 => k_is)
    (case l29 => k_is)
    (case c29 => k_is)
    (case k29 => k_is)
    (case a30 => k_is)
    (case l30 => k_is)
    (case c30 => k_is)
    (case k30 => k_is)
    (case a31 => k_is)
    (case l31 => k_is)
    (case c31 => k_is)
    (case k31 => k_is)
    (case a32 => k_is)
    (case l32 => k_is)
    (case c32 => k_is)
    (case k32 => k_is)
    (case a33 => k_is)
    (case l33 => k_is)
    (case c33 => k_is)
    (case k33 => k_is)
    (case a34 => k_is)
    (case l34 => k_is)
    (case c34 => k_is)
    (case k34 => k_is)
    (case a35 => k_is)
    (case l35 => k_is)
    (case c35 => k_is)
    (case k35 => k_is)
    (case a36 => k_is)
    (case l36 => k_is)
    (case c36 => k_is)
    (case k36 => k_is)
    (case g_ALWAYS => k_is)
    (case n_ALWAYS_129 => first | rfl | decide | k_is)
    (case q_ALWAYS_128 => k_is)
    (case q_ALWAYS_127 => k_is)
    (case q_ALWAYS_125 => k_is)
    (case q_ALWAYS_121 => k_is)
    (case q_ALWAYS_119 => k_is)
    (case q_ALWAYS_115 => k_is)
    (case q_ALWAYS_112 => k_is)
    (case q_ALWAYS_110 => k_is)
    (case q_ALWAYS_105 => k_is)
    (case q_ALWAYS_103 => k_is)
    (case q_ALWAYS_99 => k_is)
    (case q_ALWAYS_96 => k_is)
    (case q_ALWAYS_94 => k_is)
    (case q_ALWAYS_91 => k_is)
    (case q_ALWAYS_87 => k_is)
    (case q_ALWAYS_85 => k_is)
    (case q_ALWAYS_82 => k_is)
    (case q_ALWAYS_78 => k_is)
    (case q_ALWAYS_76 => k_is)
    (case q_ALWAYS_73 => k_is)
    (case q_ALWAYS_69 => k_is)
    (case q_ALWAYS_67 => k_is)
    (case q_ALWAYS_64 => k_is)
    (case q_ALWAYS_60 => k_is)
    (case q_ALWAYS_58 => k_is)
    (case q_ALWAYS_55 => k_is)
    (case q_ALWAYS_51 => k_is)
    (case q_ALWAYS_49 => k_is)
    (case q_ALWAYS_46 => k_is)
    (case q_ALWAYS_42 => k_is)
    (case q_ALWAYS_40 => k_is)
    (case q_ALWAYS_37 => k_is)
    (case q_ALWAYS_33 => k_is)
    (case q_ALWAYS_31 => k_is)
    (case q_ALWAYS_27 => k_is)
    (case q_ALWAYS_25 => k_is)
    (case q_ALWAYS_22 => k_is)
    (case q_ALWAYS_18 => k_is)
    (case q_ALWAYS_16 => k_is)
    (case q_ALWAYS_12 => k_is)
    (case q_ALWAYS_10 => k_is)
    (case q_ALWAYS_6 => k_is)
    (case q_ALWAYS_3 => k_is)
    (case g_ENDING => k_is)
    (case q_ENDING_5 => k_is)
    (case g_FAULTING => k_is)
    (case q_FAULTING_6 => k_is)
    (case g_GOING => k_is)
    (case q_GOING_5 => k_is)
    (case g_LEFT => k_is)
    (case n_LEFT_22 => first | rfl | decide | k_is)
    (case q_LEFT_21 => k_is)
    (case g_OF_RECORDS => k_is)
    (case q_OF_RECORDS_7 => k_is)
    (case z_all => k_is)
    (case z_bool => k_is)
    (case z_int => k_is)
    (case z_isinstance => k_is)
    (case z_len => k_is)
    (case z_list => k_is)
    (case z_max => k_is)
    (case z_range => k_is)
    (case z_reversed => k_is)
    (case z_tuple => k_is)
#print axioms PySem.Challenge.cw_stackwarden_k43_where_rows_lead_holds
