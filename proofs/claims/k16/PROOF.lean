import PyProof.Rows.All
import Wide.All
import OpenK.AllK
import Wide.FinOn
import Lean
import PyProof.EqAt
import PyProof.EqKinds
import PyProof.TupleCall
import PyProof.ZipIter
import KE.KTryDeep
import KE.KIsAll
import KE.KIntText
import PyProof.ExcArgsOwn
import PySem.Challenge.RW_stackwarden_k16_wrong_bytes
set_option Elab.async false
set_option linter.all false
set_option maxRecDepth 100000
namespace L2
open PySem PySem.Spec PyProof.Rows
abbrev Key := Sum Int Str
def keyIs : Key → Value → Bool
  | .inl k, v => Value.isInt k v
  | .inr x, v => Value.isStrOf x v
def keyH (w : World) : Key → Int
  | .inl k => hashInt k
  | .inr x => hashStr w x
theorem keyIs_shape : ∀ {k : Key} {v : Value}, keyIs k v = true → (∃ i t, k = Sum.inl i ∧ v = Value.int i t) ∨ (∃ x t, k = Sum.inr x ∧ v = Value.str x t)
  | .inl i, v, h => by
    obtain ⟨t, e⟩ := Value.isInt_shape (k := i) (v := v) h
    exact .inl ⟨i, t, rfl, e⟩
  | .inr x, v, h => by
    obtain ⟨t, e⟩ := Value.isStrOf_shape (x := x) (v := v) h
    exact .inr ⟨x, t, rfl, e⟩
theorem keyIs_int (i : Int) (t : Tok) : keyIs (.inl i) (.int i t) = true := by simp [keyIs, Value.isInt]
theorem keyIs_str (x : Str) (t : Tok) : keyIs (.inr x) (.str x t) = true := by simp [keyIs, Value.isStrOf]
theorem key_ll (a b : Int) : decide ((Sum.inl a : Key) = Sum.inl b) = (a == b) := by
  by_cases e : a = b
  · subst e; simp
  · have h : ¬ (Sum.inl a : Key) = Sum.inl b := fun q => e (Sum.inl.inj q)
    rw [decide_eq_false h]
    exact (beq_eq_false_iff_ne.mpr e).symm
theorem key_rr (a b : Str) : decide ((Sum.inr a : Key) = Sum.inr b) = decide (a = b) := by
  by_cases e : a = b
  · subst e; simp
  · have h : ¬ (Sum.inr a : Key) = Sum.inr b := fun q => e (Sum.inr.inj q)
    rw [decide_eq_false h, decide_eq_false e]
theorem key_lr (a : Int) (b : Str) : decide ((Sum.inl a : Key) = Sum.inr b) = false := decide_eq_false (fun q => nomatch q)
theorem key_rl (a : Str) (b : Int) : decide ((Sum.inr a : Key) = Sum.inl b) = false := decide_eq_false (fun q => nomatch q)
def mixKind (prog : Program) (w : World) : PySem.KeyKind prog w Key where
  is := keyIs
  hash := keyH w
  inj := fun v a b ha hb => by
    rcases keyIs_shape ha with ⟨i, t, rfl, rfl⟩ | ⟨x, t, rfl, rfl⟩
    · rcases keyIs_shape hb with ⟨j, u, rfl, e⟩ | ⟨y, u, rfl, e⟩
      · injection e with e1 _; rw [e1]
      · exact nomatch e
    · rcases keyIs_shape hb with ⟨j, u, rfl, e⟩ | ⟨y, u, rfl, e⟩
      · exact nomatch e
      · injection e with e1 _; rw [e1]
  byValue := fun k v h => by
    rcases keyIs_shape h with ⟨i, t, rfl, rfl⟩ | ⟨x, t, rfl, rfl⟩ <;> rfl
  pyHash := fun hv h => by
    rcases keyIs_shape hv with ⟨i, t, rfl, rfl⟩ | ⟨x, t, rfl, rfl⟩
    · exact wpAny_pyHash_int h
    · exact wpAny_pyHash_str h
  eqBool := fun hu hv h => by
    rcases keyIs_shape hu with ⟨i, t, rfl, rfl⟩ | ⟨x, t, rfl, rfl⟩
    · rcases keyIs_shape hv with ⟨j, u, rfl, rfl⟩ | ⟨y, u, rfl, rfl⟩
      · rw [key_ll] at h; exact wpAny_eqBool_int h
      · rw [key_lr] at h; exact SeqAt.EqAt.int_str i t y u _ _ _ _ h
    · rcases keyIs_shape hv with ⟨j, u, rfl, rfl⟩ | ⟨y, u, rfl, rfl⟩
      · rw [key_rl] at h; exact SeqAt.EqAt.str_int x t j u _ _ _ _ h
      · rw [key_rr] at h; exact wpAny_eqBool_str h
  «strs» := fun k x t v h => by
    rcases keyIs_shape h with ⟨i, u, rfl, e⟩ | ⟨y, u, rfl, e⟩
    · exact nomatch e
    · injection e with e1 _
      subst e1
      cases v <;> rfl
theorem mixKind_int (prog : Program) (w : World) (i : Int) (t : Tok) : (mixKind prog w).is (.inl i) (.int i t) = true := keyIs_int i t
theorem mixKind_str (prog : Program) (w : World) (x : Str) (t : Tok) : (mixKind prog w).is (.inr x) (.str x t) = true := keyIs_str x t
end L2
namespace L2
open PySem PySem.Spec PyProof.Rows
inductive V where
  | non | bl (b : Bool) | int (i : Int) | str (x : Str) | byt (b : Array UInt8) | flt (b : UInt64) | ref (a : Addr) | ty (n : String)
  deriving DecidableEq
def RelV : V → Value → Prop
  | .non, u => u = Value.none
  | .bl b, u => u = Value.bool b
  | .int i, u => ∃ t, u = Value.int i t
  | .str x, u => ∃ t, u = Value.str x t
  | .byt b, u => ∃ t, u = Value.bytes b t
  | .flt b, u => ∃ t, u = Value.float b t
  | .ref a, u => u = Value.ref a
  | .ty n, u => u = Value.type n
abbrev Vals : List V → List Value → Prop := Paired RelV
theorem Vals.length {xs : List V} {us : List Value} (r : Vals xs us) : xs.length = us.length := Paired.length r
theorem Vals.get : ∀ {xs : List V} {us : List Value} {i : Nat} {x : V}, Vals xs us → xs[i]? = some x → ∃ u, us[i]? = some u ∧ RelV x u
  | _, _, _, _, .nil, e => by simp at e
  | _, _, 0, _, .cons r _, e => by simp at e; subst e; exact ⟨_, rfl, r⟩
  | _, _, i + 1, x, .cons _ t, e => by
    obtain ⟨u, h1, h2⟩ := Vals.get (i := i) (x := x) t (by simpa using e)
    exact ⟨u, by simpa using h1, h2⟩
theorem Vals.set {x : V} {u : Value} (r : RelV x u) : ∀ {xs : List V} {us : List Value} (i : Nat), Vals xs us → Vals (xs.set i x) (us.set i u)
  | _, _, _, .nil => .nil
  | _, _, 0, .cons _ t => .cons r t
  | _, _, i + 1, .cons q t => .cons q (Vals.set r i t)
theorem Vals.append : ∀ {xs ys : List V} {us ws : List Value}, Vals xs us → Vals ys ws → Vals (xs ++ ys) (us ++ ws)
  | _, _, _, _, .nil, s => s
  | _, _, _, _, .cons r t, s => .cons r (Vals.append t s)
theorem Vals.take : ∀ {xs : List V} {us : List Value} (n : Nat), Vals xs us → Vals (xs.take n) (us.take n)
  | _, _, 0, _ => .nil
  | _, _, _ + 1, .nil => .nil
  | _, _, n + 1, .cons r t => .cons r (Vals.take n t)
theorem Vals.drop : ∀ {xs : List V} {us : List Value} (n : Nat), Vals xs us → Vals (xs.drop n) (us.drop n)
  | _, _, 0, r => r
  | _, _, _ + 1, .nil => .nil
  | _, _, n + 1, .cons _ t => Vals.drop n t
def RelO : Option V → Option Value → Prop
  | some v, some u => RelV v u
  | none, none => True
  | _, _ => False
def KV {κ : Type} : List (κ × V) → List (κ × Value) → Prop := Paired fun (p : κ × V) (q : κ × Value) => p.1 = q.1 ∧ RelV p.2 q.2
def kV : Key → V
  | .inl i => .int i
  | .inr x => .str x
inductive HO where
  /-- a list -/
  | lst (xs : List V)
  /-- a tuple (never changes) -/
  | tup (xs : List V)
  /-- a dict whose keys are ints and texts; one whose keys are tuples of ints and texts (the empty one is both) -/
  | dK (kvs : List (Key × V)) | dT (kvs : List (List Key × V))
  /-- a set of ints: its members, its size -/
  | set (S : Int → Bool) (n : Nat)
  /-- an instance of the class at C, its dict at dx, its attributes -/
  | ins (C dx : Addr) (fs : List (Str × V))
  /-- the dict of the instance at x -/
  | own (x : Addr)
  /-- the dict of an exception -/
  | xd (fs : List (Str × V))
  /-- a bound method, f of x -/
  | met (f x : Addr)
  /-- a range object lo, lo + 1, .. below hi -/
  | rng (lo hi : Int)
  /-- a thing that is known to the object (the script; a dict while a loop walks it): read, never written while it is so -/
  | frz (o : Obj) (u : HO)
  /-- a code object's table -/
  | tbl (ps : Array Value)
  /-- any other thing, by what is true of its one object (a def of one's own: SetO a S n := HO.ext fun h => ..) -/
  | ext (φ : Heap → Prop)
abbrev Hp := Addr → Option HO
def upd (H : Hp) (a : Addr) (o : HO) : Hp := fun b => if b = a then some o else H b
theorem upd_same {H : Hp} {a : Addr} {o : HO} : upd H a o a = some o := by unfold upd; rw [if_pos rfl]
theorem upd_ne {H : Hp} {a b : Addr} {o : HO} (h : b ≠ a) : upd H a o b = H b := by unfold upd; rw [if_neg h]
theorem ne_of {H : Hp} {a b : Addr} {o u : HO} (h : H a = some o) (h' : H b = some u) (d : o ≠ u) : a ≠ b := by
  intro e; subst e; rw [h] at h'; exact d (Option.some.inj h')
theorem ne_of_none {H : Hp} {a b : Addr} {o : HO} (h : H a = some o) (h' : H b = none) : a ≠ b := by
  intro e; subst e; rw [h] at h'; cases h'
section
variable (P : Program) (w : World)
def ObjOk (H : Hp) (h : Heap) (a : Addr) : HO → Prop
  | .lst xs => xs.length ≤ sizeLine ∧ ∃ (its : List Value) (n : Nat), Vals xs its ∧ h.get? a = some { cls := .type "list", data := .seq its.toArray n }
  | .tup xs => xs.length ≤ sizeLine ∧ ∃ its : List Value, Vals xs its ∧ IsTup h a its.toArray
  | .dK kvs => kvs.length ≤ sizeLine ∧ (a == sysModules) = false ∧ ∃ vs, KV kvs vs ∧ h.DictOf (mixKind P w) a vs
  | .dT kvs => kvs.length ≤ sizeLine ∧ (a == sysModules) = false ∧ ∃ xs : List (List Key × Addr × Value),
      Paired (fun (p : List Key × V) (q : List Key × Addr × Value) => p.1 = q.1 ∧ H q.2.1 = some (.tup (p.1.map kV)) ∧ RelV p.2 q.2.2) kvs xs ∧
      ∃ o es ep, h.get? a = some o ∧ o.ExactDict ∧ o.data = .dict es ep ∧ es.toList = xs.map (entryOfKey (tupleKind (mixKind P w))) ∧ (xs.map (·.1)).Nodup
  | .set S n => h.SetOf (intKind P w) a S n
  | .ins C dx fs => H dx = some (.own a) ∧ fs.length ≤ 1000 ∧ dx ≠ a ∧ h.get? a = some (PySem.W.instObj C dx) ∧
      ∃ mA, h.Ns1 dx mA ∧ (∀ f, RelO (fs.lookup f) (mA f)) ∧ PySem.Within mA (fs.map (·.1))
  | .own _ => ∃ o, h.get? a = some o
  | .xd fs => ∃ mA, h.Ns1 a mA ∧ ∀ f, RelO (fs.lookup f) (mA f)
  | .rng lo hi => ∃ t u v, h.get? a = some { cls := .type "range", data := .fields #[.int lo t, .int hi u, .int 1 v] }
  | .frz o u => h.get? a = some o ∧ ObjOk H h a u
  | .tbl ps => h.get? a = some { cls := .none, data := .fields ps }
  | .met f x => h.get? a = some (PySem.W.methodObj (.ref f) (.ref x))
  | .ext φ => φ h ∧ (∃ o, h.get? a = some o) ∧ ∀ h1 h2 : Heap, φ h1 → (∀ o, h1.get? a = some o → h2.get? a = some o) → φ h2
def HOk (H : Hp) (h : Heap) : Prop := ∀ a o, H a = some o → ObjOk P w H h a o
end
section
variable {P : Program} {w : World} {H H' : Hp} {h h' : Heap} {a : Addr} {o : HO}
theorem ObjOk.lt (x : ObjOk P w H h a o) : a < h.objs.size := by
  cases o with
  | lst xs => obtain ⟨_, _, _, _, e⟩ := x; exact Heap.lt_size e
  | tup xs => obtain ⟨_, _, _, p⟩ := x; exact p.lt
  | dK kvs => obtain ⟨_, _, _, _, o, _, _, e, _⟩ := x; exact Heap.lt_size e
  | dT kvs => obtain ⟨_, _, _, _, o, _, _, e, _⟩ := x; exact Heap.lt_size e
  | set S n => obtain ⟨o, _, _, _, e, _⟩ := x; exact Heap.lt_size e
  | ins C dx fs => obtain ⟨_, _, _, e, _⟩ := x; exact Heap.lt_size e
  | own y => obtain ⟨_, e⟩ := x; exact Heap.lt_size e
  | xd fs => obtain ⟨_, ⟨_, _, _, e, _⟩, _⟩ := x; exact Heap.lt_size e
  | rng lo hi => obtain ⟨_, _, _, e⟩ := x; exact Heap.lt_size e
  | frz ob u => obtain ⟨e, _⟩ := x; exact Heap.lt_size e
  | tbl ps => exact Heap.lt_size (show h.get? a = some _ from x)
  | met f y => exact Heap.lt_size (show h.get? a = some _ from x)
  | ext φ => obtain ⟨_, ⟨_, e⟩, _⟩ := x; exact Heap.lt_size e
theorem Paired.mapP {α β : Type} {F G : α → β → Prop} : ∀ {l₁ : List α} {l₂ : List β}, Paired F l₁ l₂ → (∀ a b, F a b → G a b) → Paired G l₁ l₂
  | _, _, .nil, _ => .nil
  | _, _, .cons r t, f => .cons (f _ _ r) (Paired.mapP t f)
theorem ObjOk.stay (x : ObjOk P w H h a o) (k : ∀ b u, (b = a ∨ H b = some (.own a)) → h.get? b = some u → h'.get? b = some u)
    (ho : ∀ b, H b = some (.own a) → H' b = some (.own a)) (ht : ∀ b xs, H b = some (.tup xs) → H' b = some (.tup xs)) : ObjOk P w H' h' a o := by
  induction o with
  | lst xs => obtain ⟨z, its, n, r, e⟩ := x; exact ⟨z, its, n, r, k _ _ (.inl rfl) e⟩
  | tup xs => obtain ⟨z, its, r, ob, e, c⟩ := x; exact ⟨z, its, r, ob, k _ _ (.inl rfl) e, c⟩
  | dK kvs => obtain ⟨z, y, vs, r, ob, es, ep, e, c⟩ := x; exact ⟨z, y, vs, r, ob, es, ep, k _ _ (.inl rfl) e, c⟩
  | dT kvs =>
    obtain ⟨z, y, xs, r, ob, es, ep, e, c⟩ := x
    exact ⟨z, y, xs, Paired.mapP r fun p q z => ⟨z.1, ht _ _ z.2.1, z.2.2⟩, ob, es, ep, k _ _ (.inl rfl) e, c⟩
  | set S n => obtain ⟨ob, es, ep, t, e, c⟩ := x; exact ⟨ob, es, ep, t, k _ _ (.inl rfl) e, c⟩
  | ins C dx fs =>
    obtain ⟨d, z, ne, e, mA, ⟨od, es, ep, e2, c⟩, r⟩ := x
    exact ⟨ho _ d, z, ne, k _ _ (.inl rfl) e, mA, ⟨od, es, ep, k _ _ (.inr d) e2, c⟩, r⟩
  | own y => obtain ⟨ob, e⟩ := x; exact ⟨ob, k _ _ (.inl rfl) e⟩
  | xd fs => obtain ⟨mA, ⟨od, es, ep, e, c⟩, r⟩ := x; exact ⟨mA, ⟨od, es, ep, k _ _ (.inl rfl) e, c⟩, r⟩
  | rng lo hi => obtain ⟨t, u, v, e⟩ := x; exact ⟨t, u, v, k _ _ (.inl rfl) e⟩
  | frz ob u ih => obtain ⟨e, q⟩ := x; exact ⟨k _ _ (.inl rfl) e, ih q⟩
  | tbl ps =>
    have e : h.get? a = some { cls := .none, data := .fields ps } := x
    show h'.get? a = some { cls := .none, data := .fields ps }
    exact k a _ (.inl rfl) e
  | met f y =>
    have e : h.get? a = some (PySem.W.methodObj (.ref f) (.ref y)) := x
    show h'.get? a = some (PySem.W.methodObj (.ref f) (.ref y))
    exact k a _ (.inl rfl) e
  | ext φ => obtain ⟨p, ⟨o, e⟩, st⟩ := x; exact ⟨st _ _ p fun o q => k _ _ (.inl rfl) q, ⟨o, k _ _ (.inl rfl) e⟩, st⟩
theorem HOk.lt (x : HOk P w H h) (e : H a = some o) : a < h.objs.size := (x a o e).lt
theorem HOk.fresh (x : HOk P w H h) (e : h.objs.size ≤ a) : H a = none := by
  cases q : H a with
  | none => rfl
  | some u => exact absurd (Nat.lt_of_lt_of_le (x.lt q) e) (Nat.lt_irrefl _)
theorem HOk.kept (x : HOk P w H h) (k : ∀ b u, h.get? b = some u → h'.get? b = some u) : HOk P w H h' := fun a o e =>
  (x a o e).stay (fun b u _ q => k b u q) (fun _ q => q) fun _ _ q => q
theorem HOk.laid (x : HOk P w H h) (k : ∀ b u, h.get? b = some u → h'.get? b = some u) (hp : h.objs.size ≤ a) (new : ObjOk P w (upd H a o) h' a o) : HOk P w (upd H a o) h' := fun b u e => by
  have hn := x.fresh hp
  by_cases hb : b = a
  · subst hb; rw [upd_same] at e; cases e; exact new
  · rw [upd_ne hb] at e
    exact (x b u e).stay (fun c v _ q => k c v q) (fun c q => by rw [upd_ne (ne_of_none q hn)]; exact q) fun c xs q => by rw [upd_ne (ne_of_none q hn)]; exact q
end
def Rd (H : Hp) (a : Addr) (u : HO) : Prop := H a = some u ∨ ∃ o, H a = some (.frz o u)
theorem Rd.of {H : Hp} {a : Addr} {u : HO} (h : H a = some u) : Rd H a u := .inl h
theorem Rd.ok {P : Program} {w : World} {H : Hp} {h : Heap} {a : Addr} {u : HO} (r : Rd H a u) (x : HOk P w H h) : ObjOk P w H h a u := by
  rcases r with r | ⟨o, r⟩
  · exact x a u r
  · obtain ⟨_, q⟩ := x a _ r
    exact q
def Mut : Option HO → Prop
  | some (.lst _) => True
  | some (.dK _) => True
  | some (.dT _) => True
  | some (.set _ _) => True
  | some (.ins _ _ _) => True
  | some (.ext _) => True
  | _ => False
section
variable {P : Program} {w : World} {H : Hp} {h h' : Heap} {x e : Addr} {o' : HO}
theorem HOk.write (ok : HOk P w H h) (mu : Mut (H x)) (he : e = x ∨ H e = some (.own x)) (k : ∀ b u, b ≠ e → h.get? b = some u → h'.get? b = some u) (heo : ∃ u, h'.get? e = some u)
    (new : ObjOk P w (upd H x o') h' x o') : HOk P w (upd H x o') h' := fun b u q => by
  have nown : ∀ c y, H c = some (.own y) → c ≠ x := fun c y r z => by subst z; rw [r] at mu; exact mu
  have ntup : ∀ c xs, H c = some (.tup xs) → c ≠ x := fun c xs r z => by subst z; rw [r] at mu; exact mu
  by_cases hb : b = x
  · subst hb; rw [upd_same] at q; cases q; exact new
  · rw [upd_ne hb] at q
    by_cases hbe : b = e
    · have q' : H b = some (.own x) := by
        rcases he with z | z
        · exact absurd (hbe.trans z) hb
        · rw [hbe]; exact z
      rw [q] at q'; cases q'
      obtain ⟨v, hv⟩ := heo
      exact ⟨v, by rw [hbe]; exact hv⟩
    · refine (ok b u q).stay (fun c v hc r => k c v ?_ r) (fun c r => by rw [upd_ne (nown c b r)]; exact r) fun c xs r => by rw [upd_ne (ntup c xs r)]; exact r
      rcases hc with rfl | hc
      · exact hbe
      · rintro rfl
        rcases he with z | z
        · exact nown c b hc z
        · rw [hc] at z; cases z; exact hb rfl
end
structure Un (fs ex : List Addr) (H H' : Hp) (h h' : Heap) : Prop where
  keep : ∀ b o, h.get? b = some o → H b = none → b ∉ fs → b ∉ ex → h'.get? b = some o
  slot : ∀ b o, h.get? b = some o → H b = none → b ∈ fs → b ∉ ex → ∃ sl, h'.get? b = some { o with slots := sl }
  free : ∀ b o, h.get? b = some o → H b = none → b ∉ ex → H' b = none
  there : ∀ b o, h.get? b = some o → b ∉ ex → ∃ o', h'.get? b = some o'
  tups : ∀ b xs, H b = some (.tup xs) → H' b = some (.tup xs)
  frzs : ∀ b o u, H b = some (.frz o u) → H' b = some (.frz o u)
  tbls : ∀ b ps, H b = some (.tbl ps) → ∃ more, H' b = some (.tbl (ps ++ more))
section
variable {fs fs' ex ex' : List Addr} {H H1 H2 : Hp} {h h1 h2 h' : Heap} {a x e : Addr} {o : HO}
theorem Un.any (u : Un fs ex H H1 h h1) {b : Addr} {ob : Obj} (q : h.get? b = some ob) (n : H b = none) (hx : b ∉ ex) : ∃ sl, h1.get? b = some { ob with slots := sl } := by
  by_cases hb : b ∈ fs
  · exact u.slot b ob q n hb hx
  · exact ⟨ob.slots, u.keep b ob q n hb hx⟩
theorem Un.trans (a : Un fs ex H H1 h h1) (b : Un fs ex H1 H2 h1 h2) : Un fs ex H H2 h h2 where
  keep := fun c ob q n hc hx => b.keep c ob (a.keep c ob q n hc hx) (a.free c ob q n hx) hc hx
  slot := fun c ob q n hc hx => by
    obtain ⟨sl, e1⟩ := a.slot c ob q n hc hx
    obtain ⟨sl', e2⟩ := b.slot c _ e1 (a.free c ob q n hx) hc hx
    exact ⟨sl', e2⟩
  free := fun c ob q n hx => by
    obtain ⟨o', e1⟩ := a.there c ob q hx
    exact b.free c o' e1 (a.free c ob q n hx) hx
  there := fun c ob q hx => by
    obtain ⟨o', e1⟩ := a.there c ob q hx
    exact b.there c o' e1 hx
  tups := fun c xs q => b.tups c xs (a.tups c xs q)
  frzs := fun c ob xs q => b.frzs c ob xs (a.frzs c ob xs q)
  tbls := fun c ps q => by
    obtain ⟨m1, e1⟩ := a.tbls c ps q
    obtain ⟨m2, e2⟩ := b.tbls c _ e1
    exact ⟨m1 ++ m2, by rw [e2, Array.append_assoc]⟩
theorem Un.kept (k : ∀ b u, h.get? b = some u → h'.get? b = some u) : Un fs ex H H h h' :=
  ⟨fun b ob q _ _ _ => k b ob q, fun b ob q _ _ _ => ⟨ob.slots, k b ob q⟩, fun _ _ _ n _ => n, fun b ob q _ => ⟨ob, k b ob q⟩, fun _ _ q => q, fun _ _ _ q => q, fun _ ps q => ⟨#[], by rw [q]; simp⟩⟩
theorem Un.refl : Un fs ex H H h h := Un.kept fun _ _ q => q
theorem Un.laid (k : ∀ b u, h.get? b = some u → h'.get? b = some u) (hp : h.objs.size ≤ a) (hn : H a = none) : Un fs ex H (upd H a o) h h' where
  keep := fun b u q _ _ _ => k b u q
  slot := fun b u q _ _ _ => ⟨u.slots, k b u q⟩
  free := fun b u q n _ => by rw [upd_ne (Nat.ne_of_lt (Nat.lt_of_lt_of_le (Heap.lt_size q) hp))]; exact n
  there := fun b u q _ => ⟨u, k b u q⟩
  tups := fun b xs q => by rw [upd_ne (ne_of_none q hn)]; exact q
  frzs := fun b u xs q => by rw [upd_ne (ne_of_none q hn)]; exact q
  tbls := fun b ps q => ⟨#[], by rw [upd_ne (ne_of_none q hn), q]; simp⟩
theorem Un.write (mu : Mut (H x)) (he : e = x ∨ H e = some (.own x)) (k : ∀ b u, b ≠ e → h.get? b = some u → h'.get? b = some u) (heo : ∃ u, h'.get? e = some u) : Un fs ex H (upd H x o) h h' := by
  have hx : ∀ b, H b = none → b ≠ x := fun b n z => by subst z; rw [n] at mu; exact mu
  have hb : ∀ b, H b = none → b ≠ e := fun b n z => by
    subst z
    rcases he with r | r
    · exact hx b n r
    · rw [n] at r; cases r
  have hm : ∀ b u, H b = some u → ¬ Mut (some u) → b ≠ x := fun b u q nm z => by subst z; rw [q] at mu; exact nm mu
  refine ⟨fun b u q n _ _ => k b u (hb b n) q, fun b u q n _ _ => ⟨u.slots, k b u (hb b n) q⟩, fun b u q n _ => by rw [upd_ne (hx b n)]; exact n, fun b u q _ => ?_,
    fun b xs q => by rw [upd_ne (hm b _ q fun z => z)]; exact q, fun b u xs q => by rw [upd_ne (hm b _ q fun z => z)]; exact q, fun b ps q => ⟨#[], by rw [upd_ne (hm b _ q fun z => z), q]; simp⟩⟩
  by_cases hbe : b = e
  · subst hbe; exact heo
  · exact ⟨u, k b u hbe q⟩
theorem Un.mono (u : Un fs ex H H1 h h1) (hs : ∀ b ∈ fs, b ∈ fs') (hx : ∀ b ∈ ex, b ∈ ex') : Un fs' ex' H H1 h h1 :=
  ⟨fun b ob q n hb he => u.keep b ob q n (fun z => hb (hs b z)) fun z => he (hx b z), fun _ _ q n _ he => u.any q n fun z => he (hx _ z), fun b ob q n he => u.free b ob q n fun z => he (hx b z), fun b ob q he => u.there b ob q fun z => he (hx b z), u.tups, u.frzs, u.tbls⟩
end
def trk (h : Heap) (H : Hp) : List Addr := (List.range h.objs.size).filter fun a => (H a).isSome
def hidT (h : Heap) (H : Hp) : Heap := PySem.W.hideAll h (trk h H)
theorem hidT_size (h : Heap) (H : Hp) : (hidT h H).objs.size = h.objs.size := PySem.W.hideAll_size _ _
theorem hidT_get {h : Heap} {H : Hp} {b : Addr} {o : Obj} (e : h.get? b = some o) (n : H b = none) : (hidT h H).get? b = some o :=
  PySem.W.hideAll_get _ e fun hm => by
    have q : (H b).isSome = true := (List.mem_filter.mp hm).2
    rw [n] at q; simp at q
theorem of_hidT {h : Heap} {H : Hp} {b : Addr} {o : Obj} (e : (hidT h H).get? b = some o) : h.get? b = some o ∧ H b = none := by
  have e' : h.get? b = some o := PySem.W.of_hideAll (trk h H) e
  refine ⟨e', ?_⟩
  cases q : H b with
  | none => rfl
  | some x =>
    have hm : b ∈ trk h H := List.mem_filter.mpr ⟨List.mem_range.mpr (Heap.lt_size e'), by simp [q]⟩
    have z : (hidT h H).get? b = none := PySem.W.hideAll_none (trk h H) hm
    rw [z] at e; cases e
def allNews (g h : Heap) (L : Addr) : List (Addr × Obj) := (List.range h.objs.size).filterMap fun a => if a = L ∨ (g.get? a).isSome = true then none else (h.get? a).map fun o => (a, o)
def rest (g h : Heap) (L d : Addr) : List (Addr × Obj) := (allNews g h L).filter fun p => decide (p.1 ≠ d)
end L2
namespace L2
open PySem PySem.Spec PyProof.Rows
structure Mod (K : PySem.W.Frag) (mg : Str → Option Value) (base : Heap) : Prop where
  kin : K.In base
  glob : base.Ns mainGlobals mg
  blt : ∃ mb, base.Ns builtinsNs mb ∧ ∀ x : Str, x ≠ "__name__" → mb x = bootBuiltins x
  nolimit : base.NoLimit
structure Cx where
  prog : Program
  w : World
  K : PySem.W.Frag
  mg : Str → Option Value
  base : Heap
  A : Around
  N : List Str
  s₀ : Shared
  H₀ : Hp
  env : Env
  outer : List Env
  stack : List Env
  ex : List Addr
  fn : Str → Bool
  calm : Bool
  pn : List (Addr × Obj)
  xe : Value → Shared → Prop
def frs (l : List Env) : List Addr := l.filterMap (·.frame)
abbrev Cx.fs (X : Cx) : List Addr := frs X.outer
def Vis (sc : Scope) (x : Str) : Prop := sc.names.lookup x = some .local ∨ sc.names.lookup x = some .cell ∨ sc.names.lookup x = some .free
def Loc (sc : Scope) (x : Str) : Prop := sc.names.lookup x = some .local ∨ sc.names.lookup x = some .cell
def Look (env : Env) (h : Heap) (m : Str → Option Value) (x : Str) (u : Value) : Prop :=
  (env.kindOf x = some .local ∧ m x = some u) ∨ ((env.kindOf x = some .cell ∨ env.kindOf x = some .free) ∧ ∃ c, env.cells.lookup x = some c ∧ h.IsCell c (some u))
structure Cx.Ok (X : Cx) : Prop where
  mod : Mod X.K X.mg X.base
  kind : X.env.scope.kind = .function
  glob : X.env.globals = mainGlobals
  blt : X.env.builtins = builtinsNs
  above : X.s₀.heap.objs.size ≤ X.env.locals
  inj : ∀ x y c, X.env.cells.lookup x = some c → X.env.cells.lookup y = some c → x = y
  has : ∀ x, (X.env.kindOf x = some .cell ∨ X.env.kindOf x = some .free) → ∃ c, X.env.cells.lookup x = some c
  cab : ∀ x c, X.fn x = true → X.env.cells.lookup x = some c → X.s₀.heap.objs.size ≤ c
  hd : X.calm = true → X.A.handled = none
  frames : X.A.frames = some X.stack
  stk : X.stack = X.outer ∨ (X.stack = X.env :: X.outer ∧ X.env.frame = some X.env.locals)
  exf : ∀ b ∈ X.ex, b ≠ X.env.locals ∧ ∀ x c, X.env.cells.lookup x = some c → c ≠ b
  bs : ∀ b o, X.base.get? b = some o → X.s₀.heap.get? b = some o ∧ X.H₀ b = none
  bsz : X.base.objs.size ≤ X.s₀.heap.objs.size
  noex : ∀ b o, X.base.get? b = some o → b ∉ X.ex
  exfs : ∀ b ∈ X.ex, b ∉ X.fs
  funs : X.s₀.heap.FunFrames X.base X.outer
  frf : ∀ b ∈ X.fs, X.H₀ b = none
structure Inv (X : Cx) (pins : List (Addr × Obj)) (σ : List (Option V)) (H : Hp) (s : Shared) : Prop where
  ok : X.Ok
  os : s.os = X.s₀.os
  bare : AllBare s.gens
  base : Un X.fs X.ex X.H₀ H X.s₀.heap s.heap
  loc : ∃ m, s.heap.Ns X.env.locals m ∧ ∀ (i : Nat) (x : Str) (v : V), X.N[i]? = some x → σ[i]? = some (some v) → Vis X.env.scope x → ∃ u, RelV v u ∧ Look X.env s.heap m x u
  cell : ∀ x c, X.env.cells.lookup x = some c → ∃ v, s.heap.IsCell c v
  free : H X.env.locals = none
  freeC : ∀ x c, X.env.cells.lookup x = some c → H c = none
  pin : ∀ p ∈ X.pn ++ pins, s.heap.get? p.1 = some p.2 ∧ H p.1 = none ∧ p.1 ≠ X.env.locals ∧ p.1 ∉ X.fs ∧ ∀ v, p.2.data ≠ .cell v
  hok : HOk X.prog X.w H s.heap
  len : σ.length = X.N.length
section
variable {X : Cx} {pins : List (Addr × Obj)} {σ : List (Option V)} {H H' : Hp} {s : Shared} {h' : Heap}
theorem Cx.Ok.nofr (ok : X.Ok) {b : Addr} {o : Obj} (e : X.base.get? b = some o) : b ∉ X.fs := fun hb => by
  have := (ok.funs.mem hb).1
  rw [e] at this; cases this
theorem Inv.bs (I : Inv X pins σ H s) : ∀ b o, X.base.get? b = some o → s.heap.get? b = some o ∧ H b = none := fun b o e =>
  ⟨I.base.keep b o (I.ok.bs b o e).1 (I.ok.bs b o e).2 (I.ok.nofr e) (I.ok.noex b o e), I.base.free b o (I.ok.bs b o e).1 (I.ok.bs b o e).2 (I.ok.noex b o e)⟩
theorem Inv.bk (I : Inv X pins σ H s) : ∀ b o, X.base.get? b = some o → s.heap.get? b = some o := fun b o e => (I.bs b o e).1
theorem Inv.mod (I : Inv X pins σ H s) : Mod X.K X.mg X.base := I.ok.mod
theorem Inv.kIn (I : Inv X pins σ H s) : X.K.In s.heap := I.ok.mod.kin.keeps I.bk
theorem Inv.nolimit (I : Inv X pins σ H s) : s.heap.NoLimit := I.ok.mod.nolimit.keeps I.bk
theorem Inv.fr (I : Inv X pins σ H s) : ∃ m, Fr X.base X.env.locals s.heap m :=
  let ⟨m, hn, _⟩ := I.loc
  ⟨m, hn, I.bk, Nat.le_trans I.ok.bsz I.ok.above⟩
theorem Inv.lt (I : Inv X pins σ H s) : X.env.locals < s.heap.objs.size := let ⟨_, hn, _⟩ := I.loc; hn.lt
theorem Inv.sz (I : Inv X pins σ H s) : X.s₀.heap.objs.size ≤ s.heap.objs.size := Nat.le_trans I.ok.above (Nat.le_of_lt I.lt)
theorem Inv.nofs (I : Inv X pins σ H s) {a : Addr} (h : s.heap.objs.size ≤ a) : a ∉ X.fs := fun hb => by
  obtain ⟨_, o, ho, _⟩ := I.ok.funs.mem hb
  exact absurd (Nat.lt_of_lt_of_le (Heap.lt_size ho) (Nat.le_trans I.sz h)) (Nat.lt_irrefl _)
theorem Inv.cne (I : Inv X pins σ H s) : ∀ x c, X.env.cells.lookup x = some c → c ≠ X.env.locals := fun x c e z => by
  obtain ⟨v, o, ho, hd⟩ := I.cell x c e
  obtain ⟨m, ⟨o', es, ep, ho', hd', _⟩, _⟩ := I.loc
  rw [z, ho'] at ho; cases ho; rw [hd'] at hd; cases hd
theorem Inv.funs (I : Inv X pins σ H s) : s.heap.FunFrames X.base X.outer := by
  have all : ∀ (l : List Env), (∀ b ∈ frs l, b ∈ X.fs) → X.s₀.heap.FunFrames X.base l → s.heap.FunFrames X.base l := by
    intro l
    induction l with
    | nil => intro _ _; trivial
    | cons env r ih =>
      intro hs hl
      obtain ⟨hk, ⟨L, o, hf, hn, ho, hd⟩, hr⟩ := hl
      have hL : L ∈ X.fs := hs L (by unfold frs; rw [List.filterMap_cons, hf]; exact List.mem_cons_self)
      obtain ⟨sl, e⟩ := I.base.slot L o ho (I.ok.frf L hL) hL fun z => I.ok.exfs L z hL
      exact ⟨hk, ⟨L, _, hf, hn, e, hd⟩, ih (fun b hb => hs b (by unfold frs; rw [List.filterMap_cons, hf]; exact List.mem_cons_of_mem _ hb)) hr⟩
  exact all X.outer (fun _ hb => hb) I.ok.funs
theorem Inv.stack (I : Inv X pins σ H s) : s.heap.FunFrames X.base X.stack := by
  rcases I.ok.stk with e | ⟨e, hf⟩
  · rw [e]; exact I.funs
  · rw [e]
    obtain ⟨m, hn, _⟩ := I.loc
    refine .cons (by rw [I.ok.kind]; decide) hf hn ?_ I.funs
    exact Heap.get?_none_of_le (Nat.le_trans I.ok.bsz I.ok.above)
theorem Inv.stkSub (I : Inv X pins σ H s) : ∀ b ∈ frs X.stack, b ∈ X.env.locals :: X.fs := fun b hb => by
  rcases I.ok.stk with e | ⟨e, hf⟩
  · rw [e] at hb; exact List.mem_cons_of_mem _ hb
  · rw [e] at hb
    unfold frs at hb
    rw [List.filterMap_cons, hf] at hb
    exact hb
theorem Inv.stkFree (I : Inv X pins σ H s) : ∀ b ∈ frs X.stack, H b = none := fun b hb => by
  rcases List.mem_cons.mp (I.stkSub b hb) with e | hb
  · rw [e]; exact I.free
  · obtain ⟨_, o, ho, _⟩ := I.ok.funs.mem hb
    exact I.base.free b o ho (I.ok.frf b hb) fun z => I.ok.exfs b z hb
theorem Inv.step {g' : Array GenState} {t' : Nat} {d' : Drawn} {ch : List Addr} (I : Inv X pins σ H s)
    (hch : ∀ b ∈ ch, (b ∈ X.ex ∨ X.s₀.heap.objs.size ≤ b) ∧ b ≠ X.env.locals ∧ (∀ x c, X.env.cells.lookup x = some c → c ≠ b) ∧ ∀ p ∈ X.pn ++ pins, p.1 ≠ b)
    (keep : ∀ b o, b ≠ X.env.locals → b ∉ X.fs → b ∉ ch → s.heap.get? b = some o → H b = none → h'.get? b = some o)
    (slot : ∀ b o, b ≠ X.env.locals → b ∈ X.fs → b ∉ ch → s.heap.get? b = some o → H b = none → ∃ sl, h'.get? b = some { o with slots := sl }) (free : ∀ b o, b ∉ ch → s.heap.get? b = some o → H b = none → H' b = none)
    (there : ∀ b o, b ∉ ch → s.heap.get? b = some o → ∃ o', h'.get? b = some o')
    (tups : ∀ b xs, H b = some (.tup xs) → H' b = some (.tup xs)) (frzs : ∀ b o u, H b = some (.frz o u) → H' b = some (.frz o u)) (tbls : ∀ b ps, H b = some (.tbl ps) → ∃ more, H' b = some (.tbl (ps ++ more)))
    (ns : ∀ m, s.heap.Ns X.env.locals m → h'.Ns X.env.locals m) (hok : HOk X.prog X.w H' h') (hg : AllBare g') :
    Inv X pins σ H' { s with heap := h', gens := g', drawn := d', toks := t' } := by
  have neL : ∀ b o, X.s₀.heap.get? b = some o → b ≠ X.env.locals := fun b o e => Nat.ne_of_lt (Nat.lt_of_lt_of_le (Heap.lt_size e) I.ok.above)
  have neC : ∀ b o, X.s₀.heap.get? b = some o → b ∉ X.ex → b ∉ ch := fun b o e hx hb => by
    rcases (hch b hb).1 with z | z
    · exact hx z
    · exact absurd (Nat.lt_of_lt_of_le (Heap.lt_size e) z) (Nat.lt_irrefl _)
  have cellK : ∀ x c, X.env.cells.lookup x = some c → ∀ v, s.heap.IsCell c v → h'.IsCell c v := fun x c e v ⟨o, ho, hd⟩ => by
    have nch : c ∉ ch := fun z => (hch c z).2.2.1 x c e rfl
    by_cases hc : c ∈ X.fs
    · obtain ⟨sl, q⟩ := slot c o (I.cne x c e) hc nch ho (I.freeC x c e)
      exact ⟨_, q, hd⟩
    · exact ⟨o, keep c o (I.cne x c e) hc nch ho (I.freeC x c e), hd⟩
  refine ⟨I.ok, I.os, hg, ⟨fun b o e n hb hx => ?_, fun b o e n hb hx => ?_, fun b o e n hx => ?_, fun b o e hx => ?_, fun b xs e => tups b xs (I.base.tups b xs e), fun b o xs e => frzs b o xs (I.base.frzs b o xs e), fun b ps e => ?_⟩, ?_, fun x c e => ?_, ?_, fun x c e => ?_, fun p hp => ?_, hok, I.len⟩
  · exact keep b o (neL b o e) hb (neC b o e hx) (I.base.keep b o e n hb hx) (I.base.free b o e n hx)
  · obtain ⟨sl, e1⟩ := I.base.slot b o e n hb hx
    obtain ⟨sl', e2⟩ := slot b _ (neL b o e) hb (neC b o e hx) e1 (I.base.free b o e n hx)
    exact ⟨sl', e2⟩
  · obtain ⟨o', e1⟩ := I.base.there b o e hx
    exact free b o' (neC b o e hx) e1 (I.base.free b o e n hx)
  · obtain ⟨o', e1⟩ := I.base.there b o e hx
    exact there b o' (neC b o e hx) e1
  · obtain ⟨m1, e1⟩ := I.base.tbls b ps e
    obtain ⟨m2, e2⟩ := tbls b _ e1
    exact ⟨m1 ++ m2, by rw [e2, Array.append_assoc]⟩
  · obtain ⟨m, hn, hl⟩ := I.loc
    refine ⟨m, ns m hn, fun i x v e1 e2 e3 => ?_⟩
    obtain ⟨u, r, l⟩ := hl i x v e1 e2 e3
    refine ⟨u, r, ?_⟩
    rcases l with l | ⟨k, c, e, z⟩
    · exact .inl l
    · exact .inr ⟨k, c, e, cellK x c e _ z⟩
  · obtain ⟨v, z⟩ := I.cell x c e
    exact ⟨v, cellK x c e v z⟩
  · obtain ⟨m, ⟨o, _, _, ho, _⟩, _⟩ := I.loc
    exact free _ o (fun z => (hch _ z).2.1 rfl) ho I.free
  · obtain ⟨v, o, ho, hd⟩ := I.cell x c e
    exact free c o (fun z => (hch c z).2.2.1 x c e rfl) ho (I.freeC x c e)
  · obtain ⟨e, n, ne, nf, d⟩ := I.pin p hp
    have nch : p.1 ∉ ch := fun z => (hch p.1 z).2.2.2 p hp rfl
    exact ⟨keep p.1 p.2 ne nf nch e n, free p.1 p.2 nch e n, ne, nf, d⟩
theorem Inv.un {t' : Nat} (I : Inv X pins σ H s) (u : Un X.fs [] H H' s.heap h') (hok : HOk X.prog X.w H' h') : Inv X pins σ H' { s with heap := h', toks := t' } := by
  obtain ⟨m, ⟨o, es, ep, ho, r⟩, _⟩ := id I.loc
  obtain ⟨sl, hL⟩ := u.any ho I.free (by simp)
  exact I.step (g' := s.gens) (d' := s.drawn) (ch := []) (fun _ z => nomatch z) (fun b o _ hb _ e n => u.keep b o e n hb (by simp)) (fun b o _ hb _ e n => u.slot b o e n hb (by simp)) (fun b o _ e n => u.free b o e n (by simp)) (fun b o _ e => u.there b o e (by simp)) u.tups u.frzs u.tbls (fun m' hm => by
    obtain ⟨o', es', ep', ho', r'⟩ := hm
    rw [ho] at ho'; cases ho'
    exact ⟨_, es', ep', hL, r'⟩) hok I.bare
theorem Inv.call {g' : Array GenState} {t' : Nat} {d' : Drawn} {ch : List Addr} (I : Inv X pins σ H s) (u : Un (frs X.stack) ch H H' s.heap h') (hok : HOk X.prog X.w H' h') (hg : AllBare g')
    (hch : ∀ b ∈ ch, (b ∈ X.ex ∨ X.s₀.heap.objs.size ≤ b) ∧ b ≠ X.env.locals ∧ (∀ x c, X.env.cells.lookup x = some c → c ≠ b) ∧ ∀ p ∈ X.pn ++ pins, p.1 ≠ b) :
    Inv X pins σ H' { s with heap := h', gens := g', drawn := d', toks := t' } := by
  obtain ⟨m, ⟨o, es, ep, ho, r⟩, _⟩ := id I.loc
  obtain ⟨sl, hL⟩ := u.any ho I.free fun z => (hch _ z).2.1 rfl
  exact I.step (ch := ch) hch (fun b o hL hb hc e n => u.keep b o e n (fun z => (List.mem_cons.mp (I.stkSub b z)).elim hL hb) hc) (fun b o _ _ hc e n => u.any e n hc) (fun b o hc e n => u.free b o e n hc) (fun b o hc e => u.there b o e hc) u.tups u.frzs u.tbls (fun m' hm => by
    obtain ⟨o', es', ep', ho', r'⟩ := hm
    rw [ho] at ho'; cases ho'
    exact ⟨_, es', ep', hL, r'⟩) hok hg
theorem Inv.turned {t' : Nat} {it : Addr} (I : Inv X pins σ H s) (k : ∀ b o, b ≠ it → s.heap.get? b = some o → h'.get? b = some o) (hn : H it = none) (hL : it ≠ X.env.locals)
    (h1 : it ∈ X.ex ∨ X.s₀.heap.objs.size ≤ it) (h2 : ∀ x c, X.env.cells.lookup x = some c → c ≠ it) (h3 : ∀ p ∈ X.pn ++ pins, p.1 ≠ it) : Inv X pins σ H { s with heap := h', toks := t' } := by
  have nit : ∀ b u, H b = some u → b ≠ it := fun b u e z => by rw [z, hn] at e; cases e
  refine I.step (g' := s.gens) (d' := s.drawn) (ch := [it]) (fun b hb => ?_) (fun b o _ _ hc e _ => k b o (fun z => hc (by simp [z])) e) (fun b o _ _ hc e _ => ⟨o.slots, k b o (fun z => hc (by simp [z])) e⟩) (fun _ _ _ _ n => n)
    (fun b o hc e => ⟨o, k b o (fun z => hc (by simp [z])) e⟩) (fun _ _ e => e) (fun _ _ _ e => e) (fun b ps e => ⟨#[], by rw [e]; simp⟩) (fun m hm => ?_) (fun b u e => ?_) I.bare
  · have e : b = it := by simpa using hb
    subst e
    exact ⟨h1, hL, h2, h3⟩
  · obtain ⟨o, es, ep, ho, r⟩ := hm
    exact ⟨o, es, ep, k _ o (Ne.symm hL) ho, r⟩
  · refine (I.hok b u e).stay (fun c v hc q => k c v ?_ q) (fun _ q => q) fun _ _ q => q
    rcases hc with z | z
    · rw [z]; exact nit b u e
    · exact nit c _ z
theorem Inv.tok (I : Inv X pins σ H s) (t : Nat) : Inv X pins σ H { s with toks := t } := I.un (h' := s.heap) (t' := t) Un.refl I.hok
theorem Inv.kept {t' : Nat} (I : Inv X pins σ H s) (k : ∀ b u, s.heap.get? b = some u → h'.get? b = some u) : Inv X pins σ H { s with heap := h', toks := t' } := I.un (Un.kept k) (I.hok.kept k)
theorem Inv.laid {a : Addr} {o : HO} {t' : Nat} (I : Inv X pins σ H s) (k : ∀ b u, s.heap.get? b = some u → h'.get? b = some u) (hp : s.heap.objs.size ≤ a) (new : ObjOk X.prog X.w (upd H a o) h' a o) :
    Inv X pins σ (upd H a o) { s with heap := h', toks := t' } := I.un (Un.laid k hp (I.hok.fresh hp)) (I.hok.laid k hp new)
theorem Inv.write {x e : Addr} {o : HO} {t' : Nat} (I : Inv X pins σ H s) (mu : Mut (H x)) (he : e = x ∨ H e = some (.own x)) (k : ∀ b u, b ≠ e → s.heap.get? b = some u → h'.get? b = some u) (heo : ∃ u, h'.get? e = some u)
    (new : ObjOk X.prog X.w (upd H x o) h' x o) : Inv X pins σ (upd H x o) { s with heap := h', toks := t' } := I.un (Un.write mu he k heo) (I.hok.write mu he k heo new)
theorem Inv.weak {σ' : List (Option V)} (I : Inv X pins σ H s) (hl : σ'.length = σ.length) (w : ∀ (i : Nat) v, σ'[i]? = some (some v) → σ[i]? = some (some v)) : Inv X pins σ' H s :=
  ⟨I.ok, I.os, I.bare, I.base, let ⟨m, hn, hl'⟩ := I.loc; ⟨m, hn, fun i x v e1 e2 e3 => hl' i x v e1 (w i v e2) e3⟩, I.cell, I.free, I.freeC, I.pin, I.hok, hl.trans I.len⟩
theorem Inv.pins_of {pins' : List (Addr × Obj)} (I : Inv X pins σ H s) (h : ∀ p ∈ pins', s.heap.get? p.1 = some p.2 ∧ H p.1 = none ∧ p.1 ≠ X.env.locals ∧ p.1 ∉ X.fs ∧ ∀ v, p.2.data ≠ .cell v) : Inv X pins' σ H s :=
  ⟨I.ok, I.os, I.bare, I.base, I.loc, I.cell, I.free, I.freeC, fun p hp => (List.mem_append.mp hp).elim (fun z => I.pin p (List.mem_append_left _ z)) (h p), I.hok, I.len⟩
theorem nodup_ix {N : List Str} (hN : N.Nodup) {i j : Nat} {x : Str} (a : N[i]? = some x) (b : N[j]? = some x) : i = j := by
  obtain ⟨h1, e1⟩ := List.getElem?_eq_some_iff.mp a
  obtain ⟨h2, e2⟩ := List.getElem?_eq_some_iff.mp b
  exact (List.getElem_inj hN).mp (e1.trans e2.symm)
theorem store_ok2 {M : Model} {A : Around} {E : Value → Shared → Prop} {i : Nat} {x : Str} {v : V} {u : Value} {Q : Unit → Shared → Prop} (I : Inv X pins σ H s) (hN : X.N.Nodup) (hi : X.N[i]? = some x) (hx : Loc X.env.scope x) (r : RelV v u)
    (h : ∀ s', Inv X pins (σ.set i (some v)) H s' → (∃ a, Heap.SameBut a s.heap s'.heap ∧ (a = X.env.locals ∨ X.env.cells.lookup x = some a)) → Q () s') (hf : X.fn x = true ∨ X.env.scope.names.lookup x = some .local := by first | exact .inl rfl | exact .inr rfl | assumption) : wpAny M A (storeName X.env x u) Q E s := by
  obtain ⟨m, hn, hl⟩ := id I.loc
  have hcls : (X.env.scope.kind == .class || (X.env.scope.kind == .module && X.env.locals != X.env.globals)) = false := by rw [I.ok.kind]; rfl
  have hiσ : i < σ.length := by rw [I.len]; exact (List.getElem?_eq_some_iff.mp hi).1
  have cne := I.cne
  have tracked : ∀ {a : Addr} {h' : Heap}, (∃ o, s.heap.get? a = some o ∧ H a = none) → Heap.SameBut a s.heap h' → HOk X.prog X.w H h' := fun {a h'} ha hs b ob e => by
    obtain ⟨_, _, hfree⟩ := ha
    refine (I.hok b ob e).stay (fun c w' hc q => (hs.2 c ?_).trans q) (fun _ q => q) fun _ _ q => q
    rintro rfl
    rcases hc with rfl | hc
    · rw [hfree] at e; cases e
    · rw [hfree] at hc; cases hc
  rcases hx with hk | hk
  · refine wpAny_storeName_local hk hn (fun h' hn' hs => ?_) hcls
    obtain ⟨oL, _, _, hoL, _⟩ := id hn
    refine h _ ⟨I.ok, I.os, I.bare, ⟨fun b o e n hb hx => ?_, fun b o e n hb hx => ?_, I.base.free, fun b o e hx => ?_, I.base.tups, I.base.frzs, I.base.tbls⟩, ⟨_, hn', fun j y v' e1 e2 e3 => ?_⟩, fun y c e => ?_, I.free, I.freeC, fun p hp => ?_, tracked ⟨oL, hoL, I.free⟩ hs, by simpa using I.len⟩ ⟨_, hs, .inl rfl⟩
    · exact (hs.2 b (Nat.ne_of_lt (Nat.lt_of_lt_of_le (Heap.lt_size e) I.ok.above))).trans (I.base.keep b o e n hb hx)
    · obtain ⟨sl, e1⟩ := I.base.slot b o e n hb hx
      exact ⟨sl, (hs.2 b (Nat.ne_of_lt (Nat.lt_of_lt_of_le (Heap.lt_size e) I.ok.above))).trans e1⟩
    · obtain ⟨o', e1⟩ := I.base.there b o e hx
      exact ⟨o', (hs.2 b (Nat.ne_of_lt (Nat.lt_of_lt_of_le (Heap.lt_size e) I.ok.above))).trans e1⟩
    · by_cases hj : j = i
      · subst hj
        rw [hi] at e1; cases e1
        rw [List.getElem?_set_self hiσ] at e2
        cases e2
        exact ⟨u, r, .inl ⟨hk, by simp⟩⟩
      · rw [List.getElem?_set_ne (Ne.symm hj)] at e2
        obtain ⟨u', r', q⟩ := hl j y v' e1 e2 e3
        refine ⟨u', r', ?_⟩
        rcases q with ⟨k, e⟩ | ⟨k, c, e, z⟩
        · refine .inl ⟨k, ?_⟩
          have : y ≠ x := fun e => hj (nodup_ix hN e1 (e ▸ hi))
          simp [this, e]
        · exact .inr ⟨k, c, e, z.sameBut hs (cne y c e)⟩
    · obtain ⟨w', z⟩ := I.cell y c e
      exact ⟨w', z.sameBut hs (cne y c e)⟩
    · obtain ⟨e, n, ne, nf, d⟩ := I.pin p hp
      exact ⟨(hs.2 p.1 ne).trans e, n, ne, nf, d⟩
  · have hfn : X.fn x = true := by
      rcases hf with z | z
      · exact z
      · rw [z] at hk; cases hk
    obtain ⟨c, hc⟩ := I.ok.has x (.inl hk)
    obtain ⟨w', z⟩ := I.cell x c hc
    refine wpAny_storeName_cell I.ok.kind hk hc z (fun h' hc' hs => ?_)
    obtain ⟨oc, hoc, hocd⟩ := id z
    refine h { s with heap := h' } ⟨I.ok, I.os, I.bare, ⟨fun b o e n hb hx => ?_, fun b o e n hb hx => ?_, I.base.free, fun b o e hx => ?_, I.base.tups, I.base.frzs, I.base.tbls⟩, ⟨m, hn.sameBut hs (Ne.symm (cne x c hc)), fun j y v' e1 e2 e3 => ?_⟩, fun y c' e => ?_, I.free, I.freeC, fun p hp => ?_, tracked ⟨oc, hoc, I.freeC x c hc⟩ hs, by simpa using I.len⟩ ⟨c, hs, .inr hc⟩
    · exact (hs.2 b (Nat.ne_of_lt (Nat.lt_of_lt_of_le (Heap.lt_size e) (I.ok.cab x c hfn hc)))).trans (I.base.keep b o e n hb hx)
    · obtain ⟨sl, e1⟩ := I.base.slot b o e n hb hx
      exact ⟨sl, (hs.2 b (Nat.ne_of_lt (Nat.lt_of_lt_of_le (Heap.lt_size e) (I.ok.cab x c hfn hc)))).trans e1⟩
    · obtain ⟨o', e1⟩ := I.base.there b o e hx
      exact ⟨o', (hs.2 b (Nat.ne_of_lt (Nat.lt_of_lt_of_le (Heap.lt_size e) (I.ok.cab x c hfn hc)))).trans e1⟩
    · by_cases hj : j = i
      · subst hj
        rw [hi] at e1; cases e1
        rw [List.getElem?_set_self hiσ] at e2
        cases e2
        exact ⟨u, r, .inr ⟨.inl hk, c, hc, hc'⟩⟩
      · rw [List.getElem?_set_ne (Ne.symm hj)] at e2
        obtain ⟨u', r', q⟩ := hl j y v' e1 e2 e3
        refine ⟨u', r', ?_⟩
        rcases q with q | ⟨k, c', e, z'⟩
        · exact .inl q
        · refine .inr ⟨k, c', e, z'.sameBut hs ?_⟩
          rintro rfl
          exact hj (nodup_ix hN e1 (I.ok.inj _ _ _ e hc ▸ hi))
    · by_cases hcc : c' = c
      · subst hcc; exact ⟨_, hc'⟩
      · obtain ⟨w2, z2⟩ := I.cell y c' e
        exact ⟨w2, z2.sameBut hs hcc⟩
    · obtain ⟨e, n, ne, nf, d⟩ := I.pin p hp
      refine ⟨(hs.2 p.1 ?_).trans e, n, ne, nf, d⟩
      intro q
      rw [q, hoc] at e
      have q' : oc = p.2 := Option.some.inj e
      exact d w' (by rw [← q']; exact hocd)
theorem store_ok {M : Model} {A : Around} {E : Value → Shared → Prop} {i : Nat} {x : Str} {v : V} {u : Value} {Q : Unit → Shared → Prop} (I : Inv X pins σ H s) (hN : X.N.Nodup) (hi : X.N[i]? = some x) (hx : Loc X.env.scope x) (r : RelV v u)
    (h : ∀ s', Inv X pins (σ.set i (some v)) H s' → Q () s') (hf : X.fn x = true ∨ X.env.scope.names.lookup x = some .local := by first | exact .inl rfl | exact .inr rfl | assumption) : wpAny M A (storeName X.env x u) Q E s :=
  store_ok2 I hN hi hx r (fun s' I' _ => h s' I') hf
theorem Inv.call' {s' : Shared} {ch : List Addr} (I : Inv X pins σ H s) (ho : s'.os = s.os) (u : Un (frs X.stack) ch H H' s.heap s'.heap) (hok : HOk X.prog X.w H' s'.heap) (hg : AllBare s'.gens)
    (hch : ∀ b ∈ ch, (b ∈ X.ex ∨ X.s₀.heap.objs.size ≤ b) ∧ b ≠ X.env.locals ∧ (∀ x c, X.env.cells.lookup x = some c → c ≠ b) ∧ ∀ p ∈ X.pn ++ pins, p.1 ≠ b) : Inv X pins σ H' s' := by
  obtain ⟨h', g', d', t', o'⟩ := s'
  have e : o' = s.os := ho
  subst e
  exact I.call (g' := g') (t' := t') (d' := d') u hok hg hch
end
abbrev XK := Value → Option Addr → Hp → Prop
abbrev St := List (Option V)
abbrev VK := V → Hp → Prop
abbrev TE := St → Hp → VK → Prop
abbrev TT := St → Hp → (Bool → Hp → Prop) → Prop
abbrev TA := St → Hp → (List V → Hp → Prop) → Prop
structure Ends where
  nx : St → Hp → Prop
  rt : VK
  bk : St → Hp → Prop := fun _ _ => False
  ct : St → Hp → Prop := fun _ _ => False
abbrev TS := Ends → St → Hp → Prop
def EP (X : Cx) (pins : List (Addr × Obj)) (σ : St) (Q : VK) (u : Value) (s' : Shared) : Prop := ∃ v H', Inv X pins σ H' s' ∧ RelV v u ∧ Q v H'
def TP (X : Cx) (pins : List (Addr × Obj)) (σ : St) (Q : Bool → Hp → Prop) (b : Bool) (s' : Shared) : Prop := ∃ H', Inv X pins σ H' s' ∧ Q b H'
def AP (X : Cx) (pins : List (Addr × Obj)) (σ : St) (Q : List V → Hp → Prop) (us : List Value) (s' : Shared) : Prop := ∃ vs H', Inv X pins σ H' s' ∧ Vals vs us ∧ Q vs H'
def SP (X : Cx) (pins : List (Addr × Obj)) (D : Ends) (f : Flow) (s' : Shared) : Prop :=
  match f with
  | .next => ∃ σ' H', Inv X pins σ' H' s' ∧ D.nx σ' H'
  | .brk => ∃ σ' H', Inv X pins σ' H' s' ∧ D.bk σ' H'
  | .cont => ∃ σ' H', Inv X pins σ' H' s' ∧ D.ct σ' H'
  | .ret u => ∃ v σ' H', Inv X pins σ' H' s' ∧ RelV v u ∧ D.rt v H'
def PE (X : Cx) (e : Expr) (t : TE) : Prop :=
  ∀ (pins : List (Addr × Obj)) (s : Shared) (σ : St) (H : Hp) (Q : VK), Inv X pins σ H s → t σ H Q → wpAny (model X.prog X.w) X.A (eval e X.env) (EP X pins σ Q) X.xe s
def PT (X : Cx) (e : Expr) (t : TT) : Prop :=
  ∀ (pins : List (Addr × Obj)) (s : Shared) (σ : St) (H : Hp) (Q : Bool → Hp → Prop), Inv X pins σ H s → t σ H Q → wpAny (model X.prog X.w) X.A (isTrue e X.env (eval e X.env)) (TP X pins σ Q) X.xe s
def PW (X : Cx) (e : Expr) (t : TT) : Prop :=
  ∀ (whole : Sem Value) (pins : List (Addr × Obj)) (s : Shared) (σ : St) (H : Hp) (Q : Bool → Hp → Prop), Inv X pins σ H s → t σ H Q → wpAny (model X.prog X.w) X.A (isTrue e X.env whole) (TP X pins σ Q) X.xe s
theorem PW.pt {X : Cx} {e : Expr} {t : TT} (h : PW X e t) : PT X e t := h _
def PA (X : Cx) (es : List Expr) (t : TA) : Prop :=
  ∀ (pos : Pos) (pins : List (Addr × Obj)) (s : Shared) (σ : St) (H : Hp) (Q : List V → Hp → Prop), Inv X pins σ H s → t σ H Q → wpAny (model X.prog X.w) X.A (spliced (backTo pos (starEach es X.env))) (AP X pins σ Q) X.xe s
def PS (X : Cx) (st : Stmt) (t : TS) : Prop :=
  ∀ (pins : List (Addr × Obj)) (s : Shared) (σ : St) (H : Hp) (D : Ends), Inv X pins σ H s → t D σ H → wpAny (model X.prog X.w) X.A (exec st X.env) (SP X pins D) X.xe s
def PSs (X : Cx) (st : List Stmt) (t : TS) : Prop :=
  ∀ (pins : List (Addr × Obj)) (s : Shared) (σ : St) (H : Hp) (D : Ends), Inv X pins σ H s → t D σ H → wpAny (model X.prog X.w) X.A (execs st X.env) (SP X pins D) X.xe s
theorem thn {α : Type} {t : Sem α} {Q Q' : α → Shared → Prop} {M : Model} {A : Around} {E : Value → Shared → Prop} {s : Shared} (h : wpAny M A t Q E s) (hQ : ∀ a s, Q a s → Q' a s) : wpAny M A t Q' E s := wpAny_mono h hQ fun _ _ x => x
end L2
namespace L2
open PySem PySem.Spec PyProof.Rows
section
variable {X : Cx}
def tVar (i : Nat) : TE := fun σ H Q => ∃ v, σ[i]? = some (some v) ∧ Q v H
def tC (v : V) : TE := fun _ H Q => Q v H
theorem pe_var {i : Nat} {x : Str} {pos : Pos} (hN : X.N[i]? = some x) (hv : Vis X.env.scope x) (hd : (x == ("__debug__" : Str)) = false := by decide) (hcd : (x == ("__classdict__" : Str)) = false := by decide) : PE X (.Name x pos) (tVar i) := by
  intro pins s σ H Q I h
  obtain ⟨v, e, h⟩ := h
  obtain ⟨m, hn, hl⟩ := I.loc
  obtain ⟨u, r, l⟩ := hl i x v hN e hv
  have fin : EP X pins σ Q u s := ⟨v, H, I, r, h⟩
  rcases l with ⟨hk, hm⟩ | ⟨hk, c, hc, hcell⟩
  · exact wpAny_Name (wpAny_loadName_local I.ok.kind hk hn hm fin) hd
  · rcases hk with hk | hk
    · exact wpAny_Name (wpAny_loadName_cell I.ok.kind hk hc hcell fin) hd
    · exact wpAny_Name (wpAny_loadName_free I.ok.kind hk hc hcell fin hcd) hd
theorem pe_int {i j pos} : PE X (.Constant (.int i) j pos) (tC (.int i)) := fun _ _ _ H _ I h => wpAny_Constant_int ⟨.int i, H, I.tok _, ⟨_, rfl⟩, h⟩
theorem pe_bl {b j pos} : PE X (.Constant (.bool b) j pos) (tC (.bl b)) := fun _ _ _ H _ I h => Constant_bool ⟨.bl b, H, I, rfl, h⟩
theorem pe_non {j pos} : PE X (.Constant .none j pos) (tC .non) := fun _ _ _ H _ I h => Constant_none ⟨.non, H, I, rfl, h⟩
theorem pe_str {x j pos} : PE X (.Constant (.str x) j pos) (tC (.str x)) := fun _ _ _ H _ I h => Calls.Constant_str ⟨.str x, H, I.tok _, ⟨_, rfl⟩, h⟩
def Gl (X : Cx) (x : Str) : Prop := X.env.kindOf x = some .globalImplicit
theorem ld_glob {E : Value → Shared → Prop} {pins : List (Addr × Obj)} {s : Shared} {σ : St} {H : Hp} {x : Str} {u : Value} {pos : Pos} {Q : Value → Shared → Prop} (I : Inv X pins σ H s) (hg : Gl X x) (hm : X.mg x = some u) (h : Q u s)
    (hd : (x == ("__debug__" : Str)) = false := by decide) : wpAny (model X.prog X.w) X.A (eval (.Name x pos) X.env) Q E s :=
  Calls.Name_function_global I.ok.kind hg (Calls.loadGlobal_global (by rw [I.ok.glob]; exact I.mod.glob.keeps I.bk) hm h) hd
theorem ld_blt {E : Value → Shared → Prop} {pins : List (Addr × Obj)} {s : Shared} {σ : St} {H : Hp} {x : Str} {u : Value} {pos : Pos} {Q : Value → Shared → Prop} (I : Inv X pins σ H s) (hg : Gl X x) (hm : X.mg x = none) (hv : bootBuiltins x = some u) (h : Q u s)
    (hn : x ≠ "__name__" := by decide) (hd : (x == ("__debug__" : Str)) = false := by decide) : wpAny (model X.prog X.w) X.A (eval (.Name x pos) X.env) Q E s := by
  obtain ⟨mb, h1, h2⟩ := I.mod.blt
  exact Calls.Name_function_global I.ok.kind hg (Calls.loadGlobal_builtin (by rw [I.ok.glob]; exact I.mod.glob.keeps I.bk) hm (by rw [I.ok.blt]; exact h1.keeps I.bk) ((h2 x hn).trans hv) h) hd
theorem pe_glob {x : Str} {v : V} {u : Value} {pos : Pos} (hg : Gl X x) (hm : X.mg x = some u) (r : RelV v u) (hd : (x == ("__debug__" : Str)) = false := by decide) : PE X (.Name x pos) (tC v) :=
  fun _ _ _ H _ I h => ld_glob I hg hm ⟨v, H, I, r, h⟩ hd
theorem pe_bltn {x : Str} {v : V} {u : Value} {pos : Pos} (hg : Gl X x) (hm : X.mg x = none) (hv : bootBuiltins x = some u) (r : RelV v u) (hn : x ≠ "__name__" := by decide) (hd : (x == ("__debug__" : Str)) = false := by decide) : PE X (.Name x pos) (tC v) :=
  fun _ _ _ H _ I h => ld_blt I hg hm hv ⟨v, H, I, r, h⟩ hn hd
variable {a b : Expr} {ta tb : TE} {pos : Pos}
def PC (X : Cx) (op : CmpOp) (a b : Expr) (t : TE) : Prop :=
  ∀ (pins : List (Addr × Obj)) (s : Shared) (σ : St) (H : Hp) (Q : VK), Inv X pins σ H s → t σ H Q →
    wpAny (model X.prog X.w) X.A (eval a X.env) (fun v s₁ => wpAny (model X.prog X.w) X.A (eval b X.env) (fun u s₂ => wpAny (model X.prog X.w) X.A (compareOp op v u) (EP X pins σ Q) X.xe s₂) X.xe s₁) X.xe s
theorem nobehind (b : Expr) {op : CmpOp} (h : op ≠ .In) (h2 : op ≠ .NotIn) : behindInMarks op b = false := by
  have e1 : (op == CmpOp.In) = false := by cases op <;> first | rfl | exact absurd rfl h
  have e2 : (op == CmpOp.NotIn) = false := by cases op <;> first | rfl | exact absurd rfl h2
  cases b <;> simp [behindInMarks, e1, e2]
def tB (t : TE) : TT := fun σ H Q => t σ H fun x H1 => ∃ c, x = .bl c ∧ Q c H1
theorem pt_cmp {op : CmpOp} {t : TE} (h : PC X op a b t) (h1 : behindInMarks op b = false := by first | exact nobehind _ (by decide) (by decide) | rfl) : PT X (.Compare a [op] [b] pos) (tB t) := by
  intro pins s σ H Q I hw
  refine wpAny_isTrue_Compare1 (thn (h pins s σ H _ I hw) fun v s1 h1 => thn h1 fun u s2 h2 => thn h2 fun c s3 ⟨x, H1, I1, r1, q1⟩ => ?_) h1
  obtain ⟨d, rfl, q⟩ := q1
  cases r1
  exact wpAny_truthy_bool ⟨H1, I1, q⟩
theorem pt_val {e : Expr} {t : TE} (h : PE X e t) (he : ∀ whole, isTrue e X.env whole = (do let v ← whole; standAt e.pos; holding [v] (truthy v)) := by intro _; rfl) : PT X e (tB t) := by
  intro pins s σ H Q I hw
  refine isTrue_plain (thn (h pins s σ H _ I hw) fun v s1 ⟨x, H1, I1, r1, q1⟩ => ?_) (he _)
  obtain ⟨d, rfl, q⟩ := q1
  cases r1
  exact wpAny_truthy_bool ⟨H1, I1, q⟩
variable {tA tB' : TT} {rest : List Expr}
def tAnd (t u : TT) : TT := fun σ H Q => t σ H fun c H1 => if c = true then u σ H1 Q else Q false H1
def tOr (t u : TT) : TT := fun σ H Q => t σ H fun c H1 => if c = true then Q true H1 else u σ H1 Q
def tNot (t : TT) : TT := fun σ H Q => t σ H fun c H1 => Q (!c) H1
theorem pw_and1 (ha : PT X a tA) : PW X (.BoolOp .And [a] pos) tA := by
  intro wh pins s σ H Q I h
  refine isTrue_and (thn (ha pins s σ H Q I h) fun c s1 e => ?_)
  cases c with
  | true => exact isTrue_and_nil e
  | false => exact e
theorem pw_or1 (ha : PT X a tA) : PW X (.BoolOp .Or [a] pos) tA := by
  intro wh pins s σ H Q I h
  refine isTrue_or (thn (ha pins s σ H Q I h) fun c s1 e => ?_)
  cases c with
  | false => exact isTrue_or_nil e
  | true => exact e
theorem pw_and (ha : PT X a tA) (hb : PW X (.BoolOp .And (b :: rest) pos) tB') : PW X (.BoolOp .And (a :: b :: rest) pos) (tAnd tA tB') := by
  intro wh pins s σ H Q I h
  refine isTrue_and (thn (ha pins s σ H _ I h) fun c s1 ⟨H1, I1, q1⟩ => ?_)
  cases c with
  | true => exact hb wh pins s1 σ H1 Q I1 q1
  | false => exact ⟨H1, I1, q1⟩
theorem pw_or (ha : PT X a tA) (hb : PW X (.BoolOp .Or (b :: rest) pos) tB') : PW X (.BoolOp .Or (a :: b :: rest) pos) (tOr tA tB') := by
  intro wh pins s σ H Q I h
  refine isTrue_or (thn (ha pins s σ H _ I h) fun c s1 ⟨H1, I1, q1⟩ => ?_)
  cases c with
  | true => exact ⟨H1, I1, q1⟩
  | false => exact hb wh pins s1 σ H1 Q I1 q1
theorem pt_not (ha : PT X a tA) : PT X (.UnaryOp .Not a pos) (tNot tA) := by
  intro pins s σ H Q I h
  exact isTrue_not (ha pins s σ H (fun c H1 => Q (!c) H1) I h)
def tAndV (ta tb : TE) : TE := fun σ H Q => ta σ H fun x H1 => ∃ c, x = .bl c ∧ if c = true then tb σ H1 Q else Q (.bl false) H1
theorem pe_one {op} {t : TE} (h : PE X a t) : PE X (.BoolOp op [a] pos) t := fun pins s σ H Q I hw => BoolOp_one (h pins s σ H Q I hw)
theorem pe_and (ha : PE X a ta) (hb : PE X (.BoolOp .And (b :: rest) pos) tb) : PE X (.BoolOp .And (a :: b :: rest) pos) (tAndV ta tb) := by
  intro pins s σ H Q I h
  refine BoolOp_and (thn (ha pins s σ H _ I h) fun v s1 ⟨x, H1, I1, r1, q1⟩ => ?_)
  obtain ⟨c, rfl, q1⟩ := q1
  cases r1
  refine wpAny_truthy_bool ?_
  cases c with
  | true => exact hb pins s1 σ H1 Q I1 q1
  | false => exact ⟨.bl false, H1, I1, rfl, q1⟩
end
end L2
namespace L2
open PySem PySem.Spec PyProof.Rows
def SqL (K : PySem.W.Frag) (H : Hp) (a : Addr) (xs : List V) : Prop :=
  Rd H a (.lst xs) ∨
    ∃ (o : Obj) (its : Array Value) (n : Nat), K.lookup a = some o ∧ o.cls = .type "list" ∧ o.dict = none ∧ o.data = .seq its n ∧ its.size ≤ sizeLine ∧ Vals xs its.toList
def SqT (K : PySem.W.Frag) (H : Hp) (a : Addr) (xs : List V) : Prop :=
  Rd H a (.tup xs) ∨
    ∃ (o : Obj) (its : Array Value) (n : Nat), K.lookup a = some o ∧ o.cls = .type "tuple" ∧ o.data = .seq its n ∧ its.size ≤ sizeLine ∧ Vals xs its.toList
def absV : Value → Option V
  | .none => some .non
  | .bool b => some (.bl b)
  | .int i _ => some (.int i)
  | .str x _ => some (.str x)
  | .bytes b _ => some (.byt b)
  | .float b _ => some (.flt b)
  | .ref a => some (.ref a)
  | .type n => some (.ty n)
  | _ => none
theorem RelV.abs {x : V} {u : Value} (r : RelV x u) : absV u = some x := by
  cases x with
  | non => cases r; rfl
  | bl _ => cases r; rfl
  | int _ => obtain ⟨t, rfl⟩ := r; rfl
  | str _ => obtain ⟨t, rfl⟩ := r; rfl
  | byt _ => obtain ⟨t, rfl⟩ := r; rfl
  | flt _ => obtain ⟨t, rfl⟩ := r; rfl
  | ref _ => cases r; rfl
  | ty _ => cases r; rfl
theorem RelV.inj {x y : V} {u : Value} (r : RelV x u) (q : RelV y u) : x = y := Option.some.inj (r.abs.symm.trans q.abs)
theorem Vals.inj : ∀ {xs ys : List V} {us : List Value}, Vals xs us → Vals ys us → xs = ys
  | _, _, _, .nil, .nil => rfl
  | _, _, _, .cons r t, .cons r' t' => by rw [r.inj r', Vals.inj t t']
section
variable {X : Cx} {pins : List (Addr × Obj)} {σ : St} {H : Hp} {s : Shared} {a : Addr} {xs ys : List V}
theorem SqL.of {K : PySem.W.Frag} (h : H a = some (.lst xs)) : SqL K H a xs := .inl (.inl h)
theorem SqT.of {K : PySem.W.Frag} (h : H a = some (.tup xs)) : SqT K H a xs := .inl (.inl h)
theorem Inv.list (I : Inv X pins σ H s) (h : SqL X.K H a xs) : ∃ its : List Value, Vals xs its ∧ PlainL s.heap a its.toArray ∧ xs.length ≤ sizeLine := by
  rcases h with h | ⟨o, its, n, hk, hc, hd, hs, hz, r⟩
  · obtain ⟨z, its, n, r, e⟩ := h.ok I.hok
    exact ⟨its, r, ⟨_, n, e, rfl, rfl, rfl⟩, z⟩
  · refine ⟨its.toList, r, ⟨o, n, I.kIn a o hk, hc, hd, by simpa using hs⟩, ?_⟩
    have e := r.length
    simp only [Array.length_toList] at e
    omega
theorem Inv.tuple (I : Inv X pins σ H s) (h : SqT X.K H a xs) : ∃ its : List Value, Vals xs its ∧ IsTup s.heap a its.toArray ∧ xs.length ≤ sizeLine := by
  rcases h with h | ⟨o, its, n, hk, hc, hs, hz, r⟩
  · obtain ⟨z, its, r, p⟩ := h.ok I.hok
    exact ⟨its, r, p, z⟩
  · refine ⟨its.toList, r, ⟨o, I.kIn a o hk, hc, n, by simpa using hs⟩, ?_⟩
    have e := r.length
    simp only [Array.length_toList] at e
    omega
theorem Inv.list_inj (I : Inv X pins σ H s) (h : SqL X.K H a xs) (h' : SqL X.K H a ys) : xs = ys := by
  obtain ⟨its, r, ⟨o, n, e, _, _, d⟩, _⟩ := I.list h
  obtain ⟨its', r', ⟨o', n', e', _, _, d'⟩, _⟩ := I.list h'
  rw [e] at e'; cases e'
  rw [d] at d'
  injection d' with d1 _
  have : its = its' := by simpa using congrArg Array.toList d1
  subst this
  exact r.inj r'
end
abbrev Cx.wish (X : Cx) (E : Value → Shared → Prop) : Cx := { X with xe := E }
abbrev Cx.nox (X : Cx) : Cx := X.wish fun _ _ => False
theorem Cx.Ok.wish {X : Cx} (ok : X.Ok) (E : Value → Shared → Prop) : (X.wish E).Ok :=
  ⟨ok.mod, ok.kind, ok.glob, ok.blt, ok.above, ok.inj, ok.has, ok.cab, ok.hd, ok.frames, ok.stk, ok.exf, ok.bs, ok.bsz, ok.noex, ok.exfs, ok.funs, ok.frf⟩
theorem Cx.Ok.unwish {X : Cx} {E : Value → Shared → Prop} (ok : (X.wish E).Ok) : X.Ok :=
  ⟨ok.mod, ok.kind, ok.glob, ok.blt, ok.above, ok.inj, ok.has, ok.cab, ok.hd, ok.frames, ok.stk, ok.exf, ok.bs, ok.bsz, ok.noex, ok.exfs, ok.funs, ok.frf⟩
section
variable {X : Cx} {pins : List (Addr × Obj)} {σ : St} {H : Hp} {s : Shared} {E : Value → Shared → Prop}
theorem Inv.wish (I : Inv X pins σ H s) (E : Value → Shared → Prop) : Inv (X.wish E) pins σ H s := ⟨I.ok.wish E, I.os, I.bare, I.base, I.loc, I.cell, I.free, I.freeC, I.pin, I.hok, I.len⟩
theorem Inv.unwish (I : Inv (X.wish E) pins σ H s) : Inv X pins σ H s := ⟨I.ok.unwish, I.os, I.bare, I.base, I.loc, I.cell, I.free, I.freeC, I.pin, I.hok, I.len⟩
theorem SP.unwish {D : Ends} {f : Flow} {s' : Shared} (h : SP (X.wish E) pins D f s') : SP X pins D f s' := by
  cases f with
  | next => obtain ⟨σ', H', I, q⟩ := h; exact ⟨σ', H', I.unwish, q⟩
  | brk => obtain ⟨σ', H', I, q⟩ := h; exact ⟨σ', H', I.unwish, q⟩
  | cont => obtain ⟨σ', H', I, q⟩ := h; exact ⟨σ', H', I.unwish, q⟩
  | ret u => obtain ⟨v, σ', H', I, r, q⟩ := h; exact ⟨v, σ', H', I.unwish, r, q⟩
theorem PE.nox {e : Expr} {t : TE} (h : PE X.nox e t) : PE X e t := fun pins s σ H Q I hw =>
  wpAny_mono (h pins s σ H Q (I.wish _) hw) (fun _ _ ⟨v, H', I', r, q⟩ => ⟨v, H', I'.unwish, r, q⟩) fun _ _ z => False.elim z
theorem PT.nox {e : Expr} {t : TT} (h : PT X.nox e t) : PT X e t := fun pins s σ H Q I hw =>
  wpAny_mono (h pins s σ H Q (I.wish _) hw) (fun _ _ ⟨H', I', q⟩ => ⟨H', I'.unwish, q⟩) fun _ _ z => False.elim z
theorem PSs.nox {st : List Stmt} {t : TS} (h : PSs X.nox st t) : PSs X st t := fun pins s σ H D I hw =>
  wpAny_mono (h pins s σ H D (I.wish _) hw) (fun _ _ q => q.unwish) fun _ _ z => False.elim z
end
section
variable {X : Cx} {st : Stmt} {rest : List Stmt} {t u : TS} {e : Expr} {te : TE} {pos : Pos}
def tNext : TS := fun D σ H => D.nx σ H
def tSeq (t u : TS) : TS := fun D σ H => t { D with nx := u D } σ H
theorem pss_nil : PSs X [] tNext := fun _ _ σ H _ I h => wpAny_execs_nil ⟨σ, H, I, h⟩
theorem pss_cons (h1 : PS X st t) (h2 : PSs X rest u) : PSs X (st :: rest) (tSeq t u) := by
  intro pins s σ H D I h
  refine wpAny_execs_cons (thn (h1 pins s σ H { D with nx := u D } I h) fun f s1 q => ?_)
  cases f with
  | next =>
    obtain ⟨σ', H', I', q⟩ := q
    exact h2 pins s1 σ' H' D I' q
  | ret v => exact q
  | brk => exact q
  | cont => exact q
theorem pss_one (h1 : PS X st t) : PSs X [st] t := by
  intro pins s σ H D I h
  refine wpAny_execs_cons (thn (h1 pins s σ H D I h) fun f s1 q => ?_)
  cases f with
  | next => exact wpAny_execs_nil q
  | ret v => exact q
  | brk => exact q
  | cont => exact q
theorem Inv.quiet {pins : List (Addr × Obj)} {σ : St} {H : Hp} {s : Shared} (I : Inv X pins σ H s) : interactive X.env = false := by simp [interactive, I.ok.kind]
def tDrop (te : TE) : TS := fun D σ H => te σ H fun _ H1 => D.nx σ H1
theorem ps_expr (he : PE X e te) (hs : swapsWith e none pos.line X.env = pure false := by rfl) : PS X (.Expr e pos) (tDrop te) := by
  intro pins s σ H D I h
  exact wpAny_Expr_any (thn (he pins s σ H _ I h) fun v s1 ⟨x, H1, I1, r1, q1⟩ => ⟨σ, H1, I1, q1⟩) I.quiet hs
def tRet (te : TE) : TS := fun D σ H => te σ H D.rt
theorem ps_ret (he : PE X e te) : PS X (.Return (some e) pos) (tRet te) := by
  intro pins s σ H D I h
  exact wpAny_Return_some (thn (he pins s σ H _ I h) fun v s1 ⟨x, H1, I1, r1, q1⟩ => ⟨x, σ, H1, I1, r1, q1⟩)
def tIfS (c : TT) (t u : TS) : TS := fun D σ H => c σ H fun b H1 => if b = true then t D σ H1 else u D σ H1
theorem ps_if {c : Expr} {a b : List Stmt} {tc : TT} (hc : PT X c tc) (ha : PSs X a t) (hb : PSs X b u) : PS X (.If c a b pos) (tIfS tc t u) := by
  intro pins s σ H D I h
  refine wpAny_If (thn (hc pins s σ H _ I h) fun d s1 ⟨H1, I1, q1⟩ => ?_)
  cases d with
  | true => exact ha pins s1 σ H1 D I1 q1
  | false => exact hb pins s1 σ H1 D I1 q1
end
abbrev TG := V → St → Hp → (St → Hp → Prop) → Prop
abbrev TGs := List V → St → Hp → (St → Hp → Prop) → Prop
def PG (X : Cx) (target : Expr) (t : TG) : Prop :=
  ∀ (pins : List (Addr × Obj)) (s : Shared) (σ : St) (H : Hp) (v : V) (u : Value) (Q : St → Hp → Prop), Inv X pins σ H s → RelV v u → t v σ H Q →
    wpAny (model X.prog X.w) X.A (assign target X.env u) (fun _ s' => ∃ σ' H', Inv X pins σ' H' s' ∧ Q σ' H') X.xe s
def PGs (X : Cx) (ts : List Expr) (t : TGs) : Prop :=
  ∀ (pins : List (Addr × Obj)) (s : Shared) (σ : St) (H : Hp) (vs : List V) (us : List Value) (Q : St → Hp → Prop), Inv X pins σ H s → Vals vs us → t vs σ H Q →
    wpAny (model X.prog X.w) X.A (assignInOrder ((assignEach ts X.env).map (·.2)) us) (fun _ s' => ∃ σ' H', Inv X pins σ' H' s' ∧ Q σ' H') X.xe s
section
variable {X : Cx} {pos : Pos}
def gName (i : Nat) : TG := fun v σ H Q => Q (σ.set i (some v)) H
theorem pg_name {i : Nat} {x : Str} (hN : X.N.Nodup) (hi : X.N[i]? = some x) (hx : Loc X.env.scope x) (hf : X.fn x = true ∨ X.env.scope.names.lookup x = some .local := by first | exact .inl rfl | exact .inr rfl | assumption) : PG X (.Name x pos) (gName i) := by
  intro pins s σ H v u Q I r h
  exact wpAny_assign_Name (store_ok I hN hi hx r (fun s' I' => ⟨_, H, I', h⟩) hf)
def gNil : TGs := fun vs σ H Q => vs = [] ∧ Q σ H
def gCons (t : TG) (u : TGs) : TGs := fun vs σ H Q => ∃ v r, vs = v :: r ∧ t v σ H fun σ' H' => u r σ' H' Q
theorem pgs_nil : PGs X [] gNil := by
  intro pins s σ H vs us Q I r h
  obtain ⟨e, h⟩ := h
  subst e
  cases r
  exact assignInOrder_nil ⟨σ, H, I, h⟩
theorem pgs_cons {e : Expr} {es : List Expr} {t : TG} {u : TGs} (h1 : PG X e t) (h2 : PGs X es u)
    (hs : (assignEach (e :: es) X.env).map (·.2) = assign e X.env :: (assignEach es X.env).map (·.2) := by rfl) : PGs X (e :: es) (gCons t u) := by
  intro pins s σ H vs us Q I r h
  obtain ⟨v, vr, e1, h⟩ := h
  subst e1
  cases r with
  | cons r rr =>
    rw [hs]
    refine assignInOrder_cons (thn (h1 pins s σ H _ _ _ I r h) fun _ s1 ⟨σ1, H1, I1, q1⟩ => ?_)
    exact h2 pins s1 σ1 H1 _ _ Q I1 rr q1
def gTup (K : PySem.W.Frag) (n : Nat) (t : TGs) : TG := fun v σ H Q => ∃ a xs, v = .ref a ∧ SqT K H a xs ∧ xs.length = n ∧ t xs σ H Q
theorem pg_tup {es : List Expr} {k : Nat} {t : TGs} {n : Nat} (hc : X.calm = true) (h : PGs X es t)
    (hn : (assignEach es X.env).length = n := by rfl) (hst : (assignEach es X.env).findIdx? (·.1) = none := by rfl) : PG X (.Tuple es k pos) (gTup X.K n t) := by
  intro pins s σ H v u Q I r hw
  obtain ⟨a, xs, e1, hq, hl, hw⟩ := hw
  subst e1
  cases r
  obtain ⟨its, rv, ht, hz⟩ := I.tuple hq
  refine assign_Tuple_tuple (I.ok.hd hc) ht (by simp [hn, ← hl, rv.length]) hst fun h' hx => ?_
  have I1 : Inv X pins σ H { s with heap := h' } := I.kept (t' := s.toks) fun b o e => hx b o (Nat.ne_of_lt (Heap.lt_size e)) e
  exact h pins _ σ H xs _ Q I1 (by simpa using rv) hw
def tAsg (te : TE) (g : TG) : TS := fun D σ H => te σ H fun x H1 => g x σ H1 D.nx
theorem ps_asg {tg e : Expr} {te : TE} {g : TG} (he : PE X e te) (hg : PG X tg g) (hs : swapsWithSole [tg] e pos.line X.env = pure false := by rfl) (hw : swappedStores [tg] e X.env = pure none := by rfl)
    (h1 : (assignEach [tg] X.env).map (·.2) = [assign tg X.env] := by rfl) : PS X (.Assign [tg] e pos) (tAsg te g) := by
  intro pins s σ H D I h
  refine wpAny_Assign_stores (thn (he pins s σ H _ I h) fun v s1 ⟨x, H1, I1, r1, q1⟩ => ?_) hs hw
  rw [h1]
  exact thn (hg pins s1 σ H1 x v _ I1 r1 q1) fun _ s2 q => q
theorem ps_set {i : Nat} {x : Str} {e : Expr} {te : TE} {pos' : Pos} (hN : X.N.Nodup) (hi : X.N[i]? = some x) (hx : Loc X.env.scope x) (he : PE X e te) (hs : swapsWith e (some (.Name x pos')) pos.line X.env = pure false := by rfl) (hf : X.fn x = true ∨ X.env.scope.names.lookup x = some .local := by first | exact .inl rfl | exact .inr rfl | assumption) :
    PS X (.Assign [.Name x pos'] e pos) (tAsg te (gName i)) := by
  intro pins s σ H D I h
  refine wpAny_Assign_Name (thn (he pins s σ H _ I h) fun v s1 ⟨y, H1, I1, r1, q1⟩ => ?_) hs
  exact store_ok I1 hN hi hx r1 (fun s2 I2 => ⟨_, H1, I2, q1⟩) hf
end
section
variable {X : Cx} {pos : Pos}
def tWhile (c : TT) (tb : TS) : TS := fun D σ H => ∃ W : Nat → St → Hp → Prop, (∃ m, W m σ H) ∧ ∀ m σ H, W m σ H →
  c σ H fun b H1 => if b = true then ∃ N : St → Hp → Prop, (∀ σ' H', N σ' H' → ∃ m', m' < m ∧ W m' σ' H') ∧ tb { D with nx := N, ct := N, bk := D.nx } σ H1 else D.nx σ H1
theorem ps_while {c : Expr} {body : List Stmt} {tc : TT} {tb : TS} (hp : PassesOwn (model X.prog X.w) X.A X.env X.xe) (hc : PT X c tc) (hb : PSs X body tb) : PS X (.While c body [] pos) (tWhile tc tb) := by
  intro pins s σ H D I h
  obtain ⟨W, ⟨m0, w0⟩, turn⟩ := h
  refine wpAny_While (codeAny_whileLoop (fun n s' => ∃ σ' H', Inv X pins σ' H' s' ∧ W n σ' H') ?_ m0 ⟨σ, H, I, w0⟩)
  rintro n s1 ⟨σ1, H1, I1, w1⟩
  refine wpAny_passesOwn hp (thn (hc pins s1 σ1 H1 _ I1 (turn n σ1 H1 w1)) fun b s2 ⟨H2, I2, q2⟩ => ?_)
  cases b with
  | true =>
    obtain ⟨N, hN, q2⟩ := q2
    rw [if_pos rfl]
    refine wpAny_passesOwn hp (thn (hb pins s2 σ1 H2 _ I2 q2) fun f s3 q3 => ?_)
    cases f with
    | next =>
      obtain ⟨σ3, H3, I3, n3⟩ := q3
      obtain ⟨m', hm, w3⟩ := hN σ3 H3 n3
      exact ⟨m', hm, σ3, H3, I3, w3⟩
    | cont =>
      obtain ⟨σ3, H3, I3, n3⟩ := q3
      obtain ⟨m', hm, w3⟩ := hN σ3 H3 n3
      exact ⟨m', hm, σ3, H3, I3, w3⟩
    | brk => exact q3
    | ret v => exact q3
  | false =>
    rw [if_neg Bool.false_ne_true]
    exact wpAny_execs_nil ⟨σ1, H2, I2, q2⟩
end
structure It where
  go : Nat → Hp → Prop
  yld : Nat → Hp → V → Hp → Prop
  stop : Nat → Hp → Prop
def FpOk (X : Cx) (pins : List (Addr × Obj)) (H : Hp) (b : Addr) : Prop :=
  H b = none ∧ b ≠ X.env.locals ∧ b ∉ X.fs ∧ (b ∈ X.ex ∨ X.s₀.heap.objs.size ≤ b) ∧ (∀ x c, X.env.cells.lookup x = some c → c ≠ b) ∧ ∀ p ∈ X.pn ++ pins, p.1 ≠ b
theorem Inv.fpOk {X : Cx} {pins : List (Addr × Obj)} {σ : St} {H H' : Hp} {s : Shared} {b : Addr} (I : Inv X pins σ H s) (hb : s.heap.objs.size ≤ b) (hn : H' b = none) : FpOk X pins H' b := by
  refine ⟨hn, Nat.ne_of_gt (Nat.lt_of_lt_of_le I.lt hb), I.nofs hb, .inr (Nat.le_trans I.sz hb), fun x c e z => ?_, fun p hp z => ?_⟩
  · obtain ⟨v, q⟩ := I.cell x c e
    exact absurd (Nat.lt_of_lt_of_le q.lt (by rw [z]; exact hb)) (Nat.lt_irrefl _)
  · exact absurd (Nat.lt_of_lt_of_le (Heap.lt_size (I.pin p hp).1) (by rw [z]; exact hb)) (Nat.lt_irrefl _)
structure Turn (P : Program) (w : World) (K : PySem.W.Frag) (tg : Expr) (J : It) (fp : List Addr) (it : Addr) (tn : Nat → Heap → Prop) : Prop where
  mem : it ∈ fp
  obj : ∀ i h, tn i h → ∀ b ∈ fp, ∃ o, h.get? b = some o ∧ ∀ v, o.data ≠ .cell v
  keep : ∀ i h h', tn i h → (∀ b ∈ fp, ∀ o, h.get? b = some o → h'.get? b = some o) → tn i h'
  item : ∀ (X : Cx), X.prog = P → X.w = w → X.K = K → X.calm = true → ∀ (i : Nat) (pins : List (Addr × Obj)) (s : Shared) (σ : St) (H : Hp) (E : Value → Shared → Prop), Inv X pins σ H s → (∀ b ∈ fp, FpOk X pins H b) → tn i s.heap → J.go i H →
    wpAny (model P w) X.A (pyNext (.ref it)) (fun r s1 => ∃ u, r = some u ∧
      wpAny (model P w) X.A (letOwnedTupleGo tg (.ref it) u) (fun _ s2 => ∃ x H', Inv X pins σ H' s2 ∧ RelV x u ∧ J.yld i H x H' ∧ tn (i + 1) s2.heap ∧ ∀ b ∈ fp, H' b = none) E s1) E s
  done : ∀ (X : Cx), X.prog = P → X.w = w → X.K = K → X.calm = true → ∀ (i : Nat) (pins : List (Addr × Obj)) (s : Shared) (σ : St) (H : Hp) (E : Value → Shared → Prop), Inv X pins σ H s → (∀ b ∈ fp, FpOk X pins H b) → tn i s.heap → J.stop i H →
    wpAny (model P w) X.A (pyNext (.ref it)) (fun r s1 => r = none ∧ Inv X pins σ H s1) E s
  self : ∀ (A : Around) (i : Nat) (s : Shared) (Q : Value → Shared → Prop) (E : Value → Shared → Prop), tn i s.heap → Q (.ref it) s → wpAny (model P w) A (pyIter (.ref it)) Q E s
abbrev TI := St → Hp → (It → Hp → Prop) → Prop
def PIE (X : Cx) (pins : List (Addr × Obj)) (σ : St) (tg : Expr) (R : It → Hp → Prop) (itv : Value) (s2 : Shared) : Prop :=
  ∃ (it : Addr) (fp : List Addr) (tn : Nat → Heap → Prop) (J : It) (H' : Hp), itv = .ref it ∧ Inv X pins σ H' s2 ∧ Turn X.prog X.w X.K tg J fp it tn ∧ tn 0 s2.heap ∧ (∀ b ∈ fp, FpOk X pins H' b) ∧ R J H'
def PI (X : Cx) (tg iter : Expr) (wi : TI) : Prop :=
  ∀ (pins : List (Addr × Obj)) (s : Shared) (σ : St) (H : Hp) (R : It → Hp → Prop), Inv X pins σ H s → wi σ H R →
    wpAny (model X.prog X.w) X.A (eval iter X.env) (fun v s1 => wpAny (model X.prog X.w) X.A (pyIter v) (PIE X pins σ tg R) X.xe s1) X.xe s
theorem go_of {M : Model} {A : Around} {E : Value → Shared → Prop} {s : Shared} {tg : Expr} {it : Addr} {u : Value} {o : Obj} {n : String} {vs : Array Value} {Q : Unit → Shared → Prop} (ho : s.heap.get? it = some o) (hc : o.cls = .type n) (hd : o.data = .fields vs)
    (hn : ["enumerate", "zip", "dict_itemiterator", "dict_reverseitemiterator", "odict_iterator", "itertools.zip_longest", "itertools.pairwise"].contains n = false) (hQ : Q () s) : wpAny M A (letOwnedTupleGo tg (.ref it) u) Q E s := by
  unfold letOwnedTupleGo
  cases tg <;> first
    | exact wpAny_pure hQ
    | (cases u <;> first
        | exact wpAny_pure hQ
        | (refine wpAny_bind (wpAny_load ho ?_)
           rw [hc, hd]
           show wpAny M A (if (["enumerate", "zip", "dict_itemiterator", "dict_reverseitemiterator", "odict_iterator", "itertools.zip_longest", "itertools.pairwise"].contains n && vs[0]? == some (rawInt _)) = true then _ else _) Q E s
           rw [if_neg (by intro h; rw [hn, Bool.false_and] at h; cases h)]
           exact wpAny_pure hQ))
def Itl (K : PySem.W.Frag) (a : Addr) : It :=
  ⟨fun i H => ∃ xs x, SqL K H a xs ∧ xs[i]? = some x, fun i H x H' => H' = H ∧ ∀ xs, SqL K H a xs → xs[i]? = some x, fun i H => ∃ xs, SqL K H a xs ∧ xs.length ≤ i⟩
def Itr (lo : Int) (n : Nat) : It := ⟨fun i _ => i < n, fun i H x H' => H' = H ∧ x = .int (lo + i), fun i _ => n ≤ i⟩
theorem turn_list {P : Program} {w : World} {K : PySem.W.Frag} {tg : Expr} (a it : Addr) : Turn P w K tg (Itl K a) [it] it (fun i h => h.IsListIter it a i) where
  mem := by simp
  obj := fun i h st b hb => by
    have e : b = it := by simpa using hb
    subst e
    obtain ⟨o, e, c, d⟩ := st
    exact ⟨o, e, fun v z => by rw [d] at z; cases z⟩
  keep := fun i h h' st k => st.at fun o e => k it (by simp) o e
  item := by
    intro X hP hw hK hc i pins s σ H E I hf st hg
    subst hP hw hK
    obtain ⟨xs, x, hq, hx⟩ := hg
    obtain ⟨its, rv, p, hz⟩ := I.list hq
    obtain ⟨u, hu, ru⟩ := rv.get hx
    obtain ⟨f0, f1, f2, f3, f4, f5⟩ := hf it (by simp)
    refine wpAny_pyNext_list_item st p.isList (x := u) (by simpa using hu) fun h' st' sb => ?_
    have I1 : Inv X pins σ H { s with heap := h' } := I.turned (t' := s.toks) (fun b o hb e => (sb.2 b hb).trans e) f0 f1 f3 f4 f5
    obtain ⟨o, e, c, d⟩ := id st'
    exact ⟨u, rfl, go_of (s := { s with heap := h' }) e c d (by decide) ⟨x, H, I1, ru, ⟨rfl, fun ys hy => by rw [I.list_inj hy hq]; exact hx⟩, st', fun b hb => (hf b hb).1⟩⟩
  done := by
    intro X hP hw hK hc i pins s σ H E I hf st hg
    subst hP hw hK
    obtain ⟨xs, hq, hx⟩ := hg
    obtain ⟨its, rv, p, hz⟩ := I.list hq
    obtain ⟨f0, f1, f2, f3, f4, f5⟩ := hf it (by simp)
    have hl := rv.length
    exact wpAny_pyNext_list_end (I.ok.hd hc) st p.isList (by simp; omega) fun h' eb => ⟨rfl, I.turned (t' := s.toks) (fun b o hb e => eb b o hb e) f0 f1 f3 f4 f5⟩
  self := fun _ _ _ _ _ st h => wpAny_pyIter_listiter st h
theorem turn_range {P : Program} {w : World} {K : PySem.W.Frag} {tg : Expr} (it : Addr) (lo : Int) (n : Nat) : Turn P w K tg (Itr lo n) [it] it (fun i h => IsRangeIter h it (lo + (i : Nat) * 1) ((n : Int) - (i : Nat)) 1) where
  mem := by simp
  obj := fun i h st b hb => by
    have e : b = it := by simpa using hb
    subst e
    exact ⟨_, st, fun v z => by
      have z' : Data.fields _ = Data.cell v := z
      cases z'⟩
  keep := fun i h h' st k => k it (by simp) _ st
  item := by
    intro X hP hw hK hc i pins s σ H E I hf st hg
    subst hP hw hK
    obtain ⟨f0, f1, f2, f3, f4, f5⟩ := hf it (by simp)
    have W := Walks.range (prog := X.prog) (w := X.w) (I.ok.hd hc) it lo 1 n
    refine W.item i s _ _ hg st fun v h' tk hv st' kk => ?_
    obtain ⟨t, rfl⟩ := hv
    have I1 : Inv X pins σ H { s with heap := h', toks := tk } := I.turned (fun b o hb e => kk b o (by simpa using hb) e) f0 f1 f3 f4 f5
    refine ⟨_, rfl, go_of (s := { s with heap := h', toks := tk }) (n := "range_iterator") st' rfl rfl (by decide) ⟨.int (lo + i), H, I1, ⟨t, ?_⟩, ⟨rfl, rfl⟩, st', fun b hb => (hf b hb).1⟩⟩
    rw [Int.mul_one]
  done := by
    intro X hP hw hK hc i pins s σ H E I hf st hg
    subst hP hw hK
    obtain ⟨f0, f1, f2, f3, f4, f5⟩ := hf it (by simp)
    exact wpAny_pyNext_range_end (I.ok.hd hc) st (by have : n ≤ i := hg; omega) fun h' eb => ⟨rfl, I.turned (t' := s.toks) (fun b o hb e => eb b o hb e) f0 f1 f3 f4 f5⟩
  self := fun _ _ _ _ _ st h => wpAny_pyIter_rangeiter st h
end L2
namespace L2
open PySem PySem.Spec PyProof.Rows
section
variable {X : Cx} {tg : Expr}
def iList (K : PySem.W.Frag) (tl : TE) : TI := fun σ H R => tl σ H fun x H1 => ∃ a, x = .ref a ∧ (∃ xs, SqL K H1 a xs) ∧ R (Itl K a) H1
theorem pi_list {l : Expr} {tl : TE} (hl : PE X l tl) : PI X tg l (iList X.K tl) := by
  intro pins s σ H R I h
  refine thn (hl pins s σ H _ I h) fun v s1 ⟨x, H1, I1, r1, q1⟩ => ?_
  obtain ⟨a, e, ⟨xs, hq⟩, q⟩ := q1
  subst e
  cases r1
  obtain ⟨its, rv, p, hz⟩ := I1.list hq
  refine wpAny_pyIter_list p.isList ?_
  refine ⟨s1.heap.objs.size, [s1.heap.objs.size], _, _, H1, rfl, I1.kept (t' := s1.toks) fun b o e => Heap.get?_push_of_some _ e, turn_list a _, ⟨_, Heap.get?_push_size _ rfl, rfl, rfl⟩, fun b hb => ?_, q⟩
  have e : b = s1.heap.objs.size := by simpa using hb
  subst e
  exact I1.fpOk (Nat.le_refl _) (I1.hok.fresh (Nat.le_refl _))
theorem range_it {pins : List (Addr × Obj)} {σ : St} {H : Hp} {s : Shared} {R : It → Hp → Prop} {E : Value → Shared → Prop} {lo hi : Int} {t u v : Tok} {tk : Nat} (I : Inv X pins σ H s) (h1 : -(2 ^ 62) ≤ lo) (h2 : lo < 2 ^ 62) (h3 : -(2 ^ 62) ≤ hi) (h4 : hi < 2 ^ 62)
    (q : R (Itr lo (hi - lo).toNat) H) : wpAny (model X.prog X.w) X.A (pyIter (.ref s.heap.objs.size)) (PIE X pins σ tg R) E { s with heap := s.heap.push { cls := .type "range", data := .fields #[.int lo t, .int hi u, .int 1 v] }, toks := tk } := by
  refine wpAny_pyIter_range (IsRange.new ..) (small_one h1 h2 h3 h4) ?_
  have I1 : Inv X pins σ H { s with heap := s.heap.push { cls := .type "range", data := .fields #[.int lo t, .int hi u, .int 1 v] }, toks := tk } := I.kept fun b o e => Heap.get?_push_of_some _ e
  refine ⟨(s.heap.push { cls := .type "range", data := .fields #[.int lo t, .int hi u, .int 1 v] }).objs.size, [(s.heap.push { cls := .type "range", data := .fields #[.int lo t, .int hi u, .int 1 v] }).objs.size], _, _, H, rfl,
    I1.kept (t' := tk) fun b o e => Heap.get?_push_of_some _ e, turn_range _ lo (hi - lo).toNat, ?_, fun b hb => ?_, q⟩
  · have e1 : lo + ((0 : Nat) : Int) * 1 = lo := by simp
    have e2 : (((hi - lo).toNat : Nat) : Int) - ((0 : Nat) : Int) = Builtin.Range.rangeSize lo hi 1 := by rw [rangeSize_one]; split <;> omega
    show IsRangeIter _ _ (lo + ((0 : Nat) : Int) * 1) ((((hi - lo).toNat : Nat) : Int) - ((0 : Nat) : Int)) 1
    rw [e1, e2]
    exact Heap.get?_push_size _ rfl
  · have e : b = (s.heap.push { cls := .type "range", data := .fields #[.int lo t, .int hi u, .int 1 v] }).objs.size := by simpa using hb
    subst e
    exact I1.fpOk (Nat.le_refl _) (I1.hok.fresh (Nat.le_refl _))
def iRng1 (ta : TA) : TI := fun σ H R => ta σ H fun vs H1 => ∃ j : Int, vs = [.int j] ∧ -(2 ^ 62) ≤ j ∧ j < 2 ^ 62 ∧ R (Itr 0 j.toNat) H1
theorem pi_range1 {a : Expr} {ta : TA} {p pos : Pos} (hg : Gl X "range") (hm : X.mg "range" = none) (ha : PA X [a] ta) (hs : starEach [a] X.env = [(false, eval a X.env)] := by rfl) : PI X tg (.Call (.Name "range" p) [a] [] pos) (iRng1 ta) := by
  intro pins s σ H R I h
  refine Call_ (ld_blt I hg hm boot_range (PyProof.Rows.callWith_type1 (thn (ha pos pins s σ H _ I h) fun us s1 ⟨vs, H1, I1, r1, q1⟩ => ?_) hs rfl))
  obtain ⟨j, e, q1, q2, q⟩ := q1
  subst e
  cases r1 with
  | cons r rr =>
    cases rr
    obtain ⟨t, rfl⟩ := r
    exact call_range_1 (range_it I1 (by omega) (by omega) q1 q2 (by simpa using q))
def tFor (wi : TI) (g : TG) (tb : TS) : TS := fun D σ H => wi σ H fun J H1 => ∃ W : Nat → Nat → St → Hp → Prop, (∃ m, W 0 m σ H1) ∧ ∀ i m σ H, W i m σ H →
  (J.stop i H ∧ D.nx σ H) ∨ (J.go i H ∧ ∃ N : St → Hp → Prop, (∀ σ' H', N σ' H' → ∃ m', m' < m ∧ W (i + 1) m' σ' H') ∧ ∀ x H', J.yld i H x H' → g x σ H' fun σ2 H2 => tb { D with nx := N, ct := N, bk := D.nx } σ2 H2)
def pinsAt (fp : List Addr) (h : Heap) : List (Addr × Obj) := fp.filterMap fun b => (h.get? b).map fun o => (b, o)
theorem mem_pinsAt {fp : List Addr} {h : Heap} {b : Addr} {o : Obj} (hb : b ∈ fp) (e : h.get? b = some o) : (b, o) ∈ pinsAt fp h := List.mem_filterMap.mpr ⟨b, hb, by rw [e]; rfl⟩
theorem of_pinsAt {fp : List Addr} {h : Heap} {p : Addr × Obj} (hp : p ∈ pinsAt fp h) : p.1 ∈ fp ∧ h.get? p.1 = some p.2 := by
  obtain ⟨b, hb, e⟩ := List.mem_filterMap.mp hp
  cases q : h.get? b with
  | none => rw [q] at e; cases e
  | some o =>
    rw [q] at e
    have e' : (b, o) = p := Option.some.inj e
    subst e'
    exact ⟨hb, q⟩
theorem Inv.pinned {pins : List (Addr × Obj)} {σ : St} {H : Hp} {s : Shared} {fp : List Addr} (I : Inv X pins σ H s) (hf : ∀ b ∈ fp, FpOk X pins H b) (ho : ∀ b ∈ fp, ∃ o, s.heap.get? b = some o ∧ ∀ v, o.data ≠ .cell v) : Inv X (pins ++ pinsAt fp s.heap) σ H s :=
  I.pins_of fun p hp => (List.mem_append.mp hp).elim (fun z => I.pin p (List.mem_append_right _ z)) fun z => by
    obtain ⟨hb, e⟩ := of_pinsAt z
    obtain ⟨f0, f1, f2, _⟩ := hf p.1 hb
    obtain ⟨o, e', d⟩ := ho p.1 hb
    rw [e] at e'; cases e'
    exact ⟨e, f0, f1, f2, d⟩
theorem Inv.unpinned {pins pl : List (Addr × Obj)} {σ : St} {H : Hp} {s : Shared} (I : Inv X (pins ++ pl) σ H s) : Inv X pins σ H s := I.pins_of fun p hp => I.pin p (List.mem_append_right _ (List.mem_append_left _ hp))
theorem ps_for {iter : Expr} {body : List Stmt} {wi : TI} {g : TG} {tb : TS} {pos : Pos} (hp : PassesOwn (model X.prog X.w) X.A X.env X.xe) (hc : X.calm = true) (hi : PI X tg iter wi) (hg : PG X tg g) (hb : PSs X body tb)
    (hs : ∀ x, foldedSetIterable iter X.env x = pure x := by intro _; rfl) : PS X (.For tg iter body [] pos) (tFor wi g tb) := by
  intro pins s σ H D I h
  refine wpAny_For (thn (hi pins s σ H _ I h) fun v s1 h1 => thn h1 fun itv s2 h2 => ?_) hs
  obtain ⟨it, fp, tn, J, H2, e, I2, T, st2, f2, W, ⟨m0, w0⟩, turn⟩ := h2
  subst e
  have stat : ∀ {H' : Hp}, (∀ b ∈ fp, H' b = none) → ∀ b ∈ fp, FpOk X pins H' b := fun hn b hb => ⟨hn b hb, (f2 b hb).2⟩
  refine codeAny_forLoop_any (fun n s' => ∃ i σ' H', Inv X pins σ' H' s' ∧ tn i s'.heap ∧ (∀ b ∈ fp, H' b = none) ∧ W i n σ' H') ?_ m0 ⟨0, σ, H2, I2, st2, fun b hb => (f2 b hb).1, w0⟩
  rintro n s3 ⟨i, σ3, H3, I3, st3, fr3, w3⟩
  rcases turn i n σ3 H3 w3 with ⟨stop, qn⟩ | ⟨go, N, hN, step⟩
  · refine wpAny_passesOwn hp (thn (T.done X rfl rfl rfl hc i pins s3 σ3 H3 X.xe I3 (stat fr3) st3 stop) fun r s4 ⟨hr, I4⟩ => ?_)
    subst hr
    exact wpAny_execs_nil ⟨σ3, H3, I4, qn⟩
  · refine wpAny_passesOwn hp (thn (T.item X rfl rfl rfl hc i pins s3 σ3 H3 X.xe I3 (stat fr3) st3 go) fun r s4 ⟨u, hr, h4⟩ => ?_)
    subst hr
    refine wpAny_passesOwn hp (thn h4 fun _ s5 ⟨x, H5, I5, r5, y5, st5, fr5⟩ => ?_)
    have I5' := I5.pinned (stat fr5) (T.obj _ _ st5)
    refine wpAny_passesOwn hp (thn (hg _ s5 σ3 H5 x u _ I5' r5 (step x H5 y5)) fun _ s6 ⟨σ6, H6, I6, q6⟩ => ?_)
    refine wpAny_passesOwn hp (thn (hb _ s6 σ6 H6 _ I6 q6) fun f s7 q7 => ?_)
    have again : ∀ {σ7 : St} {H7 : Hp}, Inv X (pins ++ pinsAt fp s5.heap) σ7 H7 s7 → N σ7 H7 → ∃ m, m < n ∧ ∃ i σ' H', Inv X pins σ' H' s7 ∧ tn i s7.heap ∧ (∀ b ∈ fp, H' b = none) ∧ W i m σ' H' := fun {σ7 H7} I7 n7 => by
      obtain ⟨m', hm, w7⟩ := hN σ7 H7 n7
      refine ⟨m', hm, i + 1, σ7, H7, I7.unpinned, T.keep _ _ _ st5 fun b hb o e => (I7.pin (b, o) (List.mem_append_right _ (List.mem_append_right _ (mem_pinsAt hb e)))).1, fun b hb => ?_, w7⟩
      obtain ⟨o, e, d⟩ := T.obj _ _ st5 b hb
      exact (I7.pin (b, o) (List.mem_append_right _ (List.mem_append_right _ (mem_pinsAt hb e)))).2.1
    cases f with
    | next => obtain ⟨σ7, H7, I7, n7⟩ := q7; exact again I7 n7
    | cont => obtain ⟨σ7, H7, I7, n7⟩ := q7; exact again I7 n7
    | brk => obtain ⟨σ7, H7, I7, q7⟩ := q7; exact ⟨σ7, H7, I7.unpinned, q7⟩
    | ret v => obtain ⟨x7, σ7, H7, I7, r7, q7⟩ := q7; exact ⟨x7, σ7, H7, I7.unpinned, r7, q7⟩
end
theorem for_list {K : PySem.W.Frag} {a : Addr} {xs : List V} {g : TG} {tb : TS} {D : Ends} {σ : St} {H : Hp} (Pv : Nat → St → Hp → Prop) (h0 : Pv 0 σ H) (hl : ∀ i σ H, i ≤ xs.length → Pv i σ H → SqL K H a xs)
    (hs : ∀ i x σ H, xs[i]? = some x → Pv i σ H → g x σ H fun σ2 H2 => tb { D with nx := Pv (i + 1), ct := Pv (i + 1), bk := D.nx } σ2 H2) (hd : ∀ σ H, Pv xs.length σ H → D.nx σ H) :
    ∃ W : Nat → Nat → St → Hp → Prop, (∃ m, W 0 m σ H) ∧ ∀ i m σ H, W i m σ H →
      ((Itl K a).stop i H ∧ D.nx σ H) ∨ ((Itl K a).go i H ∧ ∃ N : St → Hp → Prop, (∀ σ' H', N σ' H' → ∃ m', m' < m ∧ W (i + 1) m' σ' H') ∧ ∀ x H', (Itl K a).yld i H x H' → g x σ H' fun σ2 H2 => tb { D with nx := N, ct := N, bk := D.nx } σ2 H2) := by
  refine ⟨fun i m σ H => m = xs.length - i ∧ i ≤ xs.length ∧ Pv i σ H, ⟨xs.length, by simp, Nat.zero_le _, h0⟩, ?_⟩
  rintro i m σ H ⟨rfl, hi, p⟩
  have q := hl i σ H hi p
  by_cases hlt : i < xs.length
  · refine .inr ⟨⟨xs, xs[i], q, by simp [hlt]⟩, Pv (i + 1), fun σ' H' p' => ⟨xs.length - (i + 1), by omega, rfl, hlt, p'⟩, fun x H' y => ?_⟩
    obtain ⟨e, y⟩ := y
    subst e
    exact hs i x σ _ (y xs q) p
  · have e : i = xs.length := by omega
    subst e
    exact .inl ⟨⟨xs, q, Nat.le_refl _⟩, hd σ H p⟩
theorem for_range {lo : Int} {n : Nat} {g : TG} {tb : TS} {D : Ends} {σ : St} {H : Hp} (Pv : Nat → St → Hp → Prop) (h0 : Pv 0 σ H)
    (hs : ∀ i σ H, i < n → Pv i σ H → g (.int (lo + i)) σ H fun σ2 H2 => tb { D with nx := Pv (i + 1), ct := Pv (i + 1), bk := D.nx } σ2 H2) (hd : ∀ σ H, Pv n σ H → D.nx σ H) :
    ∃ W : Nat → Nat → St → Hp → Prop, (∃ m, W 0 m σ H) ∧ ∀ i m σ H, W i m σ H →
      ((Itr lo n).stop i H ∧ D.nx σ H) ∨ ((Itr lo n).go i H ∧ ∃ N : St → Hp → Prop, (∀ σ' H', N σ' H' → ∃ m', m' < m ∧ W (i + 1) m' σ' H') ∧ ∀ x H', (Itr lo n).yld i H x H' → g x σ H' fun σ2 H2 => tb { D with nx := N, ct := N, bk := D.nx } σ2 H2) := by
  refine ⟨fun i m σ H => m = n - i ∧ i ≤ n ∧ Pv i σ H, ⟨n, by simp, Nat.zero_le _, h0⟩, ?_⟩
  rintro i m σ H ⟨rfl, hi, p⟩
  by_cases hlt : i < n
  · refine .inr ⟨hlt, Pv (i + 1), fun σ' H' p' => ⟨n - (i + 1), by omega, rfl, hlt, p'⟩, fun x H' y => ?_⟩
    obtain ⟨e, y⟩ := y
    subst e y
    exact hs i σ _ hlt p
  · have e : i = n := by omega
    subst e
    exact .inl ⟨Nat.le_refl _, hd σ H p⟩
end L2
namespace L2
open PySem PySem.Spec PyProof.Rows
abbrev R2 := V → V → Hp → VK → Prop
def OpR (X : Cx) (f : Value → Value → Sem Value) (r : R2) : Prop :=
  ∀ (pins : List (Addr × Obj)) (s : Shared) (σ : St) (H : Hp) (x y : V) (v u : Value) (Q : VK), Inv X pins σ H s → RelV x v → RelV y u → r x y H Q →
    wpAny (model X.prog X.w) X.A (f v u) (EP X pins σ Q) X.xe s
def UnR (X : Cx) (f : Value → Sem Value) (r : V → Hp → VK → Prop) : Prop :=
  ∀ (pins : List (Addr × Obj)) (s : Shared) (σ : St) (H : Hp) (x : V) (v : Value) (Q : VK), Inv X pins σ H s → RelV x v → r x H Q →
    wpAny (model X.prog X.w) X.A (f v) (EP X pins σ Q) X.xe s
def CallR (X : Cx) (f : Value) (r : List V → Hp → VK → Prop) : Prop :=
  ∀ (pins : List (Addr × Obj)) (s : Shared) (σ : St) (H : Hp) (xs : List V) (us : List Value) (Q : VK), Inv X pins σ H s → Vals xs us → r xs H Q →
    wpAny (model X.prog X.w) X.A (call f us) (EP X pins σ Q) X.xe s
def tOp (r : R2) (ta tb : TE) : TE := fun σ H Q => ta σ H fun x H1 => tb σ H1 fun y H2 => r x y H2 Q
def tUn (r : V → Hp → VK → Prop) (ta : TE) : TE := fun σ H Q => ta σ H fun x H1 => r x H1 Q
def rI (C : Int → Int → Prop) (g : Int → Int → V) : R2 := fun x y H Q => ∃ i j, x = .int i ∧ y = .int j ∧ C i j ∧ Q (g i j) H
def rI0 (g : Int → Int → V) : R2 := fun x y H Q => ∃ i j, x = .int i ∧ y = .int j ∧ Q (g i j) H
def rU (g : Int → V) : V → Hp → VK → Prop := fun x H Q => ∃ i, x = .int i ∧ Q (g i) H
section
variable {X : Cx} {a b c : Expr} {ta tb tc : TE} {pos : Pos}
theorem binT (ha : PE X a ta) (hb : PE X b tb) {pins : List (Addr × Obj)} {s : Shared} {σ : St} {H : Hp} {R : V → V → Hp → Prop} (I : Inv X pins σ H s)
    (h : ta σ H fun x H1 => tb σ H1 fun y H2 => R x y H2) {Q : Value → Shared → Prop} {f : Value → Value → Sem Value}
    (hf : ∀ v u s2 x y H2, Inv X pins σ H2 s2 → RelV x v → RelV y u → R x y H2 → wpAny (model X.prog X.w) X.A (f v u) Q X.xe s2) :
    wpAny (model X.prog X.w) X.A (eval a X.env) (fun v s₁ => wpAny (model X.prog X.w) X.A (eval b X.env) (fun u s₂ => wpAny (model X.prog X.w) X.A (f v u) Q X.xe s₂) X.xe s₁) X.xe s := by
  refine thn (ha pins s σ H _ I h) fun v s1 ⟨x, H1, I1, r1, q1⟩ => ?_
  refine thn (hb pins s1 σ H1 _ I1 q1) fun u s2 ⟨y, H2, I2, r2, q2⟩ => ?_
  exact hf v u s2 x y H2 I2 r1 r2 q2
theorem pe_op {op : Operator} {r : R2} (ho : OpR X (binaryOp op) r) (ha : PE X a ta) (hb : PE X b tb) : PE X (.BinOp a op b pos) (tOp r ta tb) := by
  intro pins s σ H Q I h
  exact wpAny_BinOp (binT ha hb I h fun v u s2 x y H2 I2 rx ry q => ho pins s2 σ H2 x y v u Q I2 rx ry q)
theorem pe_un {op : UnaryOp} {r : V → Hp → VK → Prop} (ho : UnR X (unaryOp op) r) (ha : PE X a ta) : PE X (.UnaryOp op a pos) (tUn r ta) := by
  intro pins s σ H Q I h
  exact UnaryOp_ (thn (ha pins s σ H _ I h) fun v s1 ⟨x, H1, I1, r1, q1⟩ => ho pins s1 σ H1 x v Q I1 r1 q1)
theorem opI {f : Value → Value → Sem Value} {C : Int → Int → Prop} {g : Int → Int → Int}
    (rule : ∀ (i j : Int) (t u : Tok) (s : Shared) (Q : Value → Shared → Prop) (E : Value → Shared → Prop), C i j → Q (.int (g i j) s.toks) { s with toks := s.toks + 1 } → wpAny (model X.prog X.w) X.A (f (.int i t) (.int j u)) Q E s) :
    OpR X f (rI C fun i j => .int (g i j)) := by
  intro pins s σ H x y v u Q I rx ry h
  obtain ⟨i, j, rfl, rfl, hc, q⟩ := h
  obtain ⟨t, rfl⟩ := rx
  obtain ⟨t', rfl⟩ := ry
  exact rule i j t t' s _ _ hc ⟨.int (g i j), H, I.tok _, ⟨_, rfl⟩, q⟩
theorem opI0 {f : Value → Value → Sem Value} {g : Int → Int → Int}
    (rule : ∀ (i j : Int) (t u : Tok) (s : Shared) (Q : Value → Shared → Prop) (E : Value → Shared → Prop), Q (.int (g i j) s.toks) { s with toks := s.toks + 1 } → wpAny (model X.prog X.w) X.A (f (.int i t) (.int j u)) Q E s) :
    OpR X f (rI0 fun i j => .int (g i j)) := by
  intro pins s σ H x y v u Q I rx ry h
  obtain ⟨i, j, rfl, rfl, q⟩ := h
  obtain ⟨t, rfl⟩ := rx
  obtain ⟨t', rfl⟩ := ry
  exact rule i j t t' s _ _ ⟨.int (g i j), H, I.tok _, ⟨_, rfl⟩, q⟩
theorem opB0 {f : Value → Value → Sem Value} {g : Int → Int → Bool}
    (rule : ∀ (i j : Int) (t u : Tok) (s : Shared) (Q : Value → Shared → Prop) (E : Value → Shared → Prop), Q (.bool (g i j)) s → wpAny (model X.prog X.w) X.A (f (.int i t) (.int j u)) Q E s) :
    OpR X f (rI0 fun i j => .bl (g i j)) := by
  intro pins s σ H x y v u Q I rx ry h
  obtain ⟨i, j, rfl, rfl, q⟩ := h
  obtain ⟨t, rfl⟩ := rx
  obtain ⟨t', rfl⟩ := ry
  exact rule i j t t' s _ _ ⟨.bl (g i j), H, I, rfl, q⟩
def CDiv (i j : Int) : Prop := 0 < j ∧ j < 1073741824
def CPow (i j : Int) : Prop := 0 ≤ j ∧ j ≤ 1000000 ∧ i.natAbs < 2 ^ 64
def CMul (i j : Int) : Prop := (-(2 ^ 64) < i ∧ i < 2 ^ 64) ∨ (-(2 ^ 64) < j ∧ j < 2 ^ 64)
theorem CMul.ok {i j : Int} (h : CMul i j) : IntMulOk i j := by
  rcases h with ⟨h1, h2⟩ | ⟨h1, h2⟩
  · exact .of_left (intBits_le_64 h1 h2)
  · exact .of_right (intBits_le_64 h1 h2)
theorem two_pow_nn (k : Nat) : (0 : Int) ≤ 2 ^ k := by
  rw [two_pow_cast]
  exact Int.natCast_nonneg _
theorem op_add : OpR X (binaryOp .Add) (rI0 fun i j => .int (i + j)) := opI0 fun _ _ _ _ _ _ _ q => add_int q
theorem op_sub : OpR X (binaryOp .Sub) (rI0 fun i j => .int (i - j)) := opI0 fun _ _ _ _ _ _ _ q => sub_int q
theorem op_mul : OpR X (binaryOp .Mult) (rI CMul fun i j => .int (i * j)) := opI fun _ _ _ _ _ _ _ hc q => mul_int q hc.ok
theorem op_fdiv : OpR X (binaryOp .FloorDiv) (rI CDiv fun i j => .int (i / j)) := opI fun i j _ _ _ _ _ hc q => by
  have h1 : (0 : Int) < j := hc.1
  have h2 : j < 1073741824 := hc.2
  exact floordiv_int (by omega) (by rw [Int.fdiv_eq_ediv_of_nonneg i (by omega)]; exact q) (.inl (PyProof.noPylong_small (by omega)))
theorem op_mod : OpR X (binaryOp .Mod) (rI (fun _ j => 0 < j) fun i j => .int (i % j)) := opI fun i j _ _ _ _ _ hc q => by
  have h1 : (0 : Int) < j := hc
  exact mod_int' (by omega) (by rw [Int.fmod_eq_emod_of_nonneg i (by omega)]; exact q)
theorem op_shl : OpR X (binaryOp .LShift) (rI CPow fun i j => .int (i * 2 ^ j.toNat)) := opI fun _ _ _ _ _ _ _ hc q => lshift_int_small hc.1 hc.2.1 hc.2.2 q
theorem op_shr : OpR X (binaryOp .RShift) (rI (fun _ j => 0 ≤ j) fun i j => .int (i / 2 ^ j.toNat)) := opI fun i j _ _ _ _ _ hc q =>
  rshift_int hc (by rw [Int.fdiv_eq_ediv_of_nonneg i (two_pow_nn _)]; exact q)
theorem op_and : OpR X (binaryOp .BitAnd) (rI0 fun i j => .int (Builtin.bitAnd i j)) := opI0 fun _ _ _ _ _ _ _ q => and_int q
theorem unI {f : Value → Sem Value} {g : Int → Int}
    (rule : ∀ (i : Int) (t : Tok) (s : Shared) (Q : Value → Shared → Prop) (E : Value → Shared → Prop), Q (.int (g i) s.toks) { s with toks := s.toks + 1 } → wpAny (model X.prog X.w) X.A (f (.int i t)) Q E s) :
    UnR X f (rU fun i => .int (g i)) := by
  intro pins s σ H x v Q I rx h
  obtain ⟨i, rfl, q⟩ := h
  obtain ⟨t, rfl⟩ := rx
  exact rule i t s _ _ ⟨.int (g i), H, I.tok _, ⟨_, rfl⟩, q⟩
theorem un_neg : UnR X (unaryOp .USub) (rU fun i => .int (-i)) := unI fun _ _ _ _ _ q => neg_int q
end
def scal : V → V → Bool
  | .non, .non => true | .non, .int _ => true | .int _, .non => true | .non, .bl _ => true | .bl _, .non => true | .non, .str _ => true | .str _, .non => true
  | .int _, .int _ => true | .bl _, .bl _ => true | .str _, .str _ => true | .byt _, .byt _ => true
  | .int _, .str _ => true | .str _, .int _ => true | .bl _, .str _ => true | .str _, .bl _ => true
  | _, _ => false
def rEq : R2 := fun x y H Q => scal x y = true ∧ Q (.bl (decide (x = y))) H
def rNe : R2 := fun x y H Q => scal x y = true ∧ Q (.bl (!decide (x = y))) H
theorem dec_int {i j : Int} : decide (V.int i = V.int j) = (i == j) := by
  rw [Bool.eq_iff_iff]
  simp
theorem dec_bl {i j : Bool} : decide (V.bl i = V.bl j) = (i == j) := by
  rw [Bool.eq_iff_iff]
  simp
theorem dec_str {i j : Str} : decide (V.str i = V.str j) = (i == j) := by
  rw [Bool.eq_iff_iff]
  simp
theorem dec_byt {i j : Array UInt8} : decide (V.byt i = V.byt j) = (i.toList == j.toList) := by
  rw [Bool.eq_iff_iff]
  cases i
  cases j
  simp
section
variable {X : Cx} {a b c : Expr} {ta tb tc : TE} {pos : Pos}
theorem fin_bl {pins : List (Addr × Obj)} {σ : St} {H : Hp} {s : Shared} {Q : VK} {k k' : Bool} (I : Inv X pins σ H s) (q : Q (.bl k) H) (e : k = k') : EP X pins σ Q (.bool k') s := by
  subst e
  exact ⟨.bl k, H, I, rfl, q⟩
theorem op_eq : OpR X (compareOp .Eq) rEq := by
  intro pins s σ H x y v u Q I rx ry h
  obtain ⟨hs, q⟩ := h
  cases x with
  | non =>
    cases rx
    cases y with
    | non => cases ry; exact PySem.EqNone.eq_none_none (fin_bl I q (by simp))
    | bl j => cases ry; exact PySem.EqNone.eq_none_bool (fin_bl I q (by simp))
    | int j => obtain ⟨t', rfl⟩ := ry; exact PySem.EqNone.eq_none_int (fin_bl I q (by simp))
    | str j => obtain ⟨t', rfl⟩ := ry; exact PySem.EqNone.eq_none_str (fin_bl I q (by simp))
    | _ => exact absurd (show false = true from hs) Bool.false_ne_true
  | bl i =>
    cases rx
    cases y with
    | non => cases ry; exact PySem.EqNone.eq_bool_none (fin_bl I q (by simp))
    | bl j => cases ry; exact eq_bool (fin_bl I q dec_bl)
    | str j => obtain ⟨t', rfl⟩ := ry; exact PySem.EqMixed.eq_bool_str (fin_bl I q (by simp))
    | _ => exact absurd (show false = true from hs) Bool.false_ne_true
  | int i =>
    obtain ⟨t, rfl⟩ := rx
    cases y with
    | non => cases ry; exact PySem.EqNone.eq_int_none (fin_bl I q (by simp))
    | int j => obtain ⟨t', rfl⟩ := ry; exact eq_int (fin_bl I q dec_int)
    | str j => obtain ⟨t', rfl⟩ := ry; exact PySem.EqMixed.eq_int_str (fin_bl I q (by simp))
    | _ => exact absurd (show false = true from hs) Bool.false_ne_true
  | str i =>
    obtain ⟨t, rfl⟩ := rx
    cases y with
    | non => cases ry; exact PySem.EqNone.eq_str_none (fin_bl I q (by simp))
    | bl j => cases ry; exact PySem.EqMixed.eq_str_bool (fin_bl I q (by simp))
    | int j => obtain ⟨t', rfl⟩ := ry; exact PySem.EqMixed.eq_str_int (fin_bl I q (by simp))
    | str j => obtain ⟨t', rfl⟩ := ry; exact eq_str (fin_bl I q dec_str)
    | _ => exact absurd (show false = true from hs) Bool.false_ne_true
  | byt i =>
    obtain ⟨t, rfl⟩ := rx
    cases y with
    | byt j => obtain ⟨t', rfl⟩ := ry; exact PySem.W.eq_bytes (fin_bl I q dec_byt)
    | _ => exact absurd (show false = true from hs) Bool.false_ne_true
  | _ => cases y <;> exact absurd (show false = true from hs) Bool.false_ne_true
theorem op_ne : OpR X (compareOp .NotEq) rNe := by
  intro pins s σ H x y v u Q I rx ry h
  obtain ⟨hs, q⟩ := h
  cases x with
  | non =>
    cases rx
    cases y with
    | non => cases ry; exact PySem.EqNone.ne_none_none (fin_bl I q (by simp))
    | bl j => cases ry; exact PySem.EqNone.ne_none_bool (fin_bl I q (by simp))
    | int j => obtain ⟨t', rfl⟩ := ry; exact PySem.EqNone.ne_none_int (fin_bl I q (by simp))
    | str j => obtain ⟨t', rfl⟩ := ry; exact PySem.EqNone.ne_none_str (fin_bl I q (by simp))
    | _ => exact absurd (show false = true from hs) Bool.false_ne_true
  | bl i =>
    cases rx
    cases y with
    | non => cases ry; exact PySem.EqNone.ne_bool_none (fin_bl I q (by simp))
    | bl j => cases ry; exact ne_bool (fin_bl I q (congrArg not dec_bl))
    | str j => obtain ⟨t', rfl⟩ := ry; exact PySem.EqMixed.ne_bool_str (fin_bl I q (by simp))
    | _ => exact absurd (show false = true from hs) Bool.false_ne_true
  | int i =>
    obtain ⟨t, rfl⟩ := rx
    cases y with
    | non => cases ry; exact PySem.EqNone.ne_int_none (fin_bl I q (by simp))
    | int j => obtain ⟨t', rfl⟩ := ry; exact ne_int (fin_bl I q (congrArg not dec_int))
    | str j => obtain ⟨t', rfl⟩ := ry; exact PySem.EqMixed.ne_int_str (fin_bl I q (by simp))
    | _ => exact absurd (show false = true from hs) Bool.false_ne_true
  | str i =>
    obtain ⟨t, rfl⟩ := rx
    cases y with
    | non => cases ry; exact PySem.EqNone.ne_str_none (fin_bl I q (by simp))
    | bl j => cases ry; exact PySem.EqMixed.ne_str_bool (fin_bl I q (by simp))
    | int j => obtain ⟨t', rfl⟩ := ry; exact PySem.EqMixed.ne_str_int (fin_bl I q (by simp))
    | str j => obtain ⟨t', rfl⟩ := ry; exact ne_str (fin_bl I q (congrArg not dec_str))
    | _ => exact absurd (show false = true from hs) Bool.false_ne_true
  | byt i =>
    obtain ⟨t, rfl⟩ := rx
    cases y with
    | byt j => obtain ⟨t', rfl⟩ := ry; exact PySem.W.ne_bytes (fin_bl I q (congrArg not dec_byt))
    | _ => exact absurd (show false = true from hs) Bool.false_ne_true
  | _ => cases y <;> exact absurd (show false = true from hs) Bool.false_ne_true
theorem op_lt : OpR X (compareOp .Lt) (rI0 fun i j => .bl (decide (i < j))) := opB0 fun _ _ _ _ _ _ _ q => lt_int q
theorem op_le : OpR X (compareOp .LtE) (rI0 fun i j => .bl (decide (i ≤ j))) := opB0 fun _ _ _ _ _ _ _ q => le_int q
theorem op_gt : OpR X (compareOp .Gt) (rI0 fun i j => .bl (decide (j < i))) := opB0 fun _ _ _ _ _ _ _ q => gt_int q
theorem op_ge : OpR X (compareOp .GtE) (rI0 fun i j => .bl (decide (j ≤ i))) := opB0 fun _ _ _ _ _ _ _ q => ge_int q
theorem op_isN : OpR X (compareOp .Is) (fun x y H Q => y = .non ∧ Q (.bl (decide (x = .non))) H) := by
  intro pins s σ H x y v u Q I rx ry h
  obtain ⟨rfl, q⟩ := h
  cases ry
  refine is_none_gen (fin_bl I q ?_)
  cases x <;> first
    | (cases rx; rfl)
    | (obtain ⟨t, rfl⟩ := rx; rfl)
theorem op_notN : OpR X (compareOp .IsNot) (fun x y H Q => y = .non ∧ Q (.bl (!decide (x = .non))) H) := by
  intro pins s σ H x y v u Q I rx ry h
  obtain ⟨rfl, q⟩ := h
  cases ry
  refine isnot_none_gen (fin_bl I q ?_)
  cases x <;> first
    | (cases rx; rfl)
    | (obtain ⟨t, rfl⟩ := rx; rfl)
theorem OpR.or {f : Value → Value → Sem Value} {r r' : R2} (h : OpR X f r) (h' : OpR X f r') : OpR X f (fun x y H Q => r x y H Q ∨ r' x y H Q) := by
  intro pins s σ H x y v u Q I rx ry q
  rcases q with q | q
  · exact h pins s σ H x y v u Q I rx ry q
  · exact h' pins s σ H x y v u Q I rx ry q
theorem nomark (b : Expr) {op : CmpOp} (h : op ≠ .In := by decide) (h2 : op ≠ .NotIn := by decide) : behindInMarks op b = false := by
  have e1 : (op == CmpOp.In) = false := by cases op <;> first | rfl | exact absurd rfl h
  have e2 : (op == CmpOp.NotIn) = false := by cases op <;> first | rfl | exact absurd rfl h2
  cases b <;> simp [behindInMarks, e1, e2]
theorem pe_cmpR {op : CmpOp} {r : R2} (ho : OpR X (compareOp op) r) (ha : PE X a ta) (hb : PE X b tb) (hm : behindInMarks op b = false) : PE X (.Compare a [op] [b] pos) (tOp r ta tb) := by
  intro pins s σ H Q I h
  exact wpAny_Compare1 (binT ha hb I h fun v u s2 x y H2 I2 rx ry q => ho pins s2 σ H2 x y v u Q I2 rx ry q) hm
def tTest (t : TE) : TT := fun σ H Q => t σ H fun x H' => ∃ k, x = .bl k ∧ Q k H'
theorem pt_cmpR {op : CmpOp} {r : R2} (ho : OpR X (compareOp op) r) (ha : PE X a ta) (hb : PE X b tb) (hm : behindInMarks op b = false) : PT X (.Compare a [op] [b] pos) (tTest (tOp r ta tb)) := by
  intro pins s σ H Q I h
  refine wpAny_isTrue_Compare1 (thn (ha pins s σ H _ I h) fun v s1 ⟨x, H1, I1, r1, q1⟩ => thn (hb pins s1 σ H1 _ I1 q1) fun u s2 ⟨y, H2, I2, r2, q2⟩ =>
    thn (ho pins s2 σ H2 x y v u _ I2 r1 r2 q2) fun c s3 ⟨z, H3, I3, r3, k, e, q3⟩ => ?_) hm
  subst e
  cases r3
  exact wpAny_truthy_bool ⟨H3, I3, q3⟩
def tChain (r r' : R2) (ta tb tc : TE) : TE := fun σ H Q => ta σ H fun x H1 => tb σ H1 fun y H2 => r x y H2 fun z H3 => ∃ k, z = .bl k ∧
  (if k = true then tc σ H3 fun w' H4 => r' y w' H4 Q else Q (.bl false) H3)
theorem pt_chain {op op' : CmpOp} {r r' : R2} (ho : OpR X (compareOp op) r) (ho' : OpR X (compareOp op') r') (ha : PE X a ta) (hb : PE X b tb) (hc : PE X c tc)
    (hm : lastMarks [op, op'] [b, c] = false := by with_unfolding_all rfl) : PT X (.Compare a [op, op'] [b, c] pos) (tTest (tChain r r' ta tb tc)) := by
  intro pins s σ H Q I h
  refine isTrue_chain (thn (ha pins s σ H _ I h) fun v s1 ⟨x, H1, I1, r1, q1⟩ => test_link (thn (hb pins s1 σ H1 _ I1 q1) fun u s2 ⟨y, H2, I2, r2, q2⟩ =>
    thn (ho pins s2 σ H2 x y v u _ I2 r1 r2 q2) fun d s3 ⟨z, H3, I3, r3, k, e, q3⟩ => ?_)) hm
  subst e
  cases r3
  refine wpAny_truthy_bool ?_
  cases k with
  | false =>
    obtain ⟨k', e', q'⟩ := q3
    cases e'
    exact ite_ff ⟨H3, I3, q'⟩
  | true =>
    refine ite_tt (test_last (thn (hc pins s3 σ H3 _ I3 q3) fun w' s4 ⟨z', H4, I4, r4, q4⟩ => thn (ho' pins s4 σ H4 y z' u w' _ I4 r2 r4 q4) fun d' s5 ⟨z2, H5, I5, r5, k2, e2, q5⟩ => ?_))
    subst e2
    cases r5
    exact wpAny_truthy_bool ⟨H5, I5, q5⟩
theorem line63 : (sizeLine : Nat) < 2 ^ 63 := by rw [sizeLine_eq]; decide
theorem op_add_str : OpR X (binaryOp .Add) (fun x y H Q => ∃ i j, x = .str i ∧ y = .str j ∧ i.length + j.length ≤ sizeLine ∧ Q (.str (i ++ j)) H) := by
  intro pins s σ H x y v u Q I rx ry h
  obtain ⟨i, j, rfl, rfl, hz, q⟩ := h
  obtain ⟨t, rfl⟩ := rx
  obtain ⟨t', rfl⟩ := ry
  exact add_str (fun t' tk => ⟨.str (i ++ j), H, I.tok _, ⟨_, rfl⟩, q⟩) hz
theorem vals1 {x : V} {us : List Value} (r : Vals [x] us) : ∃ u, us = [u] ∧ RelV x u := by
  cases r with
  | cons r1 r2 => cases r2; exact ⟨_, rfl, r1⟩
theorem vals2 {x y : V} {us : List Value} (r : Vals [x, y] us) : ∃ u w', us = [u, w'] ∧ RelV x u ∧ RelV y w' := by
  cases r with
  | cons r1 r2 =>
    cases r2 with
    | cons r3 r4 => cases r4; exact ⟨_, _, rfl, r1, r3⟩
theorem call_max2 (hc : X.calm = true) : CallR X (.builtin "max") (fun xs H Q => ∃ i j, xs = [.int i, .int j] ∧ Q (.int (if j > i then j else i)) H) := by
  intro pins s σ H xs us Q I r h
  obtain ⟨i, j, rfl, q⟩ := h
  obtain ⟨u, w', rfl, ⟨t, rfl⟩, ⟨t', rfl⟩⟩ := vals2 r
  refine max_two_ints (I.ok.hd hc) fun h' tk k => ⟨_, H, I.kept k, ?_, q⟩
  by_cases hj : j > i
  · rw [if_pos hj, if_pos hj]; exact ⟨_, rfl⟩
  · rw [if_neg hj, if_neg hj]; exact ⟨_, rfl⟩
theorem call_min2 (hc : X.calm = true) : CallR X (.builtin "min") (fun xs H Q => ∃ i j, xs = [.int i, .int j] ∧ Q (.int (if j < i then j else i)) H) := by
  intro pins s σ H xs us Q I r h
  obtain ⟨i, j, rfl, q⟩ := h
  obtain ⟨u, w', rfl, ⟨t, rfl⟩, ⟨t', rfl⟩⟩ := vals2 r
  refine min_two_ints (I.ok.hd hc) fun h' tk k => ⟨_, H, I.kept k, ?_, q⟩
  by_cases hj : j < i
  · rw [if_pos hj, if_pos hj]; exact ⟨_, rfl⟩
  · rw [if_neg hj, if_neg hj]; exact ⟨_, rfl⟩
theorem call_int1 : CallR X (.type "int") (fun xs H Q => (∃ i, xs = [.int i] ∧ Q (.int i) H) ∨ ∃ k, xs = [.bl k] ∧ Q (.int (if k then 1 else 0)) H) := by
  intro pins s σ H xs us Q I r h
  rcases h with ⟨i, rfl, q⟩ | ⟨k, rfl, q⟩
  · obtain ⟨u, rfl, t, rfl⟩ := vals1 r
    exact call_int_int ⟨.int i, H, I, ⟨_, rfl⟩, q⟩
  · obtain ⟨u, rfl, r1⟩ := vals1 r
    cases r1
    exact call_int_bool ⟨.int (if k then 1 else 0), H, I.tok _, ⟨_, rfl⟩, q⟩
end
end L2
namespace L2
open PySem PySem.Spec PyProof.Rows
structure ObjM (h : Heap) (x dx C : Addr) (mA : Str → Option Value) : Prop where
  obj : h.get? x = some (PySem.W.instObj C dx)
  ns : h.Ns1 dx mA
  ne : dx ≠ x
theorem lookIn_ns {h : Heap} {dx : Addr} {mA : Str → Option Value} (n : h.Ns1 dx mA) : ∃ od, h.get? dx = some od ∧ ∀ name, PySem.W.lookIn name od = some (mA name) := by
  obtain ⟨o, es, ep, ho, hd, hk, _, hm⟩ := n
  refine ⟨o, ho, fun name => ?_⟩
  have e := hm name
  unfold nsFind findBy at e
  rw [← Array.find?_toList] at e
  unfold PySem.W.lookIn
  rw [hd]
  dsimp only
  split
  · rename_i y q
    rw [q] at e
    exact congrArg some e
  · rename_i q
    rw [q] at e
    have a : es.toList.any (·.refKey) = false := by
      rw [List.any_eq_false]
      intro y hy
      obtain ⟨z, t, hkey⟩ := hk y (Array.mem_toList_iff.mp hy)
      simp [DictEntry.refKey, hkey]
    have a' : ¬ es.toList.any (·.refKey) = true := by rw [a]; exact Bool.false_ne_true
    rw [if_neg a']
    exact congrArg some e
section
variable {prog : Program} {w : World} {A : Around} {E : Value → Shared → Prop} {s : Shared} {K : PySem.W.Frag} {x dx C f : Addr} {mA : Str → Option Value} {name : Str} {v : Value}
end
def putF (f : Str) (v : V) : List (Str × V) → List (Str × V)
  | [] => [(f, v)]
  | (g, x) :: r => if g = f then (g, v) :: r else (g, x) :: putF f v r
theorem lookup_putF (f g : Str) (v : V) : ∀ fs : List (Str × V), (putF f v fs).lookup g = if g = f then some v else fs.lookup g
  | [] => by
    show List.lookup g [(f, v)] = _
    by_cases h : g = f
    · have hb : (g == f) = true := beq_iff_eq.mpr h
      simp only [List.lookup, hb, if_pos h]
    · have hb : (g == f) = false := beq_eq_false_iff_ne.mpr h
      simp only [List.lookup, hb, if_neg h]
  | (k, x) :: r => by
    have ih := lookup_putF f g v r
    rw [show putF f v ((k, x) :: r) = (if k = f then (k, v) :: r else (k, x) :: putF f v r) from rfl]
    by_cases hk : k = f
    · rw [if_pos hk]
      by_cases h : g = k
      · have hb : (g == k) = true := beq_iff_eq.mpr h
        simp only [List.lookup, hb, if_pos (h.trans hk)]
      · have hb : (g == k) = false := beq_eq_false_iff_ne.mpr h
        simp only [List.lookup, hb, if_neg (fun e : g = f => h (e.trans hk.symm))]
    · rw [if_neg hk]
      by_cases h : g = k
      · have hb : (g == k) = true := beq_iff_eq.mpr h
        simp only [List.lookup, hb, if_neg (fun e : g = f => hk (h.symm.trans e))]
      · have hb : (g == k) = false := beq_eq_false_iff_ne.mpr h
        simp only [List.lookup, hb]
        exact ih
theorem keys_putF (f : Str) (v : V) : ∀ fs : List (Str × V), f ∈ (putF f v fs).map (·.1) ∧ ∀ g, g ∈ fs.map (·.1) → g ∈ (putF f v fs).map (·.1)
  | [] => ⟨by simp [putF], fun g h => by simp at h⟩
  | (k, x) :: r => by
    obtain ⟨i1, i2⟩ := keys_putF f v r
    rw [show putF f v ((k, x) :: r) = (if k = f then (k, v) :: r else (k, x) :: putF f v r) from rfl]
    by_cases hk : k = f
    · rw [if_pos hk]
      subst hk
      exact ⟨by simp, fun g h => by simpa using h⟩
    · rw [if_neg hk]
      refine ⟨?_, fun g h => ?_⟩
      · rw [List.map_cons]
        exact List.mem_cons_of_mem _ i1
      · rw [List.map_cons] at h ⊢
        rcases List.mem_cons.mp h with e | e
        · exact List.mem_cons.mpr (.inl e)
        · exact List.mem_cons_of_mem _ (i2 g e)
theorem RelO.some_of {v : V} {o : Option Value} (r : RelO (some v) o) : ∃ u, o = some u ∧ RelV v u := by
  cases o with
  | none => exact (show False from r).elim
  | some u => exact ⟨u, rfl, r⟩
theorem handed_of {v : V} {u : Value} (r : RelV v u) : PySem.W.handedIn u = true := by
  cases v with
  | non => cases (show u = Value.none from r); rfl
  | bl b => cases (show u = Value.bool b from r); rfl
  | int i => obtain ⟨t, e⟩ := (show ∃ t, u = Value.int i t from r); cases e; rfl
  | str x => obtain ⟨t, e⟩ := (show ∃ t, u = Value.str x t from r); cases e; rfl
  | byt b => obtain ⟨t, e⟩ := (show ∃ t, u = Value.bytes b t from r); cases e; rfl
  | flt b => obtain ⟨t, e⟩ := (show ∃ t, u = Value.float b t from r); cases e; rfl
  | ref a => cases (show u = Value.ref a from r); rfl
  | ty n => cases (show u = Value.type n from r); rfl
section
variable {P : Program} {w : World} {H H' : Hp} {h h' : Heap} {a C dx : Addr} {fs fs' : List (Str × V)}
end
structure Cls (K : PySem.W.Frag) (C : Addr) : Prop where
  pg : PySem.W.plainGet K C Str.empty = true
  hd : PySem.W.hasDictIn K C = true
  po : PySem.W.plainOver K C = true
  sa : PySem.W.findIn K (.ref C) "__setattr__" = some (some (.builtin "object.__setattr__"))
theorem Cls.get {K : PySem.W.Frag} {C : Addr} (c : Cls K C) (f : Str) : PySem.W.plainGet K C f = true := c.pg
def NoAttr (K : PySem.W.Frag) (C : Addr) (f : Str) : Prop := PySem.W.findIn K (.ref C) f = some none
structure Con (K : PySem.W.Frag) (C : Addr) (f : Str) (v : V) (u : Value) : Prop where
  at_ : PySem.W.findIn K (.ref C) f = some (some u)
  rel : RelV v u
  get : PySem.W.specialIn K u "__get__" = some none
  cp : PySem.W.copiedNames.contains f = false
structure Meth (K : PySem.W.Frag) (C : Addr) (m : Str) (f : Addr) : Prop where
  at_ : PySem.W.findIn K (.ref C) m = some (some (.ref f))
  fn : PySem.W.isFn K (.ref f) = true
  kp : PySem.W.keepIn K (.ref f) = true
section
variable {X : Cx} {pins : List (Addr × Obj)} {σ : St} {H : Hp} {s : Shared} {a C dx : Addr} {fs : List (Str × V)} {f : Str} {v : V} {A : Around} {E : Value → Shared → Prop}
theorem Inv.made (I : Inv X pins σ H s) : Inv X pins σ (upd (upd H s.heap.objs.size (.own (s.heap.objs.size + 1))) (s.heap.objs.size + 1) (.ins C s.heap.objs.size []))
    { s with heap := (s.heap.push PySem.W.emptyDict).push (PySem.W.instObj C s.heap.objs.size) } := by
  have e1 : (s.heap.push PySem.W.emptyDict).get? s.heap.objs.size = some PySem.W.emptyDict := Heap.get?_push_size s.heap rfl
  have e2 : ((s.heap.push PySem.W.emptyDict).push (PySem.W.instObj C s.heap.objs.size)).get? (s.heap.objs.size + 1) = some (PySem.W.instObj C s.heap.objs.size) := by
    have := Heap.get?_push_size (s.heap.push PySem.W.emptyDict) (o := PySem.W.instObj C s.heap.objs.size) rfl
    rwa [Heap.size_push] at this
  have e3 : (s.heap.push PySem.W.emptyDict).Ns s.heap.objs.size (fun _ => none) := ⟨PySem.W.emptyDict, #[], _, e1, rfl, (fun e he => absurd he (by simp)), fun _ => rfl⟩
  have I1 := I.laid (a := s.heap.objs.size) (o := .own (s.heap.objs.size + 1)) (h' := s.heap.push PySem.W.emptyDict) (t' := s.toks) (fun b u q => Heap.get?_push_of_some _ q) (Nat.le_refl _) ⟨_, e1⟩
  refine I1.laid (a := s.heap.objs.size + 1) (o := .ins C s.heap.objs.size []) (t' := s.toks) (fun b u q => Heap.get?_push_of_some _ q) (Nat.le_of_eq (Heap.size_push _ _)) ?_
  have ne : s.heap.objs.size ≠ s.heap.objs.size + 1 := Nat.ne_of_lt (Nat.lt_succ_self _)
  refine ⟨by rw [upd_ne ne, upd_same], Nat.zero_le _, ne, e2, fun _ => none, (Heap.Ns1.of_empty e3).at fun o q => Heap.get?_push_of_some _ q, fun _ => True.intro, fun y hy => absurd rfl hy⟩
theorem attr_of {prog : Program} {w : World} {env : Env} {e : Expr} {f : Str} {pos : Pos} {s : Shared} {Q : Value → Shared → Prop} (hb : attributeBase e f env (eval e env) = eval e env)
    (h : wpAny (model prog w) A (eval e env) (fun o s₁ => wpAny (model prog w) A (getAttr o f true) Q E s₁) E s) : wpAny (model prog w) A (eval (.Attribute e f pos) env) Q E s :=
  Attribute_any_ h (by rw [arm_eval_Attribute, hb])
end
section
variable {X : Cx} {o e value : Expr} {f : Str} {pos pos' tpos : Pos} {ta tv : TE}
end
section
variable {X : Cx} {pins : List (Addr × Obj)} {σ : St} {H : Hp} {s : Shared} {A : Around} {E : Value → Shared → Prop} {Q : Value → Shared → Prop} {c : Value} {b : Bool}
inductive TyOf (K : PySem.W.Frag) (H : Hp) : V → Value → Prop where
  | non : TyOf K H .non (.type "NoneType")
  | bl (x : Bool) : TyOf K H (.bl x) (.type "bool")
  | int (i : Int) : TyOf K H (.int i) (.type "int")
  | str (x : Str) : TyOf K H (.str x) (.type "str")
  | flt (x : UInt64) : TyOf K H (.flt x) (.type "float")
  | lst {a : Addr} {xs : List V} (e : H a = some (.lst xs)) : TyOf K H (.ref a) (.type "list")
  | frz {a : Addr} {o : Obj} {xs : List V} (e : H a = some (.frz o (.lst xs))) : TyOf K H (.ref a) (.type "list")
  | tup {a : Addr} {xs : List V} (e : H a = some (.tup xs)) : TyOf K H (.ref a) (.type "tuple")
  | dK {a : Addr} {kvs : List (Key × V)} (e : H a = some (.dK kvs)) : TyOf K H (.ref a) (.type "dict")
  | dT {a : Addr} {kvs : List (List Key × V)} (e : H a = some (.dT kvs)) : TyOf K H (.ref a) (.type "dict")
  | ins {a C dx : Addr} {fs : List (Str × V)} (e : H a = some (.ins C dx fs)) (cl : Cls K C) (ha : PySem.W.findIn K (.ref C) "__class__" = some (some (.builtin "object.__class__")))
      (hn : PySem.W.specialIn K (.builtin "object.__class__") "__get__" = some (some (.builtin "getset_descriptor.__get__"))) (htk : PySem.W.takesIn K (.builtin "object.__class__") = some true)
      (hm : PySem.W.mroIn K C (.type "object") = some true) : TyOf K H (.ref a) (.ref C)
end
end L2
namespace L2
open PySem PySem.Spec PyProof.Rows
structure Room (k : Nat) (A : Around) : Prop where
  hd : A.handled = none
  dp : A.depth + 3 * k + 5 < recursionLimit
  un : A.units + 16 * k + 200 < cLine
  gd : A.guards = some []
theorem Room.mono {j k : Nat} {A : Around} (r : Room k A) (h : j ≤ k) : Room j A := ⟨r.hd, by have := r.dp; omega, by have := r.un; omega, r.gd⟩
theorem Room.deeper {k : Nat} {A : Around} (r : Room (k + 1) A) (env : Env) : Room k (A.deeper env) :=
  ⟨r.hd, by have := r.dp; show A.depth + 1 + 3 * k + 5 < _; omega, by have := r.un; show A.units + 3 + 16 * k + 200 < _; omega, r.gd⟩
theorem Room.in1 {k : Nat} {A : Around} (r : Room (k + 1) A) : Room k A.in1 :=
  ⟨r.hd, by have := r.dp; show A.depth + 3 * k + 5 < _; omega, by have := r.un; show A.units + 1 + 16 * k + 200 < _; omega, r.gd⟩
theorem make_depth {A : Around} {C : Addr} {us : List Value} {kw : List (Str × Value)} : (A.under (.builtin "type.__call__" ⟨.ref C :: us, kw⟩)).depth = A.depth + 1 := by
  first | rfl | simp [Around.under, Code.weight, Code.isCreation, Code.isGuard, Code.isCaller, Code.frames, Code.isFrame, guardIds]
theorem make_units {A : Around} {C : Addr} {us : List Value} {kw : List (Str × Value)} : (A.under (.builtin "type.__call__" ⟨.ref C :: us, kw⟩)).units = A.units + 1 := by
  first | rfl | simp [Around.under, Code.cUnits, Code.frames, Code.isFrame]
theorem Room.make {k : Nat} {A : Around} (r : Room (k + 1) A) (C : Addr) (us : List Value) (kw : List (Str × Value)) : Room k (A.under (.builtin "type.__call__" ⟨.ref C :: us, kw⟩)) :=
  ⟨r.hd, by have := r.dp; rw [make_depth]; omega, by have := r.un; rw [make_units]; omega, r.gd⟩
theorem Room.depth {k : Nat} {A : Around} (r : Room k A) : A.depth < recursionLimit := by have := r.dp; omega
theorem Room.units {k : Nat} {A : Around} (r : Room k A) : A.units + 64 < cLine := by have := r.un; omega
def tNil : TA := fun _ H Q => Q [] H
def tCons (ta : TE) (tr : TA) : TA := fun σ H Q => ta σ H fun x H1 => tr σ H1 fun xs H2 => Q (x :: xs) H2
section
variable {X : Cx} {e : Expr} {es : List Expr} {te : TE} {t : TA} {pos : Pos}
theorem pa_nil : PA X [] tNil := fun _ _ _ _ H Q I h => Calls.spliced_nil ⟨[], H, I, .nil, h⟩
theorem pa_cons (ha : PE X e te) (hr : PA X es t) (hs : starEach (e :: es) X.env = (false, eval e X.env) :: starEach es X.env := by rfl) : PA X (e :: es) (tCons te t) := by
  intro pos pins s σ H Q I h
  rw [hs]
  show wpAny _ _ (spliced ((false, eval e X.env) :: backTo pos (starEach es X.env))) _ _ s
  refine Calls.spliced_cons (thn (ha pins s σ H _ I h) fun u s1 ⟨x, H1, I1, r1, q1⟩ => ?_)
  exact thn (hr pos pins s1 σ H1 _ I1 q1) fun us s2 ⟨xs, H2, I2, r2, q2⟩ => ⟨x :: xs, H2, I2, .cons r1 r2, q2⟩
def tTup (t : TA) : TE := fun σ H Q => t σ H fun xs H1 => xs.length ≤ sizeLine ∧ ∀ p, H1 p = none → Q (.ref p) (upd H1 p (.tup xs))
def tLst (t : TA) : TE := fun σ H Q => t σ H fun xs H1 => xs.length ≤ sizeLine ∧ ∀ p, H1 p = none → Q (.ref p) (upd H1 p (.lst xs))
theorem pe_tup {x1} (h : PA X es t) : PE X (.Tuple es x1 pos) (tTup t) := by
  intro pins s σ H Q I hq
  refine wpAny_Tuple_spliced (thn (h pos pins s σ H _ I hq) fun us s1 ⟨xs, H1, I1, r, z, q⟩ => ⟨by rw [← r.length]; exact z, ?_⟩)
  have hf : H1 s1.heap.objs.size = none := I1.hok.fresh (Nat.le_refl _)
  refine ⟨.ref s1.heap.objs.size, upd H1 s1.heap.objs.size (.tup xs), I1.laid (t' := s1.toks) (fun b u e => Heap.get?_push_of_some _ e) (Nat.le_refl _) ?_, rfl, q _ hf⟩
  exact ⟨z, us, r, ⟨_, Heap.get?_push_size _ rfl, rfl, _, rfl⟩⟩
theorem pe_lst (h : PA X es t) : PE X (.List es pos) (tLst t) := by
  intro pins s σ H Q I hq
  refine wpAny_List_spliced (thn (h pos pins s σ H _ I hq) fun us s1 ⟨xs, H1, I1, r, z, q⟩ => ⟨by rw [← r.length]; exact z, ?_⟩)
  have hf : H1 s1.heap.objs.size = none := I1.hok.fresh (Nat.le_refl _)
  refine ⟨.ref s1.heap.objs.size, upd H1 s1.heap.objs.size (.lst xs), I1.laid (t' := s1.toks) (fun b u e => Heap.get?_push_of_some _ e) (Nat.le_refl _) ?_, rfl, q _ hf⟩
  exact ⟨z, us, 0, r, Heap.get?_push_size _ rfl⟩
end
abbrev Sp := List V → Hp → VK → XK → Prop
abbrev CXT := List Env → Hp → Shared → XK → Value → Shared → Prop
structure Env0 (P : Program) (w : World) (K : PySem.W.Frag) (mg : Str → Option Value) (base : Heap) (A : Around) (outer : List Env) (s : Shared) (H : Hp) : Prop where
  frames : A.frames = some outer
  mod : Mod K mg base
  bs : ∀ b o, base.get? b = some o → s.heap.get? b = some o ∧ H b = none
  bsz : base.objs.size ≤ s.heap.objs.size
  funs : s.heap.FunFrames base outer
  frf : ∀ b ∈ frs outer, H b = none
  hok : HOk P w H s.heap
  bare : AllBare s.gens
def CE (outer : List Env) (P : Program) (w : World) (H : Hp) (s : Shared) (Q : VK) (u : Value) (s' : Shared) : Prop :=
  ∃ v H', s'.os = s.os ∧ AllBare s'.gens ∧ Un (frs outer) [] H H' s.heap s'.heap ∧ HOk P w H' s'.heap ∧ RelV v u ∧ Q v H'
def CR (CX : CXT) (outer : List Env) (P : Program) (w : World) (H : Hp) (s : Shared) (Q : VK) (E : XK) (r : Result) (s' : Shared) : Prop :=
  match r with
  | .ok (.ret u) => CE outer P w H s Q u s'
  | .ok _ => False
  | .error e => CX outer H s E e s'
structure FnOk (P : Program) (w : World) (K : PySem.W.Frag) (mg : Str → Option Value) (base : Heap) (CX : CXT) (k : Nat) (f : Addr) (fd : FuncData) (ps : List Str) (sp : Sp) : Prop where
  len : ∀ vs H Q E, sp vs H Q E → vs.length = ps.length
  run : ∀ (A : Around) (outer : List Env) (s : Shared) (H : Hp) (args : Args) (us : List Value) (vs : List V) (Q : VK) (E : XK), Room k A → Env0 P w K mg base A outer s H → BindsTo s fd args (ps.zip us) → Vals vs us → sp vs H Q E →
    codeAny (model P w) A (.call (.ref f) args) (CR CX outer P w H s Q E) s
theorem FnOk.mono {P : Program} {w : World} {K : PySem.W.Frag} {mg : Str → Option Value} {base : Heap} {CX : CXT} {j k : Nat} {f : Addr} {fd : FuncData} {ps : List Str} {sp : Sp} (F : FnOk P w K mg base CX j f fd ps sp) (h : j ≤ k) :
    FnOk P w K mg base CX k f fd ps sp := ⟨F.len, fun A outer s H args us vs Q E hr => F.run A outer s H args us vs Q E (hr.mono h)⟩
theorem Env0.make {P : Program} {w : World} {K : PySem.W.Frag} {mg : Str → Option Value} {base : Heap} {A : Around} {outer : List Env} {s : Shared} {H : Hp} (e : Env0 P w K mg base A outer s H) (C : Addr) (us : List Value) (kw : List (Str × Value)) :
    Env0 P w K mg base (A.under (.builtin "type.__call__" ⟨.ref C :: us, kw⟩)) outer s H := ⟨by first | exact e.frames | (simpa [Around.under, Code.envs, Code.isFrame, pushEnvs] using e.frames), e.mod, e.bs, e.bsz, e.funs, e.frf, e.hok, e.bare⟩
theorem Env0.in1 {P : Program} {w : World} {K : PySem.W.Frag} {mg : Str → Option Value} {base : Heap} {A : Around} {outer : List Env} {s : Shared} {H : Hp} (e : Env0 P w K mg base A outer s H) :
    Env0 P w K mg base A.in1 outer s H := ⟨e.frames, e.mod, e.bs, e.bsz, e.funs, e.frf, e.hok, e.bare⟩
section
variable {X : Cx} {pins : List (Addr × Obj)} {σ : St} {H : Hp} {s s' : Shared}
theorem Inv.env0 (I : Inv X pins σ H s) : Env0 X.prog X.w X.K X.mg X.base X.A X.stack s H :=
  ⟨I.ok.frames, I.ok.mod, I.bs, Nat.le_trans I.ok.bsz I.sz, I.stack, I.stkFree, I.hok, I.bare⟩
theorem Inv.after {Q : VK} {u : Value} (I : Inv X pins σ H s) (h : CE X.stack X.prog X.w H s Q u s') : EP X pins σ Q u s' := by
  obtain ⟨v, H', os, bare, un, hok, r, q⟩ := h
  obtain ⟨hh, g, d, t, os'⟩ := s'
  obtain rfl : os' = s.os := os
  exact ⟨v, H', I.call (h' := hh) (g' := g) (d' := d) (t' := t) (ch := []) un hok bare (fun b z => absurd z (by simp)), r, q⟩
end
def tCall (sp : Sp) (dvs : List V) (E : XK) (t : TA) : TE := fun σ H Q => t σ H fun vs H1 => sp (vs ++ dvs) H1 Q E
def Binds (K : PySem.W.Frag) (fd : FuncData) (ps : List Str) (ds : List Value) : Prop :=
  ∀ (s : Shared) (us : List Value), K.In s.heap → (us ++ ds).length = ps.length → BindsTo s fd ⟨us, []⟩ (ps.zip (us ++ ds))
theorem Binds.all {K : PySem.W.Frag} {fd : FuncData} {ps : List Str} (h : ∀ us : List Value, us.length = ps.length → bindArgs fd ⟨us, []⟩ = pure (ps.zip us)) : Binds K fd ps [] := fun s us _ hl => by
  rw [List.append_nil] at hl ⊢
  exact .of_eq (h us hl)
def Passes (CX : CXT) (X : Cx) (E : XK) : Prop := ∀ (pins : List (Addr × Obj)) (σ : St) (H : Hp) (s : Shared) (e : Value) (s' : Shared), Inv X pins σ H s → CX X.stack H s E e s' → X.xe e s'
section
variable {X : Cx} {CX : CXT} {k : Nat} {f C : Addr} {fd : FuncData} {ps : List Str} {sp : Sp} {dvs : List V} {ds : List Value} {E : XK} {x m : Str} {p pos apos : Pos} {e o : Expr} {es : List Expr} {ta : TE} {t : TA}
theorem run_fn {pins : List (Addr × Obj)} {σ : St} {H : Hp} {s : Shared} {Q : VK} {us : List Value} {vs : List V} (F : FnOk X.prog X.w X.K X.mg X.base CX k f fd ps sp) (hr : Room k X.A) (hb : Binds X.K fd ps ds) (hd : Vals dvs ds) (hx : Passes CX X E)
    (I : Inv X pins σ H s) (r : Vals vs us) (h : sp (vs ++ dvs) H Q E) : wpAny (model X.prog X.w) X.A (call (.ref f) us) (EP X pins σ Q) X.xe s := by
  have r2 : Vals (vs ++ dvs) (us ++ ds) := r.append hd
  have hl : (us ++ ds).length = ps.length := by rw [← r2.length]; exact F.len _ _ _ _ h
  refine wpAny_call (codeAny_mono (F.run X.A X.stack s H ⟨us, []⟩ (us ++ ds) (vs ++ dvs) Q E hr I.env0 (hb s us I.kIn hl) r2 h) fun r s' hq => ?_)
  cases r with
  | error e => exact hx pins σ H s e s' I hq
  | ok fl =>
    cases fl with
    | ret u => exact I.after hq
    | next => exact False.elim hq
    | brk => exact False.elim hq
    | cont => exact False.elim hq
theorem pe_call (F : FnOk X.prog X.w X.K X.mg X.base CX k f fd ps sp) (hr : Room k X.A) (hg : Gl X x) (hm : X.mg x = some (.ref f)) (hk : PySem.W.keepIn X.K (.ref f) = true) (hb : Binds X.K fd ps ds) (hd : Vals dvs ds) (hx : Passes CX X E)
    (ha : PA X (e :: es) t) (hdb : (x == ("__debug__" : Str)) = false := by decide) (he : starEach (e :: es) X.env = (false, eval e X.env) :: starEach es X.env := by rfl) (hpl : (backTo pos (starEach es X.env)).any (·.1) = false := by rfl) :
    PE X (.Call (.Name x p) (e :: es) [] pos) (tCall sp dvs E t) := by
  intro pins s σ H Q I h
  refine wpAny_Call_Name_kw (ld_glob I hg hm ?_ hdb)
  refine PySem.W.callWith_K (h₀ := X.base) I.ok.mod.kin hk (thn (ha pos pins s σ H _ I h) fun us s1 ⟨vs, H1, I1, r, q⟩ => ⟨I1.kIn, ?_⟩) he hpl
  exact run_fn F hr hb hd hx I1 r q
theorem pe_call0 (F : FnOk X.prog X.w X.K X.mg X.base CX k f fd ps sp) (hr : Room k X.A) (hg : Gl X x) (hm : X.mg x = some (.ref f)) (hk : PySem.W.keepIn X.K (.ref f) = true) (hb : Binds X.K fd ps ds) (hd : Vals dvs ds) (hx : Passes CX X E)
    (hdb : (x == ("__debug__" : Str)) = false := by decide) : PE X (.Call (.Name x p) [] [] pos) (tCall sp dvs E tNil) := by
  intro pins s σ H Q I h
  refine wpAny_Call_Name_kw (ld_glob I hg hm ?_ hdb)
  exact PySem.W.callWith_K0 I.kIn hk (run_fn (us := []) F hr hb hd hx I .nil h)
structure Mk (K : PySem.W.Frag) (C f : Addr) : Prop where
  makes : PySem.W.makesIn K C = true
  init : PySem.W.findIn K (.ref C) "__init__" = some (some (.ref f))
  fn : PySem.W.isFn K (.ref f) = true
  kp : PySem.W.keepIn K (.ref C) = true
end
section
variable {X : Cx} {CX : CXT} {k : Nat} {f C : Addr} {fd : FuncData} {ps ks : List Str} {sp : Sp} {E : XK} {x m : Str} {p pos apos kpos : Pos} {e o : Expr} {es : List Expr} {kws : List Keyword} {te ta : TE} {t tk : TA} {nm : Option Str}
structure KBinds (K : PySem.W.Frag) (fd : FuncData) (ps ks : List Str) (g : List Value → List Value → List Value) (gV : List V → List V → List V) : Prop where
  to : ∀ (s : Shared) (us ws : List Value), K.In s.heap → (g us ws).length = ps.length → BindsTo s fd ⟨us, ks.zip ws⟩ (ps.zip (g us ws))
  rel : ∀ {vs : List V} {us : List Value} {zs : List V} {ws : List Value}, Vals vs us → Vals zs ws → Vals (gV vs zs) (g us ws)
variable {g : List Value → List Value → List Value} {gV : List V → List V → List V}
end
structure FnScope (N P : List Str) (sc : Scope) : Prop where
  kind : sc.kind = .function
  co : sc.isCoroutine = false
  gen : sc.isGenerator = false
  nd : N.Nodup
  pre : N.take P.length = P
  par : ∀ x ∈ P, sc.names.lookup x = some .local ∨ sc.names.lookup x = some .cell
  nofree : ∀ y ∈ sc.names, y.2 ≠ .free
theorem bindL_out {kindOf : Str → Option NameKind} {x : Str} : ∀ {binds : List (Str × Value)} {m : Str → Option Value}, (∀ v, (x, v) ∉ binds) → bindL kindOf binds m x = m x
  | [], _, _ => rfl
  | (n, v) :: r, m, h => by
    unfold bindL
    rw [bindL_out fun w hw => h w (List.mem_cons_of_mem _ hw)]
    split
    · have : x ≠ n := by rintro rfl; exact h v List.mem_cons_self
      simp [this]
    · rfl
theorem bindC_out {kindOf : Str → Option NameKind} {x : Str} : ∀ {binds : List (Str × Value)} {m : Str → Option Value}, (∀ v, (x, v) ∉ binds) → bindC kindOf binds m x = m x
  | [], _, _ => rfl
  | (n, v) :: r, m, h => by
    unfold bindC
    rw [bindC_out fun w hw => h w (List.mem_cons_of_mem _ hw)]
    split
    · rfl
    · have : x ≠ n := by rintro rfl; exact h v List.mem_cons_self
      simp [this]
theorem bindL_get {kindOf : Str → Option NameKind} {x : Str} {v : Value} : ∀ {P : List Str} {vs : List Value} {i : Nat} {m : Str → Option Value}, P.Nodup → P[i]? = some x → vs[i]? = some v → kindOf x = some .local →
    bindL kindOf (P.zip vs) m x = some v
  | [], _, _, _, _, h, _, _ => by simp at h
  | _ :: _, [], _, _, _, _, h, _ => by simp at h
  | p :: P, w :: vs, 0, m, nd, h1, h2, hk => by
    simp at h1 h2; subst h1; subst h2
    show bindL kindOf ((p, w) :: P.zip vs) m p = _
    unfold bindL
    rw [bindL_out fun v hv => (List.nodup_cons.mp nd).1 (List.of_mem_zip hv).1, if_pos hk]
    simp
  | p :: P, w :: vs, i + 1, m, nd, h1, h2, hk => by
    show bindL kindOf ((p, w) :: P.zip vs) m x = _
    unfold bindL
    exact bindL_get (i := i) (List.nodup_cons.mp nd).2 (by simpa using h1) (by simpa using h2) hk
theorem bindC_get {kindOf : Str → Option NameKind} {x : Str} {v : Value} : ∀ {P : List Str} {vs : List Value} {i : Nat} {m : Str → Option Value}, P.Nodup → P[i]? = some x → vs[i]? = some v → kindOf x ≠ some .local →
    bindC kindOf (P.zip vs) m x = some v
  | [], _, _, _, _, h, _, _ => by simp at h
  | _ :: _, [], _, _, _, _, h, _ => by simp at h
  | p :: P, w :: vs, 0, m, nd, h1, h2, hk => by
    simp at h1 h2; subst h1; subst h2
    show bindC kindOf ((p, w) :: P.zip vs) m p = _
    unfold bindC
    rw [bindC_out fun v hv => (List.nodup_cons.mp nd).1 (List.of_mem_zip hv).1, if_neg hk]
    simp
  | p :: P, w :: vs, i + 1, m, nd, h1, h2, hk => by
    show bindC kindOf ((p, w) :: P.zip vs) m x = _
    unfold bindC
    exact bindC_get (i := i) (List.nodup_cons.mp nd).2 (by simpa using h1) (by simpa using h2) hk
def start (N : List Str) (vs : List V) : St := vs.map some ++ List.replicate (N.length - vs.length) none
def cxOf (CX : CXT) (P : Program) (w : World) (K : PySem.W.Frag) (mg : Str → Option Value) (base : Heap) (N : List Str) (qual : Str) (scope : Scope) (f : Addr) (cd : Value) (A : Around) (outer : List Env) (s : Shared) (H : Hp) (E : XK) : Cx where
  prog := P
  w := w
  K := K
  mg := mg
  base := base
  A := A.deeper (envOfC qual scope s.heap.objs.size f cd)
  N := N
  s₀ := s
  H₀ := H
  env := envOfC qual scope s.heap.objs.size f cd
  outer := outer
  stack := envOfC qual scope s.heap.objs.size f cd :: outer
  ex := []
  calm := true
  fn := fun _ => true
  pn := []
  xe := fun e s' => wpAny (model P w) (A.deeper (envOfC qual scope s.heap.objs.size f cd)) (leaving (envOfC qual scope s.heap.objs.size f cd) e) (fun _ s'' => CX outer H s E e s'') (fun e' s'' => CX outer H s E e' s'') s'
theorem cell_has {sc : Scope} {n : Nat} {x : Str} (h : sc.names.lookup x = some .cell) : ∃ c, (cellsFrom n sc.names []).lookup x = some c := by
  have q := PySem.W.cellsFrom_some sc.names n [] (.inl h)
  exact Option.isSome_iff_exists.mp q
theorem inv_start {CX : CXT} {P : Program} {w : World} {K : PySem.W.Frag} {mg : Str → Option Value} {base : Heap} {N ps : List Str} {qual : Str} {scope : Scope} {f : Addr} {cd : Value} {A : Around} {outer : List Env} {s s1 : Shared} {H : Hp} {E : XK} {us : List Value} {vs : List V}
    (S : FnScope N ps scope) (hd : A.handled = none) (e0 : Env0 P w K mg base A outer s H) (hl : vs.length = ps.length) (r : Vals vs us)
    (x : InCallC s s.heap.objs.size (bindL (envOfC qual scope s.heap.objs.size f cd).kindOf (ps.zip us) fun _ => none) (cellsFrom (s.heap.objs.size + 1) scope.names []) (bindC (envOfC qual scope s.heap.objs.size f cd).kindOf (ps.zip us) fun _ => none) s1) :
    Inv (cxOf CX P w K mg base N qual scope f cd A outer s H E) [] (start N vs) H s1 := by
  have hpl : ps.length ≤ N.length := by have := congrArg List.length S.pre; rw [List.length_take] at this; omega
  obtain ⟨h1, tk, rfl, hk⟩ := x.done
  have noA : ∀ b : Addr, b ∉ (cxOf CX P w K mg base N qual scope f cd A outer s H E).ex := fun b z => absurd (show b ∈ ([] : List Addr) from z) (by simp)
  refine ⟨⟨e0.mod, S.kind, rfl, rfl, Nat.le_refl _, fun y z c h1 h2 => ?_, fun y hy => ?_, fun y c _ h => ?_, fun _ => hd, Around.frames_deeper e0.frames, .inr ⟨rfl, rfl⟩, fun b z => absurd z (noA b), e0.bs, e0.bsz, fun b _ _ => noA b, fun b z => absurd z (noA b), e0.funs, e0.frf⟩,
    rfl, e0.bare, Un.kept hk, ⟨_, x.toInCall.ns, fun i y v h1 h2 h3 => ?_⟩, fun y c h => ⟨_, x.cell y c h⟩, e0.hok.fresh (Nat.le_refl _), fun y c h => ?_, fun p hp => absurd (show p ∈ ([] : List (Addr × Obj)) from hp) (by simp), e0.hok.kept hk, ?_⟩
  · exact name_of_addr x.apart (PySem.mem_of_lookup h1) (PySem.mem_of_lookup h2)
  · have hy : scope.names.lookup y = some .cell ∨ scope.names.lookup y = some .free := hy
    rcases hy with hy | hy
    · exact cell_has hy
    · exact absurd rfl (S.nofree _ (PySem.mem_of_lookup hy))
  · exact Nat.le_of_lt (x.above y c (PySem.mem_of_lookup h))
  · have hi : i < vs.length := by
      unfold start at h2
      by_cases hi : i < vs.length
      · exact hi
      · rw [List.getElem?_append_right (by simpa using hi)] at h2
        rw [List.getElem?_replicate] at h2
        split at h2 <;> cases h2
    have ha : vs[i]? = some v := by
      unfold start at h2
      rw [List.getElem?_append_left (by simpa using hi), List.getElem?_map] at h2
      cases e : vs[i]? with
      | none => rw [e] at h2; cases h2
      | some a => rw [e] at h2; cases h2; rfl
    obtain ⟨u, hu, rv⟩ := r.get ha
    have hp : ps[i]? = some y := by
      rw [← S.pre, List.getElem?_take_of_lt (by omega)]; exact h1
    have ndP : ps.Nodup := by rw [← S.pre]; exact S.nd.sublist (List.take_sublist _ _)
    refine ⟨u, rv, ?_⟩
    rcases S.par y (List.mem_of_getElem? hp) with k | k
    · exact .inl ⟨k, bindL_get ndP hp hu k⟩
    · obtain ⟨c, e⟩ := cell_has (n := s.heap.objs.size + 1) k
      refine .inr ⟨.inl k, c, e, ?_⟩
      have q := x.cell y c e
      rw [bindC_get ndP hp hu (by show scope.names.lookup y ≠ _; rw [k]; decide)] at q
      exact q
  · exact e0.hok.fresh (Nat.le_of_lt (x.above y c (PySem.mem_of_lookup h)))
  · unfold start
    show _ = N.length
    rw [List.length_append, List.length_map, List.length_replicate]
    omega
theorem fn_of {CX : CXT} {P : Program} {w : World} {K : PySem.W.Frag} {mg : Str → Option Value} {base : Heap} {k : Nat} {f : Addr} {name qual : Str} {params : Arguments} {body : List Stmt} {scope : Scope} {dV kV doc pm cdv ct oc : Value} {an od : Option Addr}
    {osl : Array (Option Value)} {N ps : List Str} {sp : Sp} (lk : K.lookup f = some ⟨oc, od, .func (PySem.W.fnOf name qual params body scope dV kV doc pm an cdv ct), osl⟩) (hcd : PySem.W.codeIn K cdv qual = true) (S : FnScope N ps scope)
    (len : ∀ vs H Q E, sp vs H Q E → vs.length = ps.length)
    (hbody : ∀ (A : Around) (outer : List Env) (s : Shared) (H : Hp) (vs : List V) (Q : VK) (E : XK), Room k (A.deeper (envOfC qual scope s.heap.objs.size f cdv)) → sp vs H Q E →
      ∃ t, PSs (cxOf CX P w K mg base N qual scope f cdv A outer s H E) body t ∧ t { nx := fun _ H' => Q .non H', rt := Q } (start N vs) H) :
    FnOk P w K mg base CX (k + 1) f (PySem.W.fnOf name qual params body scope dV kV doc pm an cdv ct) ps sp := by
  refine ⟨len, fun A outer s H args us vs Q E hr e0 hb r hsp => ?_⟩
  have hl := len _ _ _ _ hsp
  have KX : K.In s.heap := e0.mod.kin.keeps fun b o e => (e0.bs b o e).1
  have lim : s.heap.NoLimit := e0.mod.nolimit.keeps fun b o e => (e0.bs b o e).1
  have hkind : ∀ y ∈ ps.zip us, scope.names.lookup y.1 = some .local ∨ (scope.names.lookup y.1 = some .cell ∧ ((cellsFrom (s.heap.objs.size + 1) scope.names []).lookup y.1).isSome = true) := fun ⟨n, v⟩ hy => by
    rcases S.par n (List.of_mem_zip hy).1 with q | q
    · exact .inl q
    · exact .inr ⟨q, PySem.W.cellsFrom_some _ _ _ (.inl q)⟩
  refine codeAny_call_function hr.depth (KX _ _ lk) rfl S.co S.gen rfl (PySem.W.codeRec_of KX hcd) (hb _ _ _ _ ?_)
  refine wpAny_newFunctionEnv_cells S.kind hkind fun env he s1 x => ?_
  subst he
  refine ⟨lim.keeps x.toInCall.keep, codeAny_func ?_⟩
  obtain ⟨t, ht, hq⟩ := hbody A outer s H vs Q E (hr.deeper _) hsp
  have I : Inv (cxOf CX P w K mg base N qual scope f cdv A outer s H E) [] (start N vs) H s1 := inv_start S hr.hd e0 hl r x
  refine wpAny_mono (ht [] s1 (start N vs) H _ I hq) (fun fl s' hs => ?_) fun e s' hs => hs
  have fin : ∀ {σ' : St} {H' : Hp} {v : V} {u : Value}, Inv (cxOf CX P w K mg base N qual scope f cdv A outer s H E) [] σ' H' s' → RelV v u → Q v H' → CE outer P w H s Q u s' :=
    fun {σ' H' v u} J rv q => ⟨v, H', J.os, J.bare, J.base, J.hok, rv, q⟩
  cases fl with
  | ret u =>
    obtain ⟨v, σ', H', J, rv, q⟩ := hs
    exact fin J rv q
  | next =>
    obtain ⟨σ', H', J, q⟩ := hs
    exact fin (v := V.non) (u := Value.none) J rfl q
  | brk =>
    obtain ⟨_, _, _, q⟩ := hs
    exact False.elim q
  | cont =>
    obtain ⟨_, _, _, q⟩ := hs
    exact False.elim q
end L2
namespace L2
open PySem PySem.Spec PyProof.Rows
section
variable {X : Cx} {x : Str} {p pos : Pos} {e : Expr} {es : List Expr} {t : TA} {id T : String} {r : List V → Hp → VK → Prop}
def tCB (r : List V → Hp → VK → Prop) (t : TA) : TE := fun σ H Q => t σ H fun vs H1 => r vs H1 Q
theorem pe_callB (hc : CallR X (.builtin id) r) (hg : Gl X x) (hm : X.mg x = none) (hv : bootBuiltins x = some (.builtin id)) (ha : PA X (e :: es) t) (hn : x ≠ "__name__" := by decide) (hdb : (x == ("__debug__" : Str)) = false := by decide)
    (he : starEach (e :: es) X.env = (false, eval e X.env) :: starEach es X.env := by rfl) (hpl : (backTo pos (starEach es X.env)).any (·.1) = false := by rfl) : PE X (.Call (.Name x p) (e :: es) [] pos) (tCB r t) := by
  intro pins s σ H Q I h
  refine wpAny_Call_Name_kw (ld_blt I hg hm hv ?_ hn hdb)
  exact PyProof.Rows.callWith_builtin1 (thn (ha pos pins s σ H _ I h) fun us s1 ⟨vs, H1, I1, r1, q1⟩ => hc pins s1 σ H1 vs us Q I1 r1 q1) he hpl
theorem pe_callTy (hc : CallR X (.type T) r) (hg : Gl X x) (hm : X.mg x = none) (hv : bootBuiltins x = some (.type T)) (ha : PA X (e :: es) t) (hn : x ≠ "__name__" := by decide) (hdb : (x == ("__debug__" : Str)) = false := by decide)
    (he : starEach (e :: es) X.env = (false, eval e X.env) :: starEach es X.env := by rfl) (hpl : (backTo pos (starEach es X.env)).any (·.1) = false := by rfl) : PE X (.Call (.Name x p) (e :: es) [] pos) (tCB r t) := by
  intro pins s σ H Q I h
  refine wpAny_Call_Name_kw (ld_blt I hg hm hv ?_ hn hdb)
  exact PyProof.Rows.callWith_type1 (thn (ha pos pins s σ H _ I h) fun us s1 ⟨vs, H1, I1, r1, q1⟩ => hc pins s1 σ H1 vs us Q I1 r1 q1) he hpl
end
end L2
namespace HT
open PySem PyProof.Rows
section
open PySem.SeqAt
open PySem.AutoSeq1 (wpAny_loadPart')
open PySem.MeetsSeq PySem.MeetsSeq2 PySem.MeetsSeq3
end
section
variable {prog : Program} {w : World} {A : Around} {E : Value → Shared → Prop} {s : Shared}
theorem cat_tup {t b : Addr} {vs ws : List Value} {Q : Value → Shared → Prop} (ht : IsTup s.heap t vs.toArray) (hb : IsTup s.heap b ws.toArray) (hv : vs ≠ [])
    (h1 : ws = [] → Q (.ref t) s) (h2 : ws ≠ [] → Q (.ref s.heap.objs.size) { s with heap := s.heap.push { cls := .type "tuple", data := .seq (vs ++ ws).toArray } })
    (hsz : vs.length + ws.length ≤ sizeLine) : wpAny (model prog w) A (binaryOp .Add (.ref t) (.ref b)) Q E s := by
  obtain ⟨⟨cls, dd, data, sl⟩, ho, hc, n, hd⟩ := id ht
  obtain ⟨⟨cls2, dd2, data2, sl2⟩, ho2, hc2, n2, hd2⟩ := id hb
  simp only at hc hd hc2 hd2
  subst hc hd hc2 hd2
  have e : vs.toArray ++ ws.toArray = (vs ++ ws).toArray := by simp
  by_cases hw : ws = []
  · exact concat_meets ⟨_, ho, rfl⟩ ⟨_, ho2, rfl⟩ noFill_tuple_add seq_tuple_add PySem.F.slot_tuple_add PySem.F.entry_tuple_add (PySem.F.args_tuple_add_2 _ _)
      (tuple_addW1 t b vs.toArray ws.toArray n n2 dd dd2 sl sl2 (by simpa using hv) (by simp [hw])) ⟨ho, ho2, h1 hw⟩
  · refine concat_meets ⟨_, ho, rfl⟩ ⟨_, ho2, rfl⟩ noFill_tuple_add seq_tuple_add PySem.F.slot_tuple_add PySem.F.entry_tuple_add (PySem.F.args_tuple_add_2 _ _)
      (tuple_addW2 t b vs.toArray ws.toArray n n2 dd dd2 sl sl2 (by simpa using hv) (by simpa using hw) (by rw [List.size_toArray, List.size_toArray]; exact hsz)) ⟨ho, ho2, ?_⟩
    rw [e]
    exact h2 hw
def sIx (n d : Nat) : Option Int → Nat
  | none => d
  | some v => if v < 0 then (v + (n : Int)).toNat else min v.toNat n
theorem sIx_none (n d : Nat) : sIx n d none = d := rfl
theorem sIx_nat (n d k : Nat) : sIx n d (some (k : Int)) = min k n := by
  show (if (k : Int) < 0 then ((k : Int) + (n : Int)).toNat else min (k : Int).toNat n) = min k n
  rw [if_neg (by omega), Int.toNat_natCast]
theorem sIx_le (n d : Nat) (hd : d ≤ n) (o : Option Int) : sIx n d o ≤ n := by
  cases o with
  | none => exact hd
  | some v =>
    show (if v < 0 then (v + (n : Int)).toNat else min v.toNat n) ≤ n
    by_cases hv : v < 0
    · rw [if_pos hv]; omega
    · rw [if_neg hv]; exact Nat.min_le_right _ _
theorem clip_eq (v : Int) (n d : Nat) : (if v < 0 then max (v + (n : Int)) 0 else min v (n : Int)) = ((sIx n d (some v) : Nat) : Int) := by
  show (if v < 0 then max (v + (n : Int)) 0 else min v (n : Int)) = (((if v < 0 then (v + (n : Int)).toNat else min v.toNat n) : Nat) : Int)
  by_cases hv : v < 0
  · simp only [if_pos hv]; omega
  · simp only [if_neg hv]; omega
theorem adjust_gen (lo hi : Option Int) (n : Nat) : Builtin.Slice.sliceAdjust lo hi 1 (n : Int) = (((sIx n 0 lo : Nat) : Int), ((sIx n n hi : Nat) : Int)) := by
  have h1 : ¬ ((1 : Int) < 0) := by omega
  unfold Builtin.Slice.sliceAdjust
  simp only [h1, if_false]
  refine Prod.ext ?_ ?_
  · cases lo with
    | none => rfl
    | some v => exact clip_eq v n 0
  · cases hi with
    | none => rfl
    | some v => exact clip_eq v n n
theorem places_gen (i j : Nat) : Builtin.Slice.slicePlaces (i : Int) (j : Int) 1 = j - i := by
  unfold Builtin.Slice.slicePlaces
  have h1 : (1 : Int) > 0 := by omega
  simp only [h1, if_true, Int.ediv_one]
  split <;> omega
theorem slicePart_ {v : Value} {o : Option Int} {Q : Option Int → Shared → Prop} (p : IsPart v o) (h : Q o s) : wpAny (model prog w) A (Builtin.Slice.slicePartIndex v) Q E s := by
  cases p with
  | none => exact slicePart_none h
  | int i t => exact slicePart_int h
theorem sliceApplied_gen {sl : Addr} {vl vu : Value} {lo hi : Option Int} {n : Nat} {Q : Int × Int × Nat → Shared → Prop} (hs : s.heap.IsSliceOf sl vl vu .none) (pl : IsPart vl lo) (pu : IsPart vu hi)
    (h : Q (((sIx n 0 lo : Nat) : Int), 1, sIx n n hi - sIx n 0 lo) s) : wpAny (model prog w) A (Builtin.Slice.sliceApplied (.ref sl) (pure (n : Int))) Q E s := by
  obtain ⟨os, hos, hcs, hds⟩ := id hs
  unfold Builtin.Slice.sliceApplied Builtin.Slice.sliceFields
  refine wpAny_bind (wpAny_bind (wpAny_field hos hds (x := vl) rfl (wpAny_bind (wpAny_field hos hds (x := vu) rfl (wpAny_bind (wpAny_field hos hds (x := .none) rfl (wpAny_pure ?_)))))))
  refine wpAny_bind (slicePart_none ?_)
  show wpAny _ _ (if ((1 : Int) == 0) = true then _ else _) _ _ s
  rw [if_neg (by decide)]
  refine wpAny_bind (slicePart_ pl (wpAny_bind (slicePart_ pu (wpAny_bind (wpAny_pure ?_)))))
  show wpAny _ _ (match Builtin.Slice.sliceAdjust lo hi 1 (n : Int) with | (lo, hi) => pure (lo, (1 : Int), Builtin.Slice.slicePlaces lo hi 1)) _ _ s
  rw [adjust_gen lo hi n]
  show wpAny _ _ (pure (((sIx n 0 lo : Nat) : Int), (1 : Int), Builtin.Slice.slicePlaces ((sIx n 0 lo : Nat) : Int) ((sIx n n hi : Nat) : Int) 1)) _ _ s
  rw [places_gen]
  exact wpAny_pure h
theorem pick_gen (xs : Array Value) (i k : Nat) : ((List.range k).filterMap fun (m : Nat) => xs[((i : Int) + (m : Int) * 1).toNat]?).toArray = ((xs.toList.drop i).take k).toArray := by
  have e : (fun (m : Nat) => xs[((i : Int) + (m : Int) * 1).toNat]?) = fun m => xs[i + m]? := by
    funext m
    have : ((i : Int) + (m : Int) * 1).toNat = i + m := by omega
    rw [this]
  rw [e]
  have := pick_run xs i k
  rw [List.filterMap_map] at this
  have e2 : ((fun x => xs[x]?) ∘ fun x => i + x) = fun m => xs[i + m]? := rfl
  rw [e2] at this
  rw [this]
theorem getItem_tuple_cut {t sl : Addr} {items : Array Value} {vl vu : Value} {lo hi : Option Int} {Q : Value → Shared → Prop} (ht : IsTup s.heap t items) (hs : s.heap.IsSliceOf sl vl vu .none) (pl : IsPart vl lo) (pu : IsPart vu hi)
    (hw : ¬ (sIx items.size 0 lo = 0 ∧ sIx items.size items.size hi = items.size))
    (h : Q (.ref s.heap.objs.size) { s with heap := s.heap.push { cls := .type "tuple", data := .seq ((items.toList.drop (sIx items.size 0 lo)).take (sIx items.size items.size hi - sIx items.size 0 lo)).toArray } })
    (hsz : items.size ≤ sizeLine) : wpAny (model prog w) A (getItem (.ref t) (.ref sl)) Q E s := by
  have htake : sizeOk (.seq ((items.toList.drop (sIx items.size 0 lo)).take (sIx items.size items.size hi - sIx items.size 0 lo)).toArray) := by
    show ((items.toList.drop (sIx items.size 0 lo)).take (sIx items.size items.size hi - sIx items.size 0 lo)).toArray.size ≤ sizeLine
    rw [List.size_toArray, List.length_take, List.length_drop, Array.length_toList]
    omega
  have hj : sIx items.size items.size hi ≤ items.size := sIx_le _ _ (Nat.le_refl _) hi
  obtain ⟨os, hos, hcs, hds⟩ := id hs
  have hTs : s.TypeIs (.ref sl) "slice" := ⟨os, hos, hcs⟩
  unfold getItem
  try with_reducible refine wpAny_holding ?_
  first | refine wpAny_bind (wpAny_pure ?_) | skip
  refine wpAny_bind (wpAny_sequenceKey ht.typeIs (by decide) ?_)
  refine wpAny_bind (wpAny_callSpecial?_slot (name := Str.ofString "__getitem__") ht.typeIs PyProof.Rows.slot_tuple_getitem
    (wpAny_call_entry PyProof.Rows.slot_tuple_getitem ht.typeIs entry_tuple_getitem ?_ (args_tuple_getitem _ _)))
  show wpAny _ _ (Builtin.Tuple.tupleItemsOf (.ref t) >>= _) _ _ s
  refine wpAny_bind (tupleItemsOf_ ht ?_)
  refine wpAny_bind (wpAny_typeOf hTs ?_)
  rw [if_pos (by decide)]
  refine wpAny_bind (sliceApplied_gen hs pl pu ?_)
  have hno : ¬ ((((sIx items.size 0 lo : Nat) : Int) == 0 && (1 : Int) == 1 && (sIx items.size items.size hi - sIx items.size 0 lo) == items.size) = true) := by
    intro q
    rw [Bool.and_eq_true, Bool.and_eq_true] at q
    have q1 : ((sIx items.size 0 lo : Nat) : Int) = 0 := eq_of_beq q.1.1
    have q2 : sIx items.size items.size hi - sIx items.size 0 lo = items.size := eq_of_beq q.2
    exact hw ⟨by omega, by omega⟩
  show wpAny _ _ (if (((sIx items.size 0 lo : Nat) : Int) == 0 && (1 : Int) == 1 && (sIx items.size items.size hi - sIx items.size 0 lo) == items.size) = true then _ else _) _ _ s
  rw [if_neg hno, pick_gen]
  first
    | exact wpAny_bind (m := Builtin.Tuple.tupleExact _) (wpAny_newObj_type (wpAny_pure ⟨_, rfl, wpAny_pure h⟩) htake)
    | exact wpAny_bind (m := Builtin.Tuple.tupleExact _) (wpAny_newObj_type (wpAny_bind (wpAny_pure (wpAny_pure ⟨_, rfl, wpAny_pure h⟩))) htake)
    | exact wpAny_bind (wpAny_bind (m := Builtin.Tuple.tupleExact _) (wpAny_newObj_type (wpAny_pure (wpAny_pure ⟨_, rfl, wpAny_pure h⟩)) htake))
    | exact wpAny_bind (wpAny_bind (m := Builtin.Tuple.tupleExact _) (wpAny_newObj_type (wpAny_pure ⟨_, rfl, wpAny_pure h⟩) htake))
end
end HT
namespace L2
open PySem PySem.Spec PyProof.Rows
abbrev TO := St → Hp → (Option Int → Hp → Prop) → Prop
def PO (X : Cx) (e : Option Expr) (t : TO) : Prop :=
  ∀ (pins : List (Addr × Obj)) (s : Shared) (σ : St) (H : Hp) (Q : Option Int → Hp → Prop), Inv X pins σ H s → t σ H Q →
    wpAny (model X.prog X.w) X.A (evalPart e X.env) (fun u s' => ∃ o H', Inv X pins σ H' s' ∧ IsPart u o ∧ Q o H') X.xe s
def tNoPart : TO := fun _ H Q => Q none H
def tPart (t : TE) : TO := fun σ H Q => t σ H fun x H1 => ∃ i, x = .int i ∧ Q (some i) H1
section
variable {X : Cx} {e : Expr} {te : TE} {lo hi : Option Expr} {tl th : TO} {pos p2 : Pos}
theorem po_none : PO X none tNoPart := by
  intro pins s σ H Q I h
  rw [evalPart_none]
  exact wpAny_pure ⟨none, H, I, .none, h⟩
theorem po_some (h : PE X e te) : PO X (some e) (tPart te) := by
  intro pins s σ H Q I hw
  rw [evalPart_some]
  refine thn (h pins s σ H _ I hw) fun u s1 ⟨x, H1, I1, r1, q1⟩ => ?_
  obtain ⟨i, rfl, q⟩ := q1
  obtain ⟨t, rfl⟩ := r1
  exact ⟨some i, H1, I1, .int i t, q⟩
def SlR (X : Cx) (r : V → Option Int → Option Int → Hp → VK → Prop) : Prop :=
  ∀ (pins : List (Addr × Obj)) (s : Shared) (σ : St) (H : Hp) (x : V) (v vl vu : Value) (lo hi : Option Int) (sl : Addr) (Q : VK), Inv X pins σ H s → RelV x v → s.heap.IsSliceOf sl vl vu .none → IsPart vl lo → IsPart vu hi → r x lo hi H Q →
    ∃ T id, typeLookup (.type T) "__getitem__" = pure (some (.builtin id)) ∧ s.TypeIs v T ∧ wpAny (model X.prog X.w) X.A (getItem v (.ref sl)) (EP X pins σ Q) X.xe s
theorem SlR.or {r r' : V → Option Int → Option Int → Hp → VK → Prop} (h : SlR X r) (h' : SlR X r') : SlR X (fun x lo hi H Q => r x lo hi H Q ∨ r' x lo hi H Q) := by
  intro pins s σ H x v vl vu lo hi sl Q I rx hs pl pu q
  rcases q with q | q
  · exact h pins s σ H x v vl vu lo hi sl Q I rx hs pl pu q
  · exact h' pins s σ H x v vl vu lo hi sl Q I rx hs pl pu q
def tSl (r : V → Option Int → Option Int → Hp → VK → Prop) (te : TE) (tl th : TO) : TE := fun σ H Q => te σ H fun x H1 => tl σ H1 fun l H2 => th σ H2 fun u H3 => r x l u H3 Q
theorem pe_slice {r : V → Option Int → Option Int → Hp → VK → Prop} (hr : SlR X r) (he : PE X e te) (hl : PO X lo tl) (hu : PO X hi th) : PE X (.Subscript e (.Slice lo hi none p2) pos) (tSl r te tl th) := by
  intro pins s σ H Q I h
  refine Subscript_ (thn (he pins s σ H _ I h) fun v s1 ⟨x, H1, I1, r1, q1⟩ => ?_)
  refine wpAny_Slice (thn (hl pins s1 σ H1 _ I1 q1) fun vl s2 ⟨l, H2, I2, pl, q2⟩ => thn (hu pins s2 σ H2 _ I2 q2) fun vu s3 ⟨u, H3, I3, pu, q3⟩ => ?_)
  rw [evalPart_none]
  refine wpAny_pure ?_
  have I4 : Inv X pins σ H3 { s3 with heap := s3.heap.push { cls := .type "slice", data := .fields #[vl, vu, .none] } } := I3.kept (t' := s3.toks) fun b ob q => Heap.get?_push_of_some _ q
  obtain ⟨T, id, hT, ht, hg⟩ := hr pins { s3 with heap := s3.heap.push { cls := .type "slice", data := .fields #[vl, vu, .none] } } σ H3 x v vl vu l u s3.heap.objs.size Q I4 r1 (Heap.IsSliceOf.new ..) pl pu q3
  show wpAny (model X.prog X.w) X.A (subscriptTail e (.Slice lo hi none p2) v (.ref s3.heap.objs.size)) (EP X pins σ Q) X.xe { s3 with heap := s3.heap.push { cls := .type "slice", data := .fields #[vl, vu, .none] } }
  exact tail_any (ops := [.ref s3.heap.objs.size, v]) ht hT hg (by with_unfolding_all rfl)
def cutV (xs : List V) (lo hi : Option Int) : List V := (xs.drop (HT.sIx xs.length 0 lo)).take (HT.sIx xs.length xs.length hi - HT.sIx xs.length 0 lo)
theorem cutV_length (xs : List V) (lo hi : Option Int) : (cutV xs lo hi).length ≤ xs.length := by
  unfold cutV
  rw [List.length_take, List.length_drop]
  omega
def rSlT (K : PySem.W.Frag) : V → Option Int → Option Int → Hp → VK → Prop := fun x lo hi H Q => ∃ a xs, x = .ref a ∧ SqT K H a xs ∧
  ¬ (HT.sIx xs.length 0 lo = 0 ∧ HT.sIx xs.length xs.length hi = xs.length) ∧ ∀ p, H p = none → Q (.ref p) (upd H p (.tup (cutV xs lo hi)))
theorem sl_tup : SlR X (rSlT X.K) := by
  intro pins s σ H x v vl vu lo hi sl Q I rx hs pl pu h
  obtain ⟨a, xs, rfl, hx, hw, q⟩ := h
  cases rx
  obtain ⟨its, r, ht, hz⟩ := I.tuple hx
  have hlen : its.toArray.size = xs.length := by rw [List.size_toArray]; exact r.length.symm
  refine ⟨"tuple", _, PyProof.Rows.slot_tuple_getitem.lookup, ht.typeIs, ?_⟩
  refine HT.getItem_tuple_cut ht hs pl pu (by rw [hlen]; exact hw) ?_ (by rw [hlen]; exact hz)
  rw [hlen]
  refine ⟨.ref s.heap.objs.size, _, I.laid (t' := s.toks) (o := .tup (cutV xs lo hi)) (fun b ob q => Heap.get?_push_of_some _ q) (Nat.le_refl _) ?_, rfl, q _ (I.hok.fresh (Nat.le_refl _))⟩
  exact ⟨Nat.le_trans (cutV_length xs lo hi) hz, _, (r.drop (HT.sIx xs.length 0 lo)).take (HT.sIx xs.length xs.length hi - HT.sIx xs.length 0 lo), IsTup.new _ _⟩
def rCatT (K : PySem.W.Frag) : R2 := fun x y H Q => ∃ a b xs ys, x = .ref a ∧ y = .ref b ∧ SqT K H a xs ∧ SqT K H b ys ∧ xs ≠ [] ∧ xs.length + ys.length ≤ sizeLine ∧
  (ys = [] → Q (.ref a) H) ∧ (ys ≠ [] → ∀ p, H p = none → Q (.ref p) (upd H p (.tup (xs ++ ys))))
theorem Vals.nil_iff {xs : List V} {us : List Value} (r : Vals xs us) : us = [] ↔ xs = [] := by
  cases r with
  | nil => simp
  | cons _ _ => simp
theorem op_catT : OpR X (binaryOp .Add) (rCatT X.K) := by
  intro pins s σ H x y v u Q I rx ry h
  obtain ⟨a, b, xs, ys, rfl, rfl, ha, hb, hx, hz, q1, q2⟩ := h
  cases rx
  cases ry
  obtain ⟨its, r1, p1, _⟩ := I.tuple ha
  obtain ⟨its2, r2, p2, _⟩ := I.tuple hb
  refine HT.cat_tup p1 p2 (fun z => hx (r1.nil_iff.mp z)) (fun z => ⟨.ref a, H, I, rfl, q1 (r2.nil_iff.mp z)⟩) (fun z => ?_) (by rw [← r1.length, ← r2.length]; exact hz)
  refine ⟨.ref s.heap.objs.size, _, I.laid (t' := s.toks) (o := .tup (xs ++ ys)) (fun b ob q => Heap.get?_push_of_some _ q) (Nat.le_refl _) ?_, rfl, q2 (fun w => z (r2.nil_iff.mpr w)) _ (I.hok.fresh (Nat.le_refl _))⟩
  exact ⟨by rw [List.length_append]; exact hz, _, r1.append r2, IsTup.new _ _⟩
end
end L2
namespace L2
open PySem PySem.Spec PyProof.Rows
def ixN (n : Nat) (i : Int) : Option Nat := if 0 ≤ i then (if i < n then some i.toNat else none) else if -(n : Int) ≤ i then some (i + n).toNat else none
def atI {α : Type} (xs : List α) (i : Int) : Option α := (ixN xs.length i).bind fun j => xs[j]?
theorem ixN_seq {n : Nat} {i : Int} {j : Nat} (h : ixN n i = some j) : seqIndex? i n = some j ∧ j < n ∧ -(n : Int) ≤ i ∧ i < n := by
  unfold ixN at h
  by_cases h0 : 0 ≤ i
  · rw [if_pos h0] at h
    by_cases h1 : i < n
    · rw [if_pos h1] at h
      have e : i.toNat = j := Option.some.inj h
      exact ⟨by rw [seqIndex_of h0 h1, e], by omega, by omega, h1⟩
    · rw [if_neg h1] at h; cases h
  · rw [if_neg h0] at h
    by_cases h1 : -(n : Int) ≤ i
    · rw [if_pos h1] at h
      have e : (i + n).toNat = j := Option.some.inj h
      exact ⟨by rw [seqIndex_neg (by omega) h1, e], by omega, h1, by omega⟩
    · rw [if_neg h1] at h; cases h
theorem atI_get {α : Type} {xs : List α} {i : Int} {v : α} (h : atI xs i = some v) : ∃ j, seqIndex? i xs.length = some j ∧ xs[j]? = some v ∧ j < xs.length ∧ -(xs.length : Int) ≤ i ∧ i < xs.length := by
  unfold atI at h
  cases e : ixN xs.length i with
  | none => rw [e] at h; cases h
  | some j =>
    rw [e] at h
    obtain ⟨h1, h2, h3, h4⟩ := ixN_seq e
    exact ⟨j, h1, h, h2, h3, h4⟩
theorem atI_nat {α : Type} {xs : List α} {j : Nat} {v : α} (h : xs[j]? = some v) : atI xs (j : Int) = some v := by
  have hj : j < xs.length := (List.getElem?_eq_some_iff.mp h).1
  have e : ixN xs.length (j : Int) = some j := by
    unfold ixN
    rw [if_pos (by omega), if_pos (by omega)]; simp
  unfold atI; rw [e]; exact h
theorem atI_last {α : Type} (xs : List α) (v : α) : atI (xs ++ [v]) (-1) = some v := by
  have hl : (xs ++ [v]).length = xs.length + 1 := by simp
  have e : ixN (xs ++ [v]).length (-1) = some xs.length := by
    unfold ixN
    rw [hl, if_neg (by decide), if_pos (by omega)]
    congr 1
    omega
  unfold atI
  rw [e]
  show (xs ++ [v])[xs.length]? = some v
  simp
def PlainIx (b : Expr) : Prop := ∀ o i, subscripted b false o i = operate [o, i] (getItem o i)
def IxR (X : Cx) (r : R2) : Prop :=
  ∀ (value slice : Expr) (pins : List (Addr × Obj)) (s : Shared) (σ : St) (H : Hp) (x y : V) (v u : Value) (Q : VK), Inv X pins σ H s → RelV x v → RelV y u → r x y H Q →
    subscripted slice false v u = operate [v, u] (getItem v u) → wpAny (model X.prog X.w) X.A (subscriptTail value slice v u) (EP X pins σ Q) X.xe s
def MtR (X : Cx) (id : String) (r : V → List V → Hp → VK → Prop) : Prop :=
  ∀ (pins : List (Addr × Obj)) (s : Shared) (σ : St) (H : Hp) (x : V) (xs : List V) (v : Value) (us : List Value) (Q : VK), Inv X pins σ H s → RelV x v → Vals xs us → r x xs H Q →
    wpAny (model X.prog X.w) X.A (call (.builtin id) (v :: us)) (EP X pins σ Q) X.xe s
section
variable {X : Cx} {a b : Expr} {ta tb : TE} {pos : Pos}
theorem IxR.or {r r' : R2} (h : IxR X r) (h' : IxR X r') : IxR X (fun x y H Q => r x y H Q ∨ r' x y H Q) := by
  intro value slice pins s σ H x y v u Q I rx ry q hs
  rcases q with q | q
  · exact h value slice pins s σ H x y v u Q I rx ry q hs
  · exact h' value slice pins s σ H x y v u Q I rx ry q hs
theorem MtR.or {id : String} {r r' : V → List V → Hp → VK → Prop} (h : MtR X id r) (h' : MtR X id r') : MtR X id (fun x xs H Q => r x xs H Q ∨ r' x xs H Q) := by
  intro pins s σ H x xs v us Q I rx rs q
  rcases q with q | q
  · exact h pins s σ H x xs v us Q I rx rs q
  · exact h' pins s σ H x xs v us Q I rx rs q
theorem pe_ix {r : R2} (hr : IxR X r) (ha : PE X a ta) (hb : PE X b tb) (hs : PlainIx b) : PE X (.Subscript a b pos) (tOp r ta tb) := by
  intro pins s σ H Q I h
  exact Subscript_ (binT ha hb I h fun v u s2 x y H2 I2 rx ry q => hr a b pins s2 σ H2 x y v u Q I2 rx ry q (hs _ _))
def rIxL (K : PySem.W.Frag) : R2 := fun x y H Q => ∃ p xs i v, x = .ref p ∧ y = .int i ∧ SqL K H p xs ∧ atI xs i = some v ∧ Q v H
def rIxT (K : PySem.W.Frag) : R2 := fun x y H Q => ∃ p xs i v, x = .ref p ∧ y = .int i ∧ SqT K H p xs ∧ atI xs i = some v ∧ Q v H
theorem ix_list : IxR X (rIxL X.K) := by
  intro value slice pins s σ H x y v u Q I rx ry h hs
  obtain ⟨p, xs, i, z, rfl, rfl, hq, he, q⟩ := h
  cases rx
  obtain ⟨t, rfl⟩ := ry
  obtain ⟨its, r, pl, hz⟩ := I.list hq
  obtain ⟨j, h1, h2, h3, h4, h5⟩ := atI_get he
  obtain ⟨w, ew, rw'⟩ := r.get h2
  have hl := r.length
  have hn := line63
  have fin : EP X pins σ Q w s := ⟨z, H, I, rw', q⟩
  by_cases h0 : 0 ≤ i
  · have hj : i.toNat = j := by
      rw [seqIndex_of h0 h5] at h1
      exact Option.some.inj h1
    exact item_listR pl.isList h0 (by omega) (by rw [hj]; simpa using ew) fin hs
  · have hj : (i + (its.toArray.size : Int)).toNat = j := by
      rw [seqIndex_neg (by omega) h4] at h1
      rw [List.size_toArray, ← hl]
      exact Option.some.inj h1
    exact subscriptTail_builtinR (x := w) pl.isList.typeIs slot_list_getitem.lookup
      (wpAny_getItem_list_neg (Q := fun r s' => r = w ∧ EP X pins σ Q r s') pl.isList (by omega) (by rw [List.size_toArray] <;> omega) (by omega) (by rw [hj]; simpa using ew) ⟨rfl, fin⟩) hs
theorem ix_tup : IxR X (rIxT X.K) := by
  intro value slice pins s σ H x y v u Q I rx ry h hs
  obtain ⟨p, xs, i, z, rfl, rfl, hq, he, q⟩ := h
  cases rx
  obtain ⟨t, rfl⟩ := ry
  obtain ⟨its, r, pl, hz⟩ := I.tuple hq
  obtain ⟨j, h1, h2, h3, h4, h5⟩ := atI_get he
  obtain ⟨w, ew, rw'⟩ := r.get h2
  have hl := r.length
  have hn := line63
  have fin : EP X pins σ Q w s := ⟨z, H, I, rw', q⟩
  exact subscriptTail_builtinR (x := w) pl.typeIs slot_tuple_getitem.lookup
    (getItem_tuple (j := j) (Q := fun r s' => r = w ∧ EP X pins σ Q r s') pl (by omega) (by omega) (by rw [List.size_toArray, ← hl]; exact h1) (by simpa using ew) ⟨rfl, fin⟩) hs
theorem Inv.lst {pins : List (Addr × Obj)} {σ : St} {H : Hp} {s : Shared} {p : Addr} {xs : List V} (I : Inv X pins σ H s) (h : H p = some (.lst xs)) :
    ∃ (its : List Value) (n : Nat), Vals xs its ∧ s.heap.get? p = some { cls := .type "list", data := .seq its.toArray n } ∧ xs.length ≤ sizeLine := by
  obtain ⟨z, its, n, r, e⟩ := I.hok p _ h
  exact ⟨its, n, r, e, z⟩
theorem slice_bounds (lo hi : Option Int) (n : Nat) : (sliceBounds lo hi none n).1 = ((HT.sIx n 0 lo : Nat) : Int) ∧ (sliceBounds lo hi none n).2.1 = ((HT.sIx n n hi : Nat) : Int) ∧ (sliceBounds lo hi none n).2.2 = 1 := by
  refine ⟨?_, ?_, rfl⟩
  · cases lo with
    | none => simp [sliceBounds, HT.sIx]
    | some i =>
      simp only [sliceBounds, HT.sIx, Option.getD_none, show (1 : Int) > 0 by decide, if_true]
      by_cases h : i < 0
      · simp only [h, if_true] <;> omega
      · simp only [h, if_false] <;> omega
  · cases hi with
    | none => simp [sliceBounds, HT.sIx]
    | some i =>
      simp only [sliceBounds, HT.sIx, Option.getD_none, show (1 : Int) > 0 by decide, if_true]
      by_cases h : i < 0
      · simp only [h, if_true] <;> omega
      · simp only [h, if_false] <;> omega
theorem slicePick_cut (its : List Value) (lo hi : Option Int) : slicePick its.toArray lo hi none = ((its.drop (HT.sIx its.length 0 lo)).take (HT.sIx its.length its.length hi - HT.sIx its.length 0 lo)).toArray := by
  obtain ⟨h1, h2, h3⟩ := slice_bounds lo hi its.toArray.size
  unfold slicePick
  rw [h1, h2, h3]
  simp only [sliceRange_one, pick_run, List.size_toArray] <;> rfl
def rSlL (K : PySem.W.Frag) : V → Option Int → Option Int → Hp → VK → Prop := fun x lo hi H Q => ∃ a xs, x = .ref a ∧ SqL K H a xs ∧ ∀ p, H p = none → Q (.ref p) (upd H p (.lst (cutV xs lo hi)))
theorem sl_list : SlR X (rSlL X.K) := by
  intro pins s σ H x v vl vu lo hi sl Q I rx hs pl pu h
  obtain ⟨a, xs, rfl, hx, q⟩ := h
  cases rx
  obtain ⟨its, r, ht, hz⟩ := I.list hx
  have hlen := r.length
  refine ⟨"list", _, slot_list_getitem.lookup, ht.isList.typeIs, ?_⟩
  refine wpAny_getItem_list_slice ht.isList hs pl pu .none (by simp) ?_ (by rw [List.size_toArray] <;> omega)
  rw [slicePick_cut, ← hlen]
  refine ⟨.ref s.heap.objs.size, _, I.laid (t' := s.toks) (o := .lst (cutV xs lo hi)) (fun b ob q => Heap.get?_push_of_some _ q) (Nat.le_refl _) ?_, rfl, q _ (I.hok.fresh (Nat.le_refl _))⟩
  exact ⟨Nat.le_trans (cutV_length xs lo hi) hz, _, 0, (r.drop (HT.sIx xs.length 0 lo)).take (HT.sIx xs.length xs.length hi - HT.sIx xs.length 0 lo), Heap.get?_push_size _ rfl⟩
def flatV : V → Bool
  | .non => true
  | .bl _ => true
  | .int _ => true
  | .str _ => true
  | _ => false
def eqV : V → V → Bool
  | .non, .non => true
  | .bl a, .bl b => a == b
  | .bl a, .int b => (if a then 1 else 0) == b
  | .int a, .bl b => a == (if b then 1 else 0)
  | .int a, .int b => a == b
  | .str a, .str b => a == b
  | _, _ => false
theorem eqAt_V {A : Around} {s : Shared} {y x : V} {u v : Value} (ry : RelV y u) (rx : RelV x v) (fy : flatV y = true) (fx : flatV x = true) : SeqAt.EqAt A s u v (eqV y x) := by
  cases y with
  | non =>
    cases ry
    cases x with
    | non => cases rx; exact SeqAt.EqAt.same _
    | bl b => cases rx; exact SeqAt.EqAt.none_bool b
    | int b => obtain ⟨t, rfl⟩ := rx; exact SeqAt.EqAt.none_int b t
    | str b => obtain ⟨t, rfl⟩ := rx; exact SeqAt.EqAt.none_str b t
    | _ => exact absurd (show false = true from fx) Bool.false_ne_true
  | bl a =>
    cases ry
    cases x with
    | non => cases rx; exact SeqAt.EqAt.bool_none a
    | bl b => cases rx; exact SeqAt.EqAt.bool_bool a b
    | int b => obtain ⟨t, rfl⟩ := rx; exact SeqAt.EqAt.bool_int a b t
    | str b => obtain ⟨t, rfl⟩ := rx; exact SeqAt.EqAt.bool_str a b t
    | _ => exact absurd (show false = true from fx) Bool.false_ne_true
  | int a =>
    obtain ⟨t', rfl⟩ := ry
    cases x with
    | non => cases rx; exact SeqAt.EqAt.int_none a t'
    | bl b => cases rx; exact SeqAt.EqAt.int_bool a t' b
    | int b => obtain ⟨t, rfl⟩ := rx; exact SeqAt.EqAt.int_int a t' b t
    | str b => obtain ⟨t, rfl⟩ := rx; exact SeqAt.EqAt.int_str a t' b t
    | _ => exact absurd (show false = true from fx) Bool.false_ne_true
  | str a =>
    obtain ⟨t', rfl⟩ := ry
    cases x with
    | non => cases rx; exact SeqAt.EqAt.str_none a t'
    | bl b => cases rx; exact SeqAt.EqAt.str_bool a t' b
    | int b => obtain ⟨t, rfl⟩ := rx; exact SeqAt.EqAt.str_int a t' b t
    | str b => obtain ⟨t, rfl⟩ := rx; exact SeqAt.EqAt.str_str a t' b t
    | _ => exact absurd (show false = true from fx) Bool.false_ne_true
  | _ => exact absurd (show false = true from fy) Bool.false_ne_true
def eqU (x : V) (u : Value) : Bool := match u with
  | .none => eqV .non x
  | .bool b => eqV (.bl b) x
  | .int i _ => eqV (.int i) x
  | .str z _ => eqV (.str z) x
  | _ => false
theorem eqU_of {x y : V} {u : Value} (r : RelV y u) (f : flatV y = true) : eqU x u = eqV y x := by
  cases y with
  | non => cases r; rfl
  | bl b => cases r; rfl
  | int i => obtain ⟨t, rfl⟩ := r; rfl
  | str z => obtain ⟨t, rfl⟩ := r; rfl
  | _ => exact absurd (show false = true from f) Bool.false_ne_true
theorem any_eqU {x : V} : ∀ {xs : List V} {us : List Value}, Vals xs us → xs.all flatV = true → us.any (eqU x) = xs.any fun y => eqV y x
  | _, _, .nil, _ => rfl
  | y :: xs, u :: us, .cons r t, f => by
    rw [List.all_cons, Bool.and_eq_true] at f
    rw [List.any_cons, List.any_cons, eqU_of r f.1, any_eqU t f.2]
theorem mem_eqAt {A : Around} {s : Shared} {x : V} {v : Value} (rx : RelV x v) (fx : flatV x = true) : ∀ {xs : List V} {us : List Value}, Vals xs us → xs.all flatV = true → ∀ u ∈ us, SeqAt.EqAt A s u v (eqU x u)
  | _, _, .nil, _ => fun u hu => by cases hu
  | y :: xs, u :: us, .cons r t, f => fun u' hu => by
    rw [List.all_cons, Bool.and_eq_true] at f
    rcases List.mem_cons.mp hu with rfl | hu
    · rw [eqU_of r f.1]; exact eqAt_V r rx f.1 fx
    · exact mem_eqAt rx fx t f.2 u' hu
def inV (x : V) (xs : List V) : Bool := xs.any fun y => eqV y x
def rIn (K : PySem.W.Frag) (neg : Bool) : R2 := fun x y H Q => ∃ p xs, y = .ref p ∧ (SqL K H p xs ∨ SqT K H p xs) ∧ flatV x = true ∧ xs.all flatV = true ∧ Q (.bl (if neg then !inV x xs else inV x xs)) H
theorem op_in_seq : OpR X (compareOp .In) (rIn X.K false) := by
  intro pins s σ H x y v u Q I rx ry h
  obtain ⟨p, xs, rfl, hq, fx, fs, q⟩ := h
  cases ry
  rcases hq with hq | hq
  · obtain ⟨its, r, pl, hz⟩ := I.list hq
    refine SeqAt.in_listAt (eqU x) pl.isList (fun w hw => mem_eqAt rx fx r fs w (by simpa using hw)) ⟨.bl _, H, I, rfl, ?_⟩
    rw [show its.toArray.any (eqU x) = its.any (eqU x) by simp, any_eqU r fs]
    exact q
  · obtain ⟨its, r, pl, hz⟩ := I.tuple hq
    refine SeqAt.in_tupleAt (eqU x) pl (fun w hw => mem_eqAt rx fx r fs w (by simpa using hw)) ⟨.bl _, H, I, rfl, ?_⟩
    rw [show its.toArray.any (eqU x) = its.any (eqU x) by simp, any_eqU r fs]
    exact q
theorem op_notIn_seq : OpR X (compareOp .NotIn) (rIn X.K true) := by
  intro pins s σ H x y v u Q I rx ry h
  obtain ⟨p, xs, rfl, hq, fx, fs, q⟩ := h
  cases ry
  rcases hq with hq | hq
  · obtain ⟨its, r, pl, hz⟩ := I.list hq
    refine SeqAt.notIn_listAt (eqU x) pl.isList (fun w hw => mem_eqAt rx fx r fs w (by simpa using hw)) ⟨.bl _, H, I, rfl, ?_⟩
    rw [show its.toArray.any (eqU x) = its.any (eqU x) by simp, any_eqU r fs]
    exact q
  · obtain ⟨its, r, pl, hz⟩ := I.tuple hq
    refine SeqAt.notIn_tupleAt (eqU x) pl (fun w hw => mem_eqAt rx fx r fs w (by simpa using hw)) ⟨.bl _, H, I, rfl, ?_⟩
    rw [show its.toArray.any (eqU x) = its.any (eqU x) by simp, any_eqU r fs]
    exact q
theorem call_len_seq : CallR X (.builtin "len") (fun xs H Q => ∃ p ys, xs = [.ref p] ∧ (SqL X.K H p ys ∨ SqT X.K H p ys) ∧ Q (.int ys.length) H) := by
  intro pins s σ H xs us Q I r h
  obtain ⟨p, ys, rfl, hq, q⟩ := h
  obtain ⟨u, rfl, rx⟩ := vals1 r
  cases rx
  have hn := line63
  rcases hq with hq | hq
  · obtain ⟨its, r', pl, hz⟩ := I.list hq
    have hlen := r'.length
    exact Calls.call_len_list pl.isList (by simp only [List.size_toArray] <;> omega) ⟨.int ys.length, H, I.tok _, ⟨s.toks + 1, by rw [List.size_toArray, hlen]⟩, q⟩
  · obtain ⟨its, r', pl, hz⟩ := I.tuple hq
    have hlen := r'.length
    exact len_tuple pl (by simp only [List.size_toArray] <;> omega) ⟨.int ys.length, H, I.tok _, ⟨s.toks + 1, by rw [List.size_toArray, hlen]⟩, q⟩
theorem CallR.or {f : Value} {r r' : List V → Hp → VK → Prop} (h : CallR X f r) (h' : CallR X f r') : CallR X f (fun xs H Q => r xs H Q ∨ r' xs H Q) := by
  intro pins s σ H xs us Q I rs q
  rcases q with q | q
  · exact h pins s σ H xs us Q I rs q
  · exact h' pins s σ H xs us Q I rs q
theorem call_list_of : CallR X (.type "list") (fun xs H Q => ∃ p ys, xs = [.ref p] ∧ (SqL X.K H p ys ∨ SqT X.K H p ys) ∧ ∀ l, H l = none → Q (.ref l) (upd H l (.lst ys))) := by
  intro pins s σ H xs us Q I r h
  obtain ⟨p, ys, rfl, hq, q⟩ := h
  obtain ⟨u, rfl, rx⟩ := vals1 r
  cases rx
  have fin : ∀ (its : List Value), Vals ys its → ys.length ≤ sizeLine → ∀ (h' : Heap) (c' : Nat), (∀ b o', s.heap.get? b = some o' → h'.get? b = some o') →
      h'.get? s.heap.objs.size = some { cls := .type "list", dict := none, data := .seq its.toArray c', slots := #[] } → EP X pins σ Q (.ref s.heap.objs.size) { s with heap := h' } := fun its r' hz h' c' kp e =>
    ⟨.ref s.heap.objs.size, _, I.laid (t' := s.toks) kp (Nat.le_refl _) (show ObjOk X.prog X.w _ h' _ (.lst ys) from ⟨hz, its, c', r', e⟩), rfl, q _ (I.hok.fresh (Nat.le_refl _))⟩
  rcases hq with hq | hq
  · obtain ⟨its, r', pl, hz⟩ := I.list hq
    have hlen := r'.length
    obtain ⟨o, ho, hc, n, hd⟩ := pl.isList
    exact call_list_seq p (.inl rfl) ho hc hd (fun h' c' kp e => fin its r' hz h' c' kp e) (by simp only [List.size_toArray] <;> omega)
  · obtain ⟨its, r', pl, hz⟩ := I.tuple hq
    have hlen := r'.length
    obtain ⟨o, ho, hc, n, hd⟩ := pl
    exact call_list_seq p (.inr rfl) ho hc hd (fun h' c' kp e => fin its r' hz h' c' kp e) (by simp only [List.size_toArray] <;> omega)
def tyV (K : PySem.W.Frag) (T : String) (x : V) (H : Hp) : Prop := match x with
  | .str _ => T = "str"
  | .int _ => T = "int"
  | .ref p => (T = "list" ∧ ∃ xs, SqL K H p xs) ∨ (T = "tuple" ∧ ∃ o, K.lookup p = some o ∧ o.cls = .type "tuple" ∧ o.dict = none) ∨
      (T = "dict" ∧ ((∃ kvs, H p = some (.dK kvs)) ∨ ∃ kvs, H p = some (.dT kvs))) ∨ (T = "set" ∧ ∃ S n, H p = some (.set S n))
  | _ => False
theorem tyV_is {pins : List (Addr × Obj)} {σ : St} {H : Hp} {s : Shared} {T : String} {x : V} {v : Value} (I : Inv X pins σ H s) (r : RelV x v) (ty : tyV X.K T x H) :
    s.TypeIs v T ∧ ∀ a, v = .ref a → ∃ ob, s.heap.get? a = some ob ∧ ob.dict = none := by
  cases x with
  | str z =>
    obtain ⟨t, rfl⟩ := r
    cases (show T = "str" from ty)
    exact ⟨typeIs_str s z t, fun _ e => nomatch e⟩
  | int i =>
    obtain ⟨t, rfl⟩ := r
    cases (show T = "int" from ty)
    exact ⟨typeIs_int s i t, fun _ e => nomatch e⟩
  | ref p =>
    cases r
    rcases ty with ⟨rfl, xs, hq⟩ | ⟨rfl, o, hk, hc, hd⟩ | ⟨rfl, hk⟩ | ⟨rfl, S, n, hk⟩
    · obtain ⟨its, _, pl, _⟩ := I.list hq
      refine ⟨pl.isList.typeIs, fun a e => ?_⟩
      cases e
      obtain ⟨o, n, e, c, hd, _⟩ := pl
      exact ⟨o, e, hd⟩
    · refine ⟨⟨o, I.kIn p o hk, hc⟩, fun a e => ?_⟩
      cases e
      exact ⟨o, I.kIn _ o hk, hd⟩
    · have z : ∃ o, s.heap.get? p = some o ∧ o.ExactDict := by
        rcases hk with ⟨kvs, hk⟩ | ⟨kvs, hk⟩
        · obtain ⟨_, _, _, _, o, _, _, e, ex, _⟩ := I.hok p _ hk
          exact ⟨o, e, ex⟩
        · obtain ⟨_, _, _, _, o, _, _, e, ex, _⟩ := I.hok p _ hk
          exact ⟨o, e, ex⟩
      obtain ⟨o, e, ex⟩ := z
      refine ⟨⟨o, e, ex.1⟩, fun a e2 => ?_⟩
      cases e2
      exact ⟨o, e, ex.2.1⟩
    · obtain ⟨o, _, _, _, e, ex, _⟩ := I.hok p _ hk
      refine ⟨⟨o, e, ex.1⟩, fun a e2 => ?_⟩
      cases e2
      exact ⟨o, e, ex.2.1⟩
  | _ => exact False.elim ty
def tBM (K : PySem.W.Frag) (T : String) (r : V → List V → Hp → VK → Prop) (to : TE) (t : TA) : TE := fun σ H Q => to σ H fun x H1 => tyV K T x H1 ∧ t σ H1 fun xs H2 => r x xs H2 Q
variable {o e : Expr} {es : List Expr} {to : TE} {t : TA} {name : Str} {apos cpos : Pos} {T id : String} {r : V → List V → Hp → VK → Prop}
theorem pe_bm (pa : PlainAttrs T) (slot : Slot T name id) (hty : typeOf (.builtin id) = pure (.type "method_descriptor")) (hm : MtR X id r) (ho : PE X o to) (ha : PA X (e :: es) t)
    (hbase : attributeBase o name X.env (eval o X.env) = eval o X.env := by rfl)
    (hfew : ((backTo cpos (starEach (e :: es) X.env)).all (fun x => !x.1) && (backToKw cpos (keywordEach [] X.env)).all (fun x => x.1.isSome)
      && decide ((e :: es).length + ([] : List Keyword).length + (if ([] : List Keyword).isEmpty then 0 else 1) < 30)) = true := by rfl)
    (hline : (apos.endLine == cpos.line) = true := by rfl) (hs : starEach (e :: es) X.env = (false, eval e X.env) :: starEach es X.env := by rfl) (hplain : (backTo cpos (starEach es X.env)).any (·.1) = false := by rfl) :
    PE X (.Call (.Attribute o name apos) (e :: es) [] cpos) (tBM X.K T r to t) := by
  intro pins s σ H Q I h
  refine wpAny_Call_method_late hbase hfew hline rfl (thn (ho pins s σ H _ I h) fun v s1 ⟨x, H1, I1, r1, ty, q1⟩ => ?_)
  obtain ⟨h1, h2⟩ := tyV_is I1 r1 ty
  refine ⟨T, id, pa, slot, hty, h1, h2, ?_⟩
  have hA := ha cpos pins s1 σ H1 _ I1 q1
  rw [hs] at hA ⊢
  refine Calls.callWith_builtin (by show (false || (backTo cpos (starEach es X.env)).any (·.1)) = false; rw [hplain] <;> rfl) (Calls.evalArgs_plain ?_)
  exact thn hA fun us s2 ⟨vs, H2, I2, r2, q2⟩ => hm pins s2 σ H2 x vs v us Q I2 r1 r2 q2
/- xs.append(e), list.index on a module's tuple .. are MtR facts of 06m -/
end
end L2
namespace L2
open PySem PySem.Spec PyProof.Rows
def MtM (X : Cx) (id : String) (r : V → List V → Hp → VK → Prop) : Prop :=
  ∀ (pins : List (Addr × Obj)) (s : Shared) (σ : St) (H : Hp) (x : V) (xs : List V) (v : Value) (us : List Value) (Q : VK), Inv X pins σ H s → RelV x v → Vals xs us → r x xs H Q →
    wpAny (model X.prog X.w) X.A (call (.builtin id) (v :: us)) (EP X pins σ Q) X.xe s
theorem Vals.one : ∀ {x : V} {us : List Value}, Vals [x] us → ∃ u, us = [u] ∧ RelV x u
  | _, _, .cons r .nil => ⟨_, rfl, r⟩
theorem Vals.two : ∀ {x y : V} {us : List Value}, Vals [x, y] us → ∃ u v, us = [u, v] ∧ RelV x u ∧ RelV y v
  | _, _, _, .cons r (.cons q .nil) => ⟨_, _, rfl, r, q⟩
theorem Vals.zero : ∀ {us : List Value}, Vals [] us → us = []
  | _, .nil => rfl
theorem Vals.reverse {xs : List V} {us : List Value} (h : Vals xs us) : Vals xs.reverse us.reverse := by
  induction h with
  | nil => exact .nil
  | cons r t ih => rw [List.reverse_cons, List.reverse_cons]; exact Vals.append ih (.cons r .nil)
theorem Vals.rep {xs : List V} {us : List Value} (h : Vals xs us) : ∀ k : Nat, Vals (List.replicate k xs).flatten (List.replicate k us).flatten
  | 0 => .nil
  | k + 1 => by
    rw [List.replicate_succ, List.replicate_succ, List.flatten_cons, List.flatten_cons]
    exact Vals.append h (Vals.rep h k)
theorem foldl_rep (its : List Value) : ∀ (k : Nat) (acc : List Value),
    List.foldl (fun x1 x2 => x1 ++ x2) acc.toArray (List.replicate k its.toArray) = (acc ++ (List.replicate k its).flatten).toArray
  | 0, acc => by simp
  | k + 1, acc => by
    have e : acc.toArray ++ its.toArray = (acc ++ its).toArray := by simp
    have e2 : (acc ++ its) ++ (List.replicate k its).flatten = acc ++ (List.replicate (k + 1) its).flatten := by
      rw [List.replicate_succ, List.flatten_cons, List.append_assoc]
    rw [← e2, ← foldl_rep its k (acc ++ its), ← e, List.replicate_succ, List.foldl_cons]
section
variable {X : Cx} {pins : List (Addr × Obj)} {σ : St} {H : Hp} {s : Shared} {l b : Addr} {xs ys zs : List V}
theorem Inv.lset {its its' : List Value} {n : Nat} {f : Array Value → Array Value} {t' : Nat} (I : Inv X pins σ H s) (hH : H l = some (.lst xs))
    (e : s.heap.get? l = some { cls := .type "list", data := .seq its.toArray n }) (hf : f its.toArray = its'.toArray) (hv : Vals ys its') (hz : ys.length ≤ sizeLine) :
    Inv X pins σ (upd H l (.lst ys)) { s with heap := s.heap.update l (Obj.mapSeq f), toks := t' } := by
  have q := PySem.IsL.update e f
  rw [hf] at q
  refine I.write (x := l) (e := l) (by rw [hH]; exact trivial) (.inl rfl) (fun b' u hb hu => (Heap.get?_update_other s.heap (Obj.mapSeq f) (Ne.symm hb)).trans hu) ⟨_, q⟩ ?_
  exact ⟨hz, its', _, hv, q⟩
theorem Inv.lnew {its : List Value} {t' : Nat} (I : Inv X pins σ H s) (hv : Vals ys its) (hz : ys.length ≤ sizeLine) :
    Inv X pins σ (upd H s.heap.objs.size (.lst ys)) { s with heap := s.heap.push { cls := .type "list", data := .seq its.toArray }, toks := t' } :=
  I.laid (fun _ _ q => Heap.get?_push_of_some _ q) (Nat.le_refl _) ⟨hz, its, 0, hv, Heap.get?_push_size _ rfl⟩
theorem Inv.fresh (I : Inv X pins σ H s) : H s.heap.objs.size = none := I.hok.fresh (Nat.le_refl _)
theorem Inv.lstM (I : Inv X pins σ H s) (hH : H l = some (.lst xs)) : xs.length ≤ sizeLine ∧ ∃ (its : List Value) (n : Nat), Vals xs its ∧ xs.length = its.length ∧ s.heap.get? l = some { cls := .type "list", data := .seq its.toArray n } := by
  obtain ⟨z, its, n, r, e⟩ := I.hok l _ hH
  exact ⟨z, its, n, r, r.length, e⟩
theorem notLongL {n : Nat} (h : n ≤ sizeLine) : Builtin.List.listTooLong n = false := by
  unfold Builtin.List.listTooLong
  exact decide_eq_false (by omega)
end
section
variable {X : Cx}
def rAppend : V → List V → Hp → VK → Prop := fun x vs H Q => ∃ l xs y, x = .ref l ∧ vs = [y] ∧ H l = some (.lst xs) ∧ xs.length < sizeLine ∧ Q .non (upd H l (.lst (xs ++ [y])))
theorem mt_append : MtM X "list.append" rAppend := by
  intro pins s σ H x vs v us Q I rx rv h
  obtain ⟨l, xs, y, rfl, rfl, hH, hz, q⟩ := h
  cases rx
  obtain ⟨u, rfl, ru⟩ := rv.one
  obtain ⟨z, its, n, r, hl, e⟩ := I.lstM hH
  refine call_meets F.slot_list_append ⟨_, e, rfl⟩ F.entry_list_append (F.args_list_append_2 _ _) (PySem.list_append l its.toArray n u (by rw [List.size_toArray]; omega)) ⟨e, ?_⟩
  refine ⟨.non, _, I.lset (its' := its ++ [u]) hH e (by simp) (r.append (.cons ru .nil)) ?_, rfl, q⟩
  rw [List.length_append, List.length_singleton]
  omega
def rRep : R2 := fun x y H Q => ∃ l k xs, x = .ref l ∧ y = .int k ∧ H l = some (.lst xs) ∧ -(2 ^ 63) ≤ k ∧ k < 2 ^ 63 ∧ xs.length * k.toNat ≤ sizeLine ∧
  ∀ p, H p = none → Q (.ref p) (upd H p (.lst (List.replicate k.toNat xs).flatten))
theorem len_rep {α : Type} (xs : List α) (k : Nat) : (List.replicate k xs).flatten.length = k * xs.length := by
  induction k with
  | zero => simp
  | succ k ih => rw [List.replicate_succ, List.flatten_cons, List.length_append, ih, Nat.succ_mul, Nat.add_comm]
theorem op_rep : OpR X (binaryOp .Mult) rRep := by
  intro pins s σ H x y v u Q I rx ry h
  obtain ⟨l, k, xs, rfl, rfl, hH, h1, h2, hz, q⟩ := h
  cases rx
  obtain ⟨t, rfl⟩ := ry
  obtain ⟨z, its, n, r, hl, e⟩ := I.lstM hH
  have hlen : its.toArray.size * k.toNat ≤ sizeLine := by rw [List.size_toArray, ← hl]; exact hz
  have hcap : ¬ its.toArray.size * k.toNat > (2 ^ 63 - 1) / 8 := by
    have : (sizeLine : Nat) ≤ (2 ^ 63 - 1) / 8 := by decide
    omega
  have hfit : ¬ (!Builtin.List.listFitsIndex k) = true := by
    rw [fitsIndex_both h1 h2]
    exact Bool.false_ne_true
  have hlong : ¬ Builtin.List.listTooLong (its.toArray.size * k.toNat) = true := by
    rw [notLongL hlen]
    exact Bool.false_ne_true
  have hnew : List.foldl (fun x1 x2 => x1 ++ x2) #[] (List.replicate (if its.toArray.isEmpty = true then 0 else k.toNat) its.toArray) = (List.replicate k.toNat its).flatten.toArray := by
    have f0 : ∀ m : Nat, List.foldl (fun x1 x2 => x1 ++ x2) #[] (List.replicate m its.toArray) = (List.replicate m its).flatten.toArray := fun m => by
      have := foldl_rep its m []
      rw [List.nil_append] at this
      exact this
    rw [f0]
    cases its with
    | nil => simp
    | cons a r' => rw [if_neg (by simp)]
  refine wpAny_binaryOp_repeat_ref (T := "list") (U := "int") (by decide) ⟨_, e, rfl⟩ (fun s' => typeIs_int s' k t) noFill_list_mul F.fills_int_mul F.slot_int_rmul repeat_list F.slot_int_index.lookup
    (call_meets F.slot_int_rmul (typeIs_int s k t) F.entry_int_rmul (F.args_int_rmul_2 _ _) (int___rmul___int_list k t l its.toArray n)
      ⟨e, rfl, ⟨_, e, rfl⟩, call_meets F.slot_list_mul ⟨_, e, rfl⟩ F.entry_list_mul (F.args_list_mul_2 _ _) (AutoListH.list___mul___list_int_3 l its.toArray n k t hfit hcap hlong) ⟨e, ?_⟩⟩)
  rw [hnew]
  exact ⟨.ref _, _, I.lnew (t' := s.toks) (r.rep k.toNat) (by rw [len_rep, Nat.mul_comm]; exact hz), rfl, q _ I.fresh⟩
end
section
variable {prog : Program} {w : World} {A : Around} {E : Value → Shared → Prop} {s : Shared}
set_option maxRecDepth 100000 in
end
section
variable {X : Cx}
end
end L2
namespace Att
open PySem PySem.W PySem.Calls PyProof.Rows
theorem ints_of_wellAll {P : Params} {h : Heap} : ∀ (ns : List Int) (vs : List Value), WellAll P h vs (ns.map WData.int) → IntsAre vs ns := by
  intro ns
  induction ns with
  | nil =>
    intro vs w
    rw [List.map_nil] at w
    cases w
    exact .nil
  | cons n ns ih =>
    intro vs w
    rw [List.map_cons] at w
    cases w with
    | cons a b =>
      cases a
      exact .cons _ _ (ih _ b)
theorem script_of {l : OpenLaw} {n : Nat} (hn : l.most = some n) {P : Params} {h : Heap} {args : List WData} {vals : List Value}
    (hpre : l.row.toRowW.claim.pre args = true) (hwl : WellAll P h vals args) :
    ∃ a vs ns, vals = [Value.ref a] ∧ args = [WData.list (ns.map WData.int)] ∧ h.get? a = some { cls := .type "list", data := .seq vs.toArray } ∧ IntsAre vs ns ∧ ns.length ≤ n := by
  have hsh : WShape.hasAll [] args [.list .int] = true := (pre_splitW hpre).1
  have hc : l.pre.holds [] { args := args } = true := (pre_splitW hpre).2
  obtain ⟨d, r, rfl, h1, h2⟩ := hasAllW_cons hsh
  obtain rfl := hasAllW_nil h2
  obtain ⟨xs, rfl, h3⟩ := hasW_list h1
  obtain ⟨ns, rfl⟩ := items_int h3
  have hlen : ns.length ≤ n := by
    unfold OpenLaw.pre at hc
    have h4 : (WTm.not (.lt (.lit (.int (n : Int))) (.len (.arg 0)))).holds [] { args := [.list (ns.map .int)] } = true := by
      have h4 := (holds_andW hc).1
      rw [hn] at h4
      exact h4
    have h5 := condW_of h4 (w_not (w_lt w_lit (w_len_list (w_arg rfl))))
    rw [List.length_map] at h5
    refine Nat.le_of_not_lt fun q => ?_
    have q' : (n : Int) < ((ns.length : Nat) : Int) := by omega
    first
      | (rw [decide_eq_true q'] at h5; exact absurd h5 (by decide))
      | (simp at h5; omega)
  cases hwl with
  | cons w1 w2 =>
    cases w2
    cases w1 with
    | list ho hall => exact ⟨_, _, ns, rfl, rfl, ho, ints_of_wellAll ns _ hall, hlen⟩
theorem post_true (l : OpenLaw) (args : List WData) : l.row.toRowW.claim.post args (.bool true) args = true :=
  postW_of (r := l.row.toRowW) (X := (true == true))
    (show WShape.has [] (.bool true) .bool = true by first | rfl | decide | simp [WShape.has, WShape.arms, WShape.armsAll])
    (show (WTm.eq .res (.lit (.bool true))).value [] { args := args, res := some (.bool true), after := args } = some (.bool (true == true)) from w_eq_bool (w_res rfl) w_lit) rfl
theorem attach_call {l : OpenLaw} {n : Nat} {q : Program} {loose : List Str} {XP : (Str → Option Value) → Heap → Prop} {YP : World → Heap → Prop} {d : DefRec}
    (hn : l.most = some n) (hdf : d.params.defaults = [])
    (call : ∀ (w : World) (s₀ s₁ : Shared) (mg mb : Str → Option Value) (fa : Addr) (o : Obj) (pm cd doc : Value) (a : Addr) (vs : List Value) (ns : List Int),
      Ground q loose [] XP w s₀ mg mb s₁.heap → YP w s₁.heap →
      s₁.heap.get? fa = some o → o.data = .func (docDef d.name d.params d.body d.scope pm cd doc) → s₁.heap.CodeRec cd d.name → mg d.name = some (.ref fa) →
      s₁.heap.get? a = some { cls := .type "list", data := .seq vs.toArray } → IntsAre vs ns → ns.length ≤ n → s₁.gens = #[] →
      codeAny (model l.prog w) callerA (.call (.ref fa) ⟨[.ref a], []⟩) (fun r s' => r = .ok (.ret (.bool true)) ∧ OldK s₁.heap s'.heap ∧ s'.os = s₁.os ∧ AllBare s'.gens) s₁) :
    WalkO q loose XP YP l.row.toRowW d [] (fun f vs => PySem.call f vs) := by
  intro w s₀ s₁ mg mb G Y fa o pm cd doc dV kV ho hd hcd hD hmg hg args vals as hpre hlay hrd hwl hlo
  obtain rfl : dV = .none := Dflts.none hD hdf
  obtain rfl : kV = .none := Dflts.noKw hD
  obtain ⟨a, vs, ns, rfl, rfl, hobj, hints, hlen⟩ := script_of hn hpre hwl
  refine enter_call (codeAny_mono (call w s₀ s₁ mg mb fa o pm cd doc a vs ns G Y ho (fd_plain hd) hcd hmg hobj hints hlen hg) fun r s' hq => ?_)
  obtain ⟨rfl, h2, h3, h4⟩ := hq
  exact ⟨.inl ⟨.bool true, .bool true, [], rfl, fun _ => rfl, .bool true, post_true l _, fun _ => ⟨List.Pairwise.nil, fun _ hm => (nomatch hm)⟩⟩, h2, h3, h4⟩
section
variable {prog : Program} {w : World} {A : Around} {E : Value → Shared → Prop} {s : Shared} {K : Frag}
def ledger (h : Heap) (L d : Addr) : List (Addr × Obj) := (List.range h.objs.size).filterMap fun a => if a = L ∨ a = d then none else (h.get? a).map fun o => (a, o)
end
end Att
namespace L2
open PySem PySem.Spec PyProof.Rows
theorem vals_ints : ∀ {vs : List Value} {ns : List Int}, IntsAre vs ns → Vals (ns.map V.int) vs
  | _, _, .nil => .nil
  | _, _, .cons n t h => .cons ⟨t, rfl⟩ (vals_ints h)
def Only (H : Hp) : Prop := ∀ b, H b = none ∨ ∃ o xs, H b = some (.frz o (.lst xs))
theorem law_call {P : Program} {w : World} {K : PySem.W.Frag} {mg mb : Str → Option Value} {CX : CXT} {k : Nat} {fa a : Addr} {fd : FuncData} {x : Str} {sp : Sp} {s₁ : Shared} {vs : List Value} {ns : List Int}
    (KX : K.In s₁.heap) (hns : s₁.heap.Ns mainGlobals mg) (hb : s₁.heap.Ns builtinsNs mb) (hbb : ∀ x : Str, x ≠ "__name__" → mb x = bootBuiltins x) (hlim : s₁.heap.NoLimit) (hg : s₁.gens = #[])
    (ha : s₁.heap.get? a = some { cls := .type "list", data := .seq vs.toArray }) (hi : IntsAre vs ns) (hl : ns.length ≤ sizeLine) (hr : Room k callerA)
    (F : ∀ base : Heap, K.In base → base.Ns mainGlobals mg → FnOk P w K mg base CX k fa fd [x] sp) (hbind : ∀ (s : Shared) (u : Value), BindsTo s fd ⟨[u], []⟩ [(x, u)])
    (hsp : ∀ H : Hp, Only H → SqL K H a (ns.map V.int) → sp [.ref a] H (fun v _ => v = .bl true) fun _ _ _ => False)
    (hCX : ∀ H e s', CX [] H s₁ (fun _ _ _ => False) e s' → False) :
    codeAny (model P w) callerA (.call (.ref fa) ⟨[.ref a], []⟩) (fun r s' => r = .ok (.ret (.bool true)) ∧ OldK s₁.heap s'.heap ∧ s'.os = s₁.os ∧ AllBare s'.gens) s₁ := by
  have rv := vals_ints hi
  have lenV := hi.length
  have core : ∀ H : Hp, Only H → SqL K H a (ns.map V.int) → HOk P w H s₁.heap → (∀ b, H b ≠ none → b = a) → (H a ≠ none → K.lookup a = none) →
      codeAny (model P w) callerA (.call (.ref fa) ⟨[.ref a], []⟩) (fun r s' => r = .ok (.ret (.bool true)) ∧ OldK s₁.heap s'.heap ∧ s'.os = s₁.os ∧ AllBare s'.gens) s₁ := by
    intro H hO hS hok hA hK
    have base_of : ∀ {b : Addr} {o : Obj}, s₁.heap.get? b = some o → H b = none → (hidT s₁.heap H).get? b = some o := fun e n => hidT_get e n
    have noA : ∀ {b : Addr} {o : Obj} {es : Array DictEntry} {ep : Nat}, s₁.heap.get? b = some o → o.data = .dict es ep → H b = none := fun {b o es ep} e d => by
      cases q : H b with
      | none => rfl
      | some u =>
        have e' : b = a := hA b (by rw [q]; simp)
        subst e'
        rw [ha] at e; cases e
        have d' : Data.seq vs.toArray _ = Data.dict es ep := d
        cases d'
    have nsK : ∀ {b : Addr} {m : Str → Option Value}, s₁.heap.Ns b m → (hidT s₁.heap H).Ns b m := fun {b m} ⟨o, es, ep, e, d, r⟩ => ⟨o, es, ep, base_of e (noA e d), d, r⟩
    have hKb : K.In (hidT s₁.heap H) := fun b o e => base_of (KX b o e) (by
      cases q : H b with
      | none => rfl
      | some u =>
        have e' : b = a := hA b (by rw [q]; simp)
        subst e'
        rw [hK (by rw [q]; simp)] at e; cases e)
    have hM : Mod K mg (hidT s₁.heap H) := ⟨hKb, nsK hns, ⟨mb, nsK hb, hbb⟩, let ⟨mc, h1, h2⟩ := hlim; ⟨mc, nsK h1, h2⟩⟩
    have e0 : Env0 P w K mg (hidT s₁.heap H) callerA [] s₁ H := ⟨rfl, hM, fun b o e => of_hidT e, Nat.le_of_eq (hidT_size _ _), trivial, fun b hb => absurd (show b ∈ ([] : List Addr) from hb) (by simp), hok, .of_eq hg⟩
    refine codeAny_mono ((F _ hKb (nsK hns)).run callerA [] s₁ H ⟨[.ref a], []⟩ [.ref a] [.ref a] _ _ hr e0 (hbind s₁ (.ref a)) (.cons rfl .nil) (hsp H hO hS)) fun r s' h => ?_
    cases r with
    | error e => exact (hCX H e s' h).elim
    | ok fl =>
      cases fl with
      | next => exact False.elim h
      | brk => exact False.elim h
      | cont => exact False.elim h
      | ret u =>
        obtain ⟨v, H', os, bare, un, hok', r', q⟩ := h
        have q' : v = .bl true := q
        subst q'
        obtain rfl : u = Value.bool true := r'
        refine ⟨rfl, OldK.of_keep fun b o e => ?_, os, bare⟩
        cases q : H b with
        | none => exact un.keep b o e q (by intro z; exact absurd (show b ∈ ([] : List Addr) from z) (by simp)) (by simp)
        | some u =>
          rcases hO b with z | ⟨ob, xs, z⟩
          · rw [q] at z; cases z
          · have z2 := un.frzs b ob _ z
            obtain ⟨e1, _⟩ := hok b _ z
            obtain ⟨e2, _⟩ := hok' b _ z2
            rw [e] at e1; cases e1
            exact e2
  cases hk : K.lookup a with
  | some o =>
    have e := KX a o hk
    rw [ha] at e
    cases e
    refine core (fun _ => none) (fun _ => .inl rfl) (.inr ⟨_, vs.toArray, _, hk, rfl, rfl, rfl, by rw [List.size_toArray, lenV]; exact hl, by simpa using rv⟩) (fun b u z => by have z' : (none : Option HO) = some u := z; cases z') (fun b z => absurd rfl z) fun z => absurd rfl z
  | none =>
    refine core (fun b => if b = a then some (.frz { cls := .type "list", data := .seq vs.toArray } (.lst (ns.map V.int))) else none) (fun b => ?_) (.inl (.inr ⟨{ cls := .type "list", data := .seq vs.toArray }, if_pos rfl⟩)) (fun b u z => ?_) (fun b z => ?_) fun _ => hk
    · by_cases hb : b = a
      · exact .inr ⟨_, _, if_pos hb⟩
      · exact .inl (if_neg hb)
    · by_cases hb : b = a
      · have z' := (if_pos hb).symm.trans z
        cases z'
        subst hb
        exact ⟨ha, by rw [List.length_map]; exact hl, vs, _, rv, ha⟩
      · have z' := (if_neg hb).symm.trans z
        cases z'
    · by_cases hb : b = a
      · exact hb
      · exact absurd (if_neg hb) z
end L2
namespace L2
open PySem PySem.Spec PyProof.Rows
abbrev KOf {K : PySem.W.Frag} {h : Heap} (_ : K.In h) : PySem.W.Frag := K
theorem walk_of {l : PySem.W.OpenLaw} {n k : Nat} {q : Program} {loose : List Str} {XP : (Str → Option Value) → Heap → Prop} {YP : World → Heap → Prop} {d : DefRec} {K : Params → PySem.W.Frag} {CX : World → CXT} {sp : World → Sp} {x : Str}
    (hn : l.most = some n) (hn2 : n ≤ sizeLine) (hdf : d.params.defaults = []) (hr : Room k callerA)
    (hY : ∀ (w : World) (h : Heap), YP w h → (K w.params).In h)
    (F : ∀ (w : World) (mg : Str → Option Value) (fa : Addr) (h : Heap), (K w.params).In h → h.Ns mainGlobals mg → mg d.name = some (.ref fa) →
      ∃ fd : FuncData, (∀ (s : Shared) (u : Value), BindsTo s fd ⟨[u], []⟩ [(x, u)]) ∧
        ∀ base : Heap, (K w.params).In base → base.Ns mainGlobals mg → FnOk l.prog w (K w.params) mg base (CX w) k fa fd [x] (sp w))
    (hsp : ∀ (w : World) (H : Hp) (a : Addr) (ns : List Int), ns.length ≤ n → Only H → SqL (K w.params) H a (ns.map V.int) → sp w [.ref a] H (fun v _ => v = .bl true) fun _ _ _ => False)
    (hCX : ∀ (w : World) (H : Hp) (s : Shared) (e : Value) (s' : Shared), CX w [] H s (fun _ _ _ => False) e s' → False) :
    PySem.W.WalkO q loose XP YP l.row.toRowW d [] (fun f vs => PySem.call f vs) := by
  refine Att.attach_call hn hdf fun w s₀ s₁ mg mb fa o pm cd doc a vs ns G Y ho hd hcd hmg hobj hints hlen hg => ?_
  have KX := hY w _ Y
  obtain ⟨fd, hb, hF⟩ := F w mg fa _ KX G.T.g hmg
  exact law_call KX G.T.g G.T.b G.T.builtins G.T.nolimit hg hobj hints (Nat.le_trans hlen hn2) hr hF hb (fun H hO hS => hsp w H a ns hlen hO hS) fun H e s' => hCX w H s₁ e s'
end L2
/- THE LAST THEOREM (shape; LID, My.* are yours):
   My.Adr: a structure of the addresses that your layer names (classes, functions); My.Txt K t: a structure (Prop) of the equations over K;
   My.txt_mk : {K} {implicit addresses ..} (e1 : nsIn K mainGlobals "law" = some (some (.ref f))) (e2 : K.lookup f = some ⟨oc, od, .func (fnOf "law" "law" params body scope dV kV doc pm an cdv ct), sl⟩) (e3 : codeIn K cdv "law" = true) .. : ∃ t, My.Txt K t
set_option maxRecDepth 100000 in
set_option maxHeartbeats 0 in
theorem PySem.Challenge.cw_LID_holds : PySem.Challenge.rw_LID.Holds := by
  w_on; o_law; k_head; (case hw => w_witness2)
  k_fill
  refine L2.walk_of (l := PySem.Challenge.rw_LID) (n := 63) (k := 40) (x := "script") (CX := fun w => ..) (sp := fun _ => My.sp_law) rfl (by decide) rfl ⟨rfl, by decide, by decide⟩ (fun w h Y => PySem.W.kIn_of Y) ?F ?S ?C
  case F =>
    intro w mg fa h KX G hmg
    have T : ∃ t, My.Txt (L2.KOf KX) t := by
      dsimp only [L2.KOf]                          -- K must stand as «<heap const> w.params» for k_is
      refine' My.txt_mk ?e1 ?e2 ?e3 ..
      (case e1 => PySem.W.k_is)                    -- in the order: a name -> its address -> its object -> its parts
      (case e2 => PySem.W.k_is)
      ..
    obtain ⟨t, T⟩ := T
    have e0 := hmg.symm.trans (PySem.W.mg_of KX G T.law)
    cases e0                                       -- fa is the law's own address
    exact ⟨_, fun s u => .of_eq rfl, fun base kb nb => My.law_fn T kb nb⟩     -- if «.of_eq rfl» comes too early: refine' ⟨_, ?b, fun base kb nb => My.law_fn T kb nb⟩; exact fun s u => .of_eq rfl
  case S => exact fun w H a ns hl hO hS => ..
  case C => exact ..
(the tactic k_is has no namespace: write k_is) -/
namespace L2
open PySem PySem.Spec PyProof.Rows
def defArgs (s : Stmt) : Arguments := match s with
  | .FunctionDef _ a _ _ _ _ _ _ _ _ => a
  | _ => { posonlyargs := [], args := [], vararg := none, kwonlyargs := [], kw_defaults := [], kwarg := none, defaults := [] }
def defBody (s : Stmt) : List Stmt := match s with
  | .FunctionDef _ _ b _ _ _ _ _ _ _ => b
  | _ => []
def defScope (s : Stmt) : Scope := match s with
  | .FunctionDef _ _ _ _ _ _ sc _ _ _ => sc
  | _ => { kind := .function, names := [], isGenerator := false, isCoroutine := false }
abbrev CX0 : CXT := fun _ _ _ _ _ _ => False
abbrev E0 : XK := fun _ _ _ => False
theorem pass0 {X : Cx} : Passes CX0 X E0 := fun _ _ _ _ _ _ _ h => h.elim
structure Fun (K : PySem.W.Frag) (x qual : Str) (st : Stmt) (f : Addr) (fd : FuncData) : Prop where
  ex : ∃ (oc : Value) (od : Option Addr) (kV doc pm : Value) (an : Option Addr) (cdv ct : Value) (osl : Array (Option Value)),
    fd = PySem.W.fnOf x qual (defArgs st) (defBody st) (defScope st) .none kV doc pm an cdv ct ∧ K.lookup f = some ⟨oc, od, .func fd, osl⟩ ∧ PySem.W.codeIn K cdv qual = true
  kp : PySem.W.keepIn K (.ref f) = true
section
variable {P : Program} {w : World} {K : PySem.W.Frag} {mg : Str → Option Value} {base : Heap}
theorem Fun.ok {x qual : Str} {st : Stmt} {f : Addr} {fd : FuncData} {N ps : List Str} {k : Nat} {sp : Sp} (F : Fun K x qual st f fd) (S : FnScope N ps (defScope st)) (len : ∀ vs H Q E, sp vs H Q E → vs.length = ps.length)
    (hbody : ∀ (cdv : Value) (A : Around) (outer : List Env) (s : Shared) (H : Hp) (vs : List V) (Q : VK) (E : XK), Room k (A.deeper (envOfC qual (defScope st) s.heap.objs.size f cdv)) → sp vs H Q E →
      ∃ t, PSs (cxOf CX0 P w K mg base N qual (defScope st) f cdv A outer s H E).nox (defBody st) t ∧ t { nx := fun _ H' => Q .non H', rt := Q } (start N vs) H) : FnOk P w K mg base CX0 (k + 1) f fd ps sp := by
  obtain ⟨oc, od, kV, doc, pm, an, cdv, ct, osl, rfl, lk, hcd⟩ := F.ex
  refine fn_of lk hcd S len fun A outer s H vs Q E hr hsp => ?_
  obtain ⟨t, h, q⟩ := hbody cdv A outer s H vs Q E hr hsp
  exact ⟨t, h.nox, q⟩
theorem Fun.binds {x qual : Str} {st : Stmt} {f : Addr} {fd : FuncData} {ps : List Str} (F : Fun K x qual st f fd)
    (h : ∀ (kV doc pm : Value) (an : Option Addr) (cdv ct : Value) (us : List Value), us.length = ps.length → bindArgs (PySem.W.fnOf x qual (defArgs st) (defBody st) (defScope st) .none kV doc pm an cdv ct) ⟨us, []⟩ = pure (ps.zip us)) : Binds K fd ps [] := by
  obtain ⟨oc, od, kV, doc, pm, an, cdv, ct, osl, rfl, lk, hcd⟩ := F.ex
  exact .all (h kV doc pm an cdv ct)
theorem fun_mk {x qual : Str} {st : Stmt} {f : Addr} {oc : Value} {od an : Option Addr} {osl : Array (Option Value)} {kV doc pm cdv ct : Value} (l : K.lookup f = some ⟨oc, od, .func (PySem.W.fnOf x qual (defArgs st) (defBody st) (defScope st) .none kV doc pm an cdv ct), osl⟩)
    (c : PySem.W.codeIn K cdv qual = true) (k : PySem.W.keepIn K (.ref f) = true) : Fun K x qual st f (PySem.W.fnOf x qual (defArgs st) (defBody st) (defScope st) .none kV doc pm an cdv ct) := ⟨⟨oc, od, kV, doc, pm, an, cdv, ct, osl, rfl, l, c⟩, k⟩
end
theorem hu_of {A : Around} {k : Nat} (hr : Room k A) : A.units + 1 < cLine := Nat.lt_of_le_of_lt (Nat.add_le_add_left (by decide : 1 ≤ 64) _) hr.units
theorem small1000 {n : Nat} (h : n ≤ 1000) : n < sizeLine := Nat.lt_of_le_of_lt h (by decide)
section
variable {X : Cx}
theorem pv (i : Nat) {x : Str} {pos : Pos} (hN : X.N[i]? = some x := by rfl) (hv : Vis X.env.scope x := by first | exact Or.inl rfl | exact Or.inr (Or.inl rfl) | exact Or.inr (Or.inr rfl)) (hd : (x == ("__debug__" : Str)) = false := by decide)
    (hcd : (x == ("__classdict__" : Str)) = false := by decide) : PE X (.Name x pos) (tVar i) := pe_var hN hv hd hcd
end
theorem iteF {A B : Prop} (h : B) : if false = true then A else B := by
  rw [if_neg Bool.false_ne_true]
  exact h
theorem iteT {A B : Prop} (h : A) : if true = true then A else B := by
  rw [if_pos rfl]
  exact h
theorem ite2 {c A B : Prop} [Decidable c] (h1 : c → A) (h2 : ¬ c → B) : if c then A else B := by
  by_cases h : c
  · rw [if_pos h]
    exact h1 h
  · rw [if_neg h]
    exact h2 h
def Same (H H' : Hp) : Prop := ∀ b o, H b = some o → H' b = some o
theorem Same.refl (H : Hp) : Same H H := fun _ _ h => h
theorem Same.trans {H H1 H2 : Hp} (a : Same H H1) (b : Same H1 H2) : Same H H2 := fun c o h => b c o (a c o h)
theorem Same.free {H H' : Hp} (e : Same H H') {l : Addr} (h : H' l = Option.none) : H l = Option.none := by
  cases q : H l with
  | none => rfl
  | some o =>
    rw [e l o q] at h
    cases h
theorem Same.seq {K : PySem.W.Frag} {H H' : Hp} {a : Addr} {xs : List V} (e : Same H H') (h : SqL K H a xs) : SqL K H' a xs := by
  rcases h with (h | ⟨o, h⟩) | h
  · exact .inl (.inl (e _ _ h))
  · exact .inl (.inr ⟨o, e _ _ h⟩)
  · exact .inr h
end L2
namespace L2
open PySem PySem.Spec
theorem bt_len : bootBuiltins "len" = some (.builtin "len") := by decide +kernel
theorem bt_isinstance : bootBuiltins "isinstance" = some (.builtin "isinstance") := by decide +kernel
theorem bt_max : bootBuiltins "max" = some (.builtin "max") := by decide +kernel
theorem bt_min : bootBuiltins "min" = some (.builtin "min") := by decide +kernel
theorem bt_sum : bootBuiltins "sum" = some (.builtin "sum") := by decide +kernel
theorem bt_int : bootBuiltins "int" = some (.type "int") := by decide +kernel
theorem bt_bool : bootBuiltins "bool" = some (.type "bool") := by decide +kernel
theorem bt_list : bootBuiltins "list" = some (.type "list") := by decide +kernel
theorem bt_zip : bootBuiltins "zip" = some (.type "zip") := by decide +kernel
theorem bt_ValueError : bootBuiltins "ValueError" = some (.type "ValueError") := by decide +kernel
end L2
namespace L2
open PySem PySem.Spec PyProof.Rows
theorem ifN {c A B : Prop} [Decidable c] (h : ¬ c) (b : B) : if decide c = true then A else B := by rw [decide_eq_false h]; exact iteF b
theorem ifY {c A B : Prop} [Decidable c] (h : c) (a : A) : if decide c = true then A else B := by rw [decide_eq_true h]; exact iteT a
theorem ifNn {c A B : Prop} [Decidable c] (h : c) (b : B) : if (!decide c) = true then A else B := by rw [decide_eq_true h]; exact iteF b
theorem ifYn {c A B : Prop} [Decidable c] (h : ¬ c) (a : A) : if (!decide c) = true then A else B := by rw [decide_eq_false h]; exact iteT a
structure Has (P : Program) (w : World) (K : PySem.W.Frag) (mg : Str → Option Value) (base : Heap) (CX : CXT) (x : Str) (k : Nat) (ps : List Str) (sp : Sp) : Prop where
  ex : ∃ (f : Addr) (fd : FuncData), FnOk P w K mg base CX k f fd ps sp ∧ Binds K fd ps [] ∧ PySem.W.keepIn K (.ref f) = true ∧ mg x = some (.ref f)
section
variable {X : Cx} {x : Str} {k : Nat} {ps : List Str} {sp : Sp} {e : Expr} {es : List Expr} {t : TA} {p pos : Pos}
theorem pe_ch (h : Has X.prog X.w X.K X.mg X.base CX0 x k ps sp) (hr : Room k X.A) (hg : Gl X x) (ha : PA X (e :: es) t) (hdb : (x == ("__debug__" : Str)) = false := by decide)
    (he : starEach (e :: es) X.env = (false, eval e X.env) :: starEach es X.env := by rfl) (hpl : (backTo pos (starEach es X.env)).any (·.1) = false := by rfl) :
    PE X (.Call (.Name x p) (e :: es) [] pos) (tCall sp [] E0 t) := by
  obtain ⟨f, fd, F, b, kp, m⟩ := h.ex
  exact pe_call F hr hg m kp b .nil pass0 ha hdb he hpl
theorem pe_ch0 (h : Has X.prog X.w X.K X.mg X.base CX0 x k ps sp) (hr : Room k X.A) (hg : Gl X x) (hdb : (x == ("__debug__" : Str)) = false := by decide) :
    PE X (.Call (.Name x p) [] [] pos) (tCall sp [] E0 tNil) := by
  obtain ⟨f, fd, F, b, kp, m⟩ := h.ex
  exact pe_call0 F hr hg m kp b .nil pass0 hdb
end
theorem Same.tup {K : PySem.W.Frag} {H H' : Hp} {a : Addr} {xs : List V} (e : Same H H') (h : SqT K H a xs) : SqT K H' a xs := by
  rcases h with (h | ⟨o, h⟩) | h
  · exact .inl (.inl (e _ _ h))
  · exact .inl (.inr ⟨o, e _ _ h⟩)
  · exact .inr h
inductive RdV (K : PySem.W.Frag) (H : Hp) : V → PyData → Prop
  | non : RdV K H .non .none
  | bl (b : Bool) : RdV K H (.bl b) (.bool b)
  | int (i : Int) : RdV K H (.int i) (.int i)
  | str (x : Str) : RdV K H (.str x) (.str x)
  | lst {a : Addr} {xs : List V} {ds : List PyData} (h : SqL K H a xs) (hl : xs.length = ds.length) (hi : ∀ (i : Nat) (x : V) (d : PyData), xs[i]? = some x → ds[i]? = some d → RdV K H x d) : RdV K H (.ref a) (.list ds)
  | tup {a : Addr} {xs : List V} {ds : List PyData} (h : SqT K H a xs) (hl : xs.length = ds.length) (hi : ∀ (i : Nat) (x : V) (d : PyData), xs[i]? = some x → ds[i]? = some d → RdV K H x d) : RdV K H (.ref a) (.tuple ds)
def RdAll (K : PySem.W.Frag) (H : Hp) (xs : List V) (ds : List PyData) : Prop := xs.length = ds.length ∧ ∀ (i : Nat) (x : V) (d : PyData), xs[i]? = some x → ds[i]? = some d → RdV K H x d
theorem RdAll.nil {K : PySem.W.Frag} {H : Hp} : RdAll K H [] [] := ⟨rfl, fun i x d h => by simp at h⟩
theorem RdAll.cons {K : PySem.W.Frag} {H : Hp} {x : V} {d : PyData} {xs : List V} {ds : List PyData} (h : RdV K H x d) (r : RdAll K H xs ds) : RdAll K H (x :: xs) (d :: ds) :=
  ⟨by simp [r.1], fun i y e h1 h2 => by
    cases i with
    | zero => simp at h1 h2; subst h1; subst h2; exact h
    | succ i => exact r.2 i y e (by simpa using h1) (by simpa using h2)⟩
theorem RdAll.snoc {K : PySem.W.Frag} {H : Hp} {x : V} {d : PyData} : ∀ {xs : List V} {ds : List PyData}, RdAll K H xs ds → RdV K H x d → RdAll K H (xs ++ [x]) (ds ++ [d])
  | [], [], _, h => RdAll.cons h .nil
  | [], _ :: _, r, _ => nomatch r.1
  | _ :: _, [], r, _ => nomatch r.1
  | y :: xs, e :: ds, r, h => by
    have q : RdAll K H xs ds := ⟨by simpa using r.1, fun i a b h1 h2 => r.2 (i + 1) a b (by simpa using h1) (by simpa using h2)⟩
    exact RdAll.cons (r.2 0 y e rfl rfl) (RdAll.snoc q h)
theorem RdV.lst' {K : PySem.W.Frag} {H : Hp} {a : Addr} {xs : List V} {ds : List PyData} (h : SqL K H a xs) (r : RdAll K H xs ds) : RdV K H (.ref a) (.list ds) := .lst h r.1 r.2
theorem RdV.tup' {K : PySem.W.Frag} {H : Hp} {a : Addr} {xs : List V} {ds : List PyData} (h : SqT K H a xs) (r : RdAll K H xs ds) : RdV K H (.ref a) (.tuple ds) := .tup h r.1 r.2
theorem RdV.same {K : PySem.W.Frag} {H H' : Hp} (e : Same H H') {v : V} {d : PyData} (h : RdV K H v d) : RdV K H' v d := by
  induction h with
  | non => exact .non
  | bl b => exact .bl b
  | int i => exact .int i
  | str x => exact .str x
  | lst h hl hi ih => exact .lst (e.seq h) hl ih
  | tup h hl hi ih => exact .tup (e.tup h) hl ih
theorem RdAll.same {K : PySem.W.Frag} {H H' : Hp} (e : Same H H') {xs : List V} {ds : List PyData} (h : RdAll K H xs ds) : RdAll K H' xs ds := ⟨h.1, fun i x d h1 h2 => (h.2 i x d h1 h2).same e⟩
theorem readsAll_of {h : Heap} : ∀ {xs : List V} {us : List Value} {ds : List PyData}, Vals xs us → xs.length = ds.length → (∀ (i : Nat) (x : V) (d : PyData) (u : Value), xs[i]? = some x → ds[i]? = some d → RelV x u → ∃ as, Reads h u d as) → ∃ as, ReadsAll h us ds as
  | [], _, [], .nil, _, _ => ⟨[], .nil⟩
  | [], _, _ :: _, _, hl, _ => nomatch hl
  | _ :: _, _, [], _, hl, _ => nomatch hl
  | x :: xs, u :: us, d :: ds, .cons r t, hl, hi => by
    obtain ⟨as, ha⟩ := hi 0 x d u rfl rfl r
    obtain ⟨bs, hb⟩ := readsAll_of t (by simpa using hl) fun i y e w h1 h2 => hi (i + 1) y e w (by simpa using h1) (by simpa using h2)
    exact ⟨as ++ bs, .cons ha hb⟩
section
variable {X : Cx} {pins : List (Addr × Obj)} {σ : St} {H : Hp} {s : Shared}
theorem RdV.reads (I : Inv X pins σ H s) {v : V} {d : PyData} (h : RdV X.K H v d) : ∀ {u : Value}, RelV v u → ∃ as, Reads s.heap u d as := by
  induction h with
  | non => intro u r; cases r; exact ⟨_, .none⟩
  | bl b => intro u r; cases r; exact ⟨_, .bool b⟩
  | int i => intro u r; obtain ⟨t, rfl⟩ := r; exact ⟨_, .int i t⟩
  | str x => intro u r; obtain ⟨t, rfl⟩ := r; exact ⟨_, .str x t⟩
  | lst h hl hi ih =>
    intro u r; cases r
    obtain ⟨its, rv, ⟨o, n, e, c, _, d⟩, hz⟩ := I.list h
    obtain ⟨as, ha⟩ := readsAll_of (h := s.heap) rv hl fun i x d u h1 h2 r => ih i x d h1 h2 r
    exact ⟨_, .list e c d ha⟩
  | tup h hl hi ih =>
    intro u r; cases r
    obtain ⟨its, rv, ⟨o, e, c, n, d⟩, hz⟩ := I.tuple h
    obtain ⟨as, ha⟩ := readsAll_of (h := s.heap) rv hl fun i x d u h1 h2 r => ih i x d h1 h2 r
    exact ⟨_, .tuple e c d ha⟩
end
section
variable {X : Cx}
def rEqD (K : PySem.W.Frag) : R2 := fun x y H Q => ∃ d d', RdV K H x d ∧ RdV K H y d' ∧ PySem.SeqAt.shaped d = true ∧ PySem.SeqAt.shaped d' = true ∧ Q (.bl (PyData.eqv d d')) H
def rNeD (K : PySem.W.Frag) : R2 := fun x y H Q => ∃ d d', RdV K H x d ∧ RdV K H y d' ∧ PySem.SeqAt.shaped d = true ∧ PySem.SeqAt.shaped d' = true ∧ Q (.bl (!PyData.eqv d d')) H
theorem op_eqD (hu : X.A.units + 64 < cLine) : OpR X (compareOp .Eq) (rEqD X.K) := by
  intro pins s σ H x y v u Q I rx ry h
  obtain ⟨d, d', h1, h2, s1, s2, q⟩ := h
  obtain ⟨as, r1⟩ := h1.reads I rx
  obtain ⟨bs, r2⟩ := h2.reads I ry
  exact eq_dataH r1 r2 s1 s2 hu ⟨.bl _, H, I, rfl, q⟩
theorem op_neD (hu : X.A.units + 64 < cLine) : OpR X (compareOp .NotEq) (rNeD X.K) := by
  intro pins s σ H x y v u Q I rx ry h
  obtain ⟨d, d', h1, h2, s1, s2, q⟩ := h
  obtain ⟨as, r1⟩ := h1.reads I rx
  obtain ⟨bs, r2⟩ := h2.reads I ry
  exact ne_dataH r1 r2 s1 s2 hu ⟨.bl _, H, I, rfl, q⟩
def DctAt (a : Addr) : Heap → Prop := fun h => ∃ o, h.get? a = some o ∧ o.cls = .type "dict"
inductive TyV (K : PySem.W.Frag) (H : Hp) : V → String → Prop
  | non : TyV K H .non "NoneType"
  | bl (b : Bool) : TyV K H (.bl b) "bool"
  | int (i : Int) : TyV K H (.int i) "int"
  | str (x : Str) : TyV K H (.str x) "str"
  | lst {a : Addr} {xs : List V} (h : SqL K H a xs) : TyV K H (.ref a) "list"
  | tup {a : Addr} {xs : List V} (h : SqT K H a xs) : TyV K H (.ref a) "tuple"
  | dct {a : Addr} (h : H a = some (.ext (DctAt a))) : TyV K H (.ref a) "dict"
def rIsi (K : PySem.W.Frag) : List V → Hp → VK → Prop := fun vs H Q => ∃ x n t b, vs = [x, .ty n] ∧ TyV K H x t ∧ PySem.W.kitOne K (.type t) (.type n) = some b ∧ Q (.bl b) H
theorem call_isi : CallR X (.builtin "isinstance") (rIsi X.K) := by
  intro pins s σ H xs us Q I r h
  obtain ⟨x, n, t, b, rfl, ty, e, q⟩ := h
  obtain ⟨u, w', rfl, rx, rw'⟩ := vals2 r
  cases rw'
  have fin : ∀ tk, EP X pins σ Q (.bool b) { s with toks := tk } := fun tk => ⟨.bl b, H, I.tok tk, rfl, q⟩
  cases ty with
  | non => cases rx; exact PySem.W.kia_one PySem.W.kitx_none I.kIn True.intro e (fun z => nomatch z) fin
  | bl y => cases rx; exact PySem.W.kia_one PySem.W.kitx_bool I.kIn True.intro e (fun z => nomatch z) fin
  | int i => obtain ⟨t, rfl⟩ := rx; exact PySem.W.kia_one PySem.W.kitx_int I.kIn True.intro e (fun z => nomatch z) fin
  | str y => obtain ⟨t, rfl⟩ := rx; exact PySem.W.kia_one PySem.W.kitx_str I.kIn True.intro e (fun z => nomatch z) fin
  | lst h =>
    cases rx
    obtain ⟨its, rv, ⟨o, n, e1, c, _, d⟩, hz⟩ := I.list h
    exact PySem.W.kia_one PySem.W.kitx_list I.kIn ⟨o, e1, c⟩ e (fun z => nomatch z) fin
  | dct h =>
    cases rx
    obtain ⟨⟨o, e1, c⟩, _⟩ := I.hok _ _ h
    exact PySem.W.kia_one PySem.W.kitx_dict I.kIn ⟨o, e1, c⟩ e (fun z => nomatch z) fin
  | tup h =>
    cases rx
    obtain ⟨its, rv, ⟨o, e1, c, n, d⟩, hz⟩ := I.tuple h
    exact PySem.W.kia_one PySem.W.kitx_tuple I.kIn ⟨o, e1, c⟩ e (fun z => nomatch z) fin
def rLen (K : PySem.W.Frag) : List V → Hp → VK → Prop := fun xs H Q => ∃ p ys, xs = [.ref p] ∧ (SqL K H p ys ∨ SqT K H p ys) ∧ Q (.int ys.length) H
def CMulB (i j : Int) : Prop := (-340282366920938463463374607431768211456 < i ∧ i < 340282366920938463463374607431768211456) ∧ (-340282366920938463463374607431768211456 < j ∧ j < 340282366920938463463374607431768211456)
theorem CMulB.ok {i j : Int} (h : CMulB i j) : IntMulOk i j := by
  have e : (2 : Nat) ^ 128 = 340282366920938463463374607431768211456 := by decide
  obtain ⟨⟨h1, h2⟩, h3, h4⟩ := h
  have a : i.natAbs < 2 ^ 128 := by rw [e]; omega
  have b : j.natAbs < 2 ^ 128 := by rw [e]; omega
  exact IntMulOk.of_bits (Nat.le_trans (PyProof.Rows.intBits_le a) (by decide)) (Nat.le_trans (PyProof.Rows.intBits_le b) (by decide))
theorem op_mulB : OpR X (binaryOp .Mult) (rI CMulB fun i j => .int (i * j)) := opI fun _ _ _ _ _ _ _ hc q => mul_int q hc.ok
end
end L2
namespace L2
open PySem PySem.Spec PyProof.Rows
def clGo (cells : List (Str × Addr)) : List (Str × NameKind) → List (Str × Addr) → List (Str × Addr)
  | [], cs => cs
  | (n, k) :: r, cs => clGo cells r (if k == .free then (match cells.lookup n with | some c => (n, c) :: cs | none => cs) else cs)
theorem clGo_sub {cells : List (Str × Addr)} : ∀ (names : List (Str × NameKind)) (cs : List (Str × Addr)), (∀ x c, cs.lookup x = some c → cells.lookup x = some c) → ∀ x c, (clGo cells names cs).lookup x = some c → cells.lookup x = some c
  | [], _, h => h
  | (n, k) :: r, cs, h => by
    refine clGo_sub r _ fun x c e => ?_
    split at e
    · split at e
      · rename_i c' hc
        rw [List.lookup_cons] at e
        by_cases z : (x == n) = true
        · rw [z] at e
          have z' : x = n := by simpa using z
          rw [z']
          exact hc.trans e
        · rw [Bool.not_eq_true] at z
          rw [z] at e
          exact h x c e
      · exact h x c e
    · exact h x c e
theorem clGo_keep {cells : List (Str × Addr)} {x : Str} {c : Addr} (hx : cells.lookup x = some c) : ∀ (names : List (Str × NameKind)) (cs : List (Str × Addr)), cs.lookup x = some c → (clGo cells names cs).lookup x = some c
  | [], _, h => h
  | (n, k) :: r, cs, h => by
    refine clGo_keep hx r _ ?_
    split
    · split
      · rename_i c' hc
        rw [List.lookup_cons]
        by_cases z : (x == n) = true
        · rw [z]
          have z' : x = n := by simpa using z
          rw [z'] at hx
          exact hc.symm.trans hx
        · rw [Bool.not_eq_true] at z
          rw [z]
          exact h
      · exact h
    · exact h
theorem clGo_has {cells : List (Str × Addr)} {x : Str} {c : Addr} (hx : cells.lookup x = some c) : ∀ (names : List (Str × NameKind)) (cs : List (Str × Addr)), (x, NameKind.free) ∈ names → (clGo cells names cs).lookup x = some c
  | [], _, h => nomatch h
  | (n, k) :: r, cs, h => by
    rcases List.mem_cons.mp h with e | h
    · cases e
      refine clGo_keep hx r _ ?_
      simp [hx, List.lookup_cons]
    · exact clGo_has hx r _ h
theorem closureFor_go {env : Env} {scope : Scope} (h : ∀ y ∈ scope.names, y.2 = NameKind.free → ∃ c, env.cells.lookup y.1 = some c) : closureFor scope env = pure (clGo env.cells scope.names []) := by
  have go : ∀ (names : List (Str × NameKind)) (cs : List (Str × Addr)), (∀ y ∈ names, y.2 = NameKind.free → ∃ c, env.cells.lookup y.1 = some c) →
      (forIn names cs fun x (r : List (Str × Addr)) => if (x.2 == NameKind.free) = true then do let c ← cellOf env x.1; pure (ForInStep.yield ((x.1, c) :: r)) else pure (ForInStep.yield r) : Sem (List (Str × Addr))) = pure (clGo env.cells names cs) := by
    intro names
    induction names with
    | nil => intro cs _; rfl
    | cons y r ih =>
      intro cs hy
      obtain ⟨n, k⟩ := y
      rw [List.forIn_cons]
      by_cases hk : k = NameKind.free
      · subst hk
        obtain ⟨c, hc⟩ := hy _ List.mem_cons_self rfl
        have hc' : env.cells.lookup n = some c := hc
        have hcell : cellOf env n = pure c := by simp only [cellOf, hc']
        simp only [hcell, beq_self_eq_true, if_true, pure_bind]
        rw [ih _ fun y hm => hy y (List.mem_cons_of_mem _ hm)]
        simp only [clGo, beq_self_eq_true, if_true, hc']
      · have hb : (k == NameKind.free) = false := by simpa using hk
        simp only [hb, Bool.false_eq_true, if_false, pure_bind]
        rw [ih _ fun y hm => hy y (List.mem_cons_of_mem _ hm)]
        simp only [clGo, hb, Bool.false_eq_true, if_false]
  have e := go scope.names [] h
  unfold closureFor
  simp only [bind_pure] at e ⊢
  exact e
theorem relab_look {scope : Scope} {env : Env} (x : Str) : (relabel scope env).names.lookup x = (scope.names.lookup x).map fun k => if (k == NameKind.free && env.scope.kind == .function && env.kindOf x == some .cell) = true then .cell else k := by
  show (scope.names.map fun (n, k) => if (k == NameKind.free && env.scope.kind == .function && env.kindOf n == some .cell) = true then (n, NameKind.cell) else (n, k)).lookup x = _
  induction scope.names with
  | nil => rfl
  | cons y r ih =>
    obtain ⟨n, k⟩ := y
    rw [List.map_cons]
    by_cases z : (x == n) = true
    · have z' : x = n := by simpa using z
      subst z'
      by_cases hc : (k == NameKind.free && env.scope.kind == .function && env.kindOf x == some .cell) = true
      · simp only [hc, if_true, List.lookup_cons, beq_self_eq_true, Option.map_some]
      · simp only [hc, if_false, List.lookup_cons, beq_self_eq_true, Option.map_some, Bool.false_eq_true]
    · rw [Bool.not_eq_true] at z
      by_cases hc : (k == NameKind.free && env.scope.kind == .function && env.kindOf n == some .cell) = true
      · simp only [hc, if_true, List.lookup_cons, z]; exact ih
      · simp only [hc, if_false, List.lookup_cons, z, Bool.false_eq_true]; exact ih
theorem mem_of_look {α β : Type} [BEq α] [LawfulBEq α] {x : α} {b : β} : ∀ {l : List (α × β)}, l.lookup x = some b → (x, b) ∈ l
  | [], h => by simp at h
  | (n, k) :: r, h => by
    rw [List.lookup_cons] at h
    by_cases z : (x == n) = true
    · rw [z] at h
      have z' : x = n := by simpa using z
      cases h
      rw [z']
      exact List.mem_cons_self
    · rw [Bool.not_eq_true] at z
      rw [z] at h
      exact List.mem_cons_of_mem _ (mem_of_look h)
def Cx.blk (X : Cx) (N : List Str) (scope : Scope) (C : Addr) (ex : List Addr) (s : Shared) (H : Hp) : Cx where
  prog := X.prog
  w := X.w
  K := X.K
  mg := X.mg
  base := X.base
  A := X.A
  N := N
  s₀ := s
  H₀ := H
  env := compEnvC scope (clGo X.env.cells scope.names []) C X.env
  outer := X.stack
  stack := X.stack
  ex := ex
  fn := fun _ => false
  calm := X.calm
  pn := []
  xe := fun _ _ => False
structure BlkOk (X : Cx) (own : Nat) (N : List Str) (ix : List Nat) (scope : Scope) : Prop where
  kind : scope.kind = .function
  calm : X.calm = true
  free : scope.names.all (fun y => y.2 != .free || X.env.kindOf y.1 == some .cell) = true
  cell : scope.names.all (fun y => y.2 != .cell) = true
  loc : scope.names.all (fun y => y.2 != .local || scope.names.lookup y.1 == some .local) = true
  ixs : (ix.map fun i => X.N[i]?) = (N.drop own).map some
  fr : (N.drop own).all (fun x => scope.names.lookup x == some .free) = true
  len : N.length = own + ix.length
def blkSt (own : Nat) (ix : List Nat) (σ : St) : St := List.replicate own none ++ ix.map fun i => (σ[i]?).getD none
theorem blkSt_drop (own : Nat) (ix : List Nat) (σ : St) : (blkSt own ix σ).drop own = ix.map fun i => (σ[i]?).getD none := by
  unfold blkSt
  rw [List.drop_left' (by simp)]
theorem blkSt_get {own : Nat} {ix : List Nat} {σ : St} {j : Nat} {v : V} (h : (blkSt own ix σ)[j]? = some (some v)) : ∃ i, own ≤ j ∧ ix[j - own]? = some i ∧ σ[i]? = some (some v) := by
  unfold blkSt at h
  by_cases hj : j < own
  · rw [List.getElem?_append_left (by simpa using hj)] at h
    rw [List.getElem?_replicate] at h
    simp [hj] at h
  · rw [List.getElem?_append_right (by simpa using hj)] at h
    rw [List.length_replicate, List.getElem?_map] at h
    cases e : ix[j - own]? with
    | none => rw [e] at h; simp at h
    | some i =>
      rw [e] at h
      refine ⟨i, by omega, rfl, ?_⟩
      have h' : (σ[i]?).getD none = some v := by simpa using h
      cases q : σ[i]? with
      | none => rw [q] at h'; simp at h'
      | some o => rw [q] at h'; simp at h'; rw [h']
theorem blkSt_weak {own : Nat} {ix : List Nat} {σ σ2 : St} (hd : σ2.drop own = ix.map fun i => (σ[i]?).getD none) : ∀ (j : Nat) v, (blkSt own ix σ)[j]? = some (some v) → σ2[j]? = some (some v) := fun j v h => by
  by_cases hj : j < own
  · obtain ⟨i, h1, _⟩ := blkSt_get h
    omega
  · have e : (blkSt own ix σ)[j]? = ((blkSt own ix σ).drop own)[j - own]? := by rw [List.getElem?_drop]; congr 1; omega
    have e2 : σ2[j]? = (σ2.drop own)[j - own]? := by rw [List.getElem?_drop]; congr 1; omega
    rw [e, blkSt_drop, ← hd, ← e2] at h
    exact h
section
variable {X : Cx} {pins : List (Addr × Obj)} {σ : St} {H : Hp} {s : Shared} {own : Nat} {N : List Str} {ix : List Nat} {scope : Scope}
theorem BlkOk.has (B : BlkOk X own N ix scope) (I : Inv X pins σ H s) : ∀ y ∈ scope.names, y.2 = NameKind.free → X.env.kindOf y.1 = some .cell ∧ ∃ c, X.env.cells.lookup y.1 = some c := fun y hy e => by
  have z := List.all_eq_true.mp B.free y hy
  rw [e] at z
  have z' : X.env.kindOf y.1 = some .cell := by simpa using z
  exact ⟨z', I.ok.has y.1 (.inl z')⟩
theorem blk_start {C : Addr} {ex : List Addr} {h' : Heap} {tk : Nat} (B : BlkOk X own N ix scope) (I : Inv X pins σ H s) (hC : C = s.heap.objs.size) (hx : ∀ b ∈ ex, FpOk X pins H b) (hlt : ∀ b ∈ ex, b < s.heap.objs.size)
    (hn : h'.Ns C (fun _ => none)) (hk : ∀ b o, s.heap.get? b = some o → h'.get? b = some o) : Inv (X.blk N scope C ex s H) [] (blkSt own ix σ) H { s with heap := h', toks := tk } := by
  have sub : ∀ x c, (clGo X.env.cells scope.names []).lookup x = some c → X.env.cells.lookup x = some c := clGo_sub scope.names [] fun x c e => by simp at e
  have nb : ∀ b o, X.base.get? b = some o → b ∉ ex := fun b o e hb => by
    rcases (hx b hb).2.2.2.1 with z | z
    · exact I.ok.noex b o e z
    · exact absurd (Nat.lt_of_lt_of_le (Heap.lt_size e) (Nat.le_trans I.ok.bsz z)) (Nat.lt_irrefl _)
  have nstk : ∀ b ∈ ex, b ∉ frs X.stack := fun b hb z => by
    rcases List.mem_cons.mp (I.stkSub b z) with e | e
    · exact (hx b hb).2.1 e
    · exact (hx b hb).2.2.1 e
  refine ⟨⟨I.ok.mod, B.kind, I.ok.glob, I.ok.blt, ?_, fun x y c e1 e2 => I.ok.inj x y c (sub x c e1) (sub y c e2), fun x hk' => ?_, (fun _ _ z => absurd (show false = true from z) (by decide)), I.ok.hd, I.ok.frames, .inl rfl, fun b hb => ⟨?_, fun x c e => (hx b hb).2.2.2.2.1 x c (sub x c e)⟩,
    fun b o e => I.bs b o e, Nat.le_trans I.ok.bsz I.sz, nb, nstk, I.stack, I.stkFree⟩, rfl, I.bare, Un.kept hk, ⟨_, hn, fun j x v e1 e2 e3 => ?_⟩, fun x c e => ?_, ?_, fun x c e => I.freeC x c (sub x c e), (fun p hp => nomatch hp), I.hok.kept hk, ?_⟩
  · show s.heap.objs.size ≤ C
    exact Nat.le_of_eq hC.symm
  · have hk'' : (relabel scope X.env).names.lookup x = some .cell ∨ (relabel scope X.env).names.lookup x = some .free := hk'
    rw [relab_look] at hk''
    have hf : scope.names.lookup x = some .free := by
      cases q : scope.names.lookup x with
      | none => rw [q] at hk''; rcases hk'' with z | z <;> cases z
      | some k =>
        rw [q] at hk''
        by_cases hkf : k = .free
        · rw [hkf]
        · exfalso
          have hb : (k == NameKind.free) = false := by simpa using hkf
          have hm := List.all_eq_true.mp B.cell (x, k) (mem_of_look q)
          simp only [Option.map_some, hb, Bool.false_and, Bool.false_eq_true, if_false] at hk''
          rcases hk'' with z | z
          · rw [Option.some.inj z] at hm; exact absurd hm (by simp)
          · exact hkf (Option.some.inj z)
    obtain ⟨_, c, hc⟩ := B.has I (x, .free) (mem_of_look hf) rfl
    exact ⟨c, clGo_has hc scope.names [] (mem_of_look hf)⟩
  · show b ≠ C
    rw [hC]
    exact Nat.ne_of_lt (hlt b hb)
  · obtain ⟨i, h1, h2, h3⟩ := blkSt_get e2
    have hN : N[j]? = some x := e1
    have hxN : X.N[i]? = some x := by
      have e : (ix.map fun i => X.N[i]?)[j - own]? = ((N.drop own).map some)[j - own]? := by rw [B.ixs]
      rw [List.getElem?_map, h2, List.getElem?_map, List.getElem?_drop] at e
      have hj : own + (j - own) = j := by omega
      rw [hj, hN] at e
      simpa using e
    have hfr : scope.names.lookup x = some .free := by
      have hm : x ∈ N.drop own := by
        refine List.mem_of_getElem? (i := j - own) ?_
        rw [List.getElem?_drop, show own + (j - own) = j by omega]
        exact hN
      have := List.all_eq_true.mp B.fr x hm
      simpa using this
    obtain ⟨hkc, c, hc⟩ := B.has I (x, .free) (mem_of_look hfr) rfl
    obtain ⟨m, hm, hl⟩ := I.loc
    obtain ⟨u, r, l⟩ := hl i x v hxN h3 (.inr (.inl hkc))
    refine ⟨u, r, ?_⟩
    rcases l with ⟨z, _⟩ | ⟨_, c', hc', hz⟩
    · have z' : X.env.kindOf x = some .local := z
      have hkc' : X.env.kindOf x = some .cell := hkc
      rw [hkc'] at z'
      cases z'
    · rw [hc] at hc'
      cases hc'
      refine .inr ⟨.inl ?_, c, clGo_has hc scope.names [] (mem_of_look hfr), ?_⟩
      · show (relabel scope X.env).names.lookup x = some .cell
        rw [relab_look, hfr]
        have hkc' : X.env.kindOf x = some .cell := hkc
        have hkf : X.env.scope.kind = .function := I.ok.kind
        simp [hkc', hkf]
      · obtain ⟨o, ho, hd⟩ := hz
        exact ⟨o, hk _ _ ho, hd⟩
  · obtain ⟨v, o, ho, hd⟩ := I.cell x c (sub x c e)
    exact ⟨v, o, hk _ _ ho, hd⟩
  · show H C = none
    exact I.hok.fresh (Nat.le_of_eq hC.symm)
  · show (blkSt own ix σ).length = N.length
    rw [B.len]
    simp [blkSt]
theorem blk_end {C : Addr} {ex : List Addr} {σ' : St} {H' : Hp} {s' : Shared} (I : Inv X pins σ H s) (hx : ∀ b ∈ ex, FpOk X pins H b) (I' : Inv (X.blk N scope C ex s H) [] σ' H' s') : Inv X pins σ H' s' :=
  I.call' (ch := ex) I'.os I'.base I'.hok I'.bare fun b hb => ⟨(hx b hb).2.2.2.1, (hx b hb).2.1, (hx b hb).2.2.2.2.1, (hx b hb).2.2.2.2.2⟩
def PIf (X : Cx) (ifs : List Expr) (tt : TT) : Prop := ∀ (pins : List (Addr × Obj)) (s : Shared) (σ : St) (H : Hp) (Q : Bool → Hp → Prop), Inv X pins σ H s → tt σ H Q →
  wpAny (model X.prog X.w) X.A (forIn ifs true fun c r => if r = true then do let ok ← isTrue c X.env (eval c X.env); pure (ForInStep.yield ok) else pure (ForInStep.yield r)) (TP X pins σ Q) X.xe s
def tYes : TT := fun _ H Q => Q true H
theorem pif_nil {X : Cx} : PIf X [] tYes := fun _ _ _ H _ I h => wpAny_tests_nil ⟨H, I, h⟩
def LcW (J : It) (own : Nat) (ix : List Nat) (σ : St) (g : TG) (tt : TT) (te : TE) (D : Addr) (H1 : Hp) (Q : VK) : Prop := ∃ W : Nat → Nat → List V → Hp → Prop,
  (∃ m, W 0 m [] (upd H1 D (.lst []))) ∧ ∀ i m ys H2, W i m ys H2 → H2 D = some (.lst ys) ∧ ((J.stop i H2 ∧ Q (.ref D) H2) ∨ (J.go i H2 ∧ ys.length < sizeLine ∧ ∃ Nx : List V → Hp → Prop, (∀ ys' H', Nx ys' H' → ∃ m', m' < m ∧ W (i + 1) m' ys' H') ∧ ∀ x H3, J.yld i H2 x H3 →
    g x (blkSt own ix σ) H3 fun σ2 H4 => σ2.drop own = (ix.map fun i => (σ[i]?).getD none) ∧ tt σ2 H4 fun b H5 => if b = true then te σ2 H5 fun v H6 => H6 D = some (.lst ys) ∧ Nx (ys ++ [v]) (upd H6 D (.lst (ys ++ [v]))) else Nx ys H5))
def tLc (own : Nat) (ix : List Nat) (wi : TI) (g : TG) (tt : TT) (te : TE) : TE := fun σ H Q => wi σ H fun J H1 => ∀ D, H1 D = none → LcW J own ix σ g tt te D H1 Q
theorem compLoop_go {prog : Program} {w : World} {A : Around} {R : Result → Shared → Prop} {s : Shared} {elt target iter : Expr} {ifs : List Expr} {scope : Scope} {pos : Pos} {it acc : Value} {env : Env} (I : Nat → Shared → Prop)
    (turn : ∀ n s, I n s → wpAny (model prog w) A (pyNext it) (fun r s1 => match r with
      | none => R (.ok .next) s1
      | some v => wpAny (model prog w) A (letOwnedTupleGo target it v) (fun _ s1' => wpAny (model prog w) A (assign target env v) (fun _ s2 =>
          wpAny (model prog w) A (forIn ifs true fun c r => if r = true then do let ok ← isTrue c env (eval c env); pure (ForInStep.yield ok) else pure (ForInStep.yield r)) (fun ok s3 =>
            if ok = true then wpAny (model prog w) A (eval elt env) (fun x s4 => wpAny (model prog w) A (call (.builtin "list.append") [acc, x]) (fun _ s5 => ∃ m, m < n ∧ I m s5) (fun _ _ => False) s4) (fun _ _ => False) s3
            else ∃ m, m < n ∧ I m s3) (fun _ _ => False) s2) (fun _ _ => False) s1') (fun _ _ => False) s1) (fun _ _ => False) s)
    (n : Nat) (h : I n s) : codeAny (model prog w) A (.compLoop (.ListComp elt [⟨target, iter, ifs, 0⟩] scope pos) 0 it acc env) R s := by
  refine codeAny_loop rfl I (fun n s hI => ?_) n h
  show wpAny _ A ((compTurn (.ListComp elt [⟨target, iter, ifs, 0⟩] scope pos) 0 it acc env).onRaise (fun x => do noteFrame x env; theTreesLotGoes x)) _ _ s
  refine wpAny_noted ?_
  rw [compTurn_list]
  refine wpAny_bind (wpAny_standAt (wpAny_bind (wpAny_mono (turn n s hI) (fun r s1 h1 => ?_) fun _ _ z => z.elim)))
  cases r with
  | none => exact wpAny_pure h1
  | some v =>
    refine wpAny_bind (wpAny_mono h1 (fun _ s1' h1' => ?_) fun _ _ z => z.elim)
    refine wpAny_bind (wpAny_mono h1' (fun _ s2 h2 => wpAny_bind (wpAny_mono h2 (fun ok s3 h3 => ?_) fun _ _ z => z.elim)) fun _ _ z => z.elim)
    cases ok with
    | false => exact wpAny_pure ⟨rfl, h3⟩
    | true => exact wpAny_bind (wpAny_bind (wpAny_mono h3 (fun x s4 h4 => wpAny_bind (wpAny_mono h4 (fun _ s5 h5 => wpAny_pure (wpAny_pure ⟨rfl, h5⟩)) fun _ _ z => z.elim)) fun _ _ z => z.elim))
theorem blk_run {elt tg iter : Expr} {ifs : List Expr} {pos : Pos} {g : TG} {tt : TT} {te : TE} {it : Addr} {fp : List Addr} {tn : Nat → Heap → Prop} {J : It} {Q : VK} {E : Value → Shared → Prop} {RR : Value → Addr → Result → Shared → Prop} (B : BlkOk X own N ix scope)
    (hin : ∀ (C : Addr) (s : Shared) (H : Hp), PG (X.blk N scope C fp s H) tg g ∧ PIf (X.blk N scope C fp s H) ifs tt ∧ PE (X.blk N scope C fp s H) elt te)
    (I : Inv X pins σ H s) (T : Turn X.prog X.w X.K tg J fp it tn) (st : tn 0 s.heap) (hf : ∀ b ∈ fp, FpOk X pins H b)
    (h : ∀ D, H D = none → LcW J own ix σ g tt te D H Q)
    (fin : ∀ (D C : Addr) (H' : Hp) (s' : Shared) (m : Str → Option Value), Inv X pins σ H' s' → s'.heap.Ns C m → H' C = none → C ≠ X.env.locals → (X.s₀.heap.objs.size ≤ C) → (∀ x c, X.env.cells.lookup x = some c → c ≠ C) → (∀ p ∈ X.pn ++ pins, p.1 ≠ C) → Q (.ref D) H' → RR (.ref D) C (.ok .next) s') :
    wpAny (model X.prog X.w) X.A (newList []) (fun acc s3 => wpAny (model X.prog X.w) X.A (newFunctionEnv scope X.env.globals (clGo X.env.cells scope.names []) [] X.env.qual none .none (some X.env)) (fun cenv s4 =>
      codeAny (model X.prog X.w) X.A (.compStart (.ListComp elt [⟨tg, iter, ifs, 0⟩] scope pos) 0 (.ref it) acc { cenv with scope := relabel scope X.env }) (RR acc cenv.locals) s4) E s3) E s := by
  obtain ⟨W, ⟨m0, w0⟩, turn⟩ := h s.heap.objs.size I.fresh
  refine wpAny_newObj_type ?_
  have I3 := I.lnew (its := []) (ys := []) (t' := s.toks) .nil (Nat.zero_le _)
  have hcell : ∀ y ∈ scope.names, y.2 ≠ NameKind.cell := fun y hy e => by
    have := List.all_eq_true.mp B.cell y hy
    rw [e] at this
    exact absurd this (by decide)
  refine wpAny_newFunctionEnv hcell (by intro y hy; simp at hy) (fun h1 hns1 hsb1 => ?_) B.kind
  dsimp only at hns1 hsb1 ⊢
  generalize hH2 : s.heap.push { cls := .type "list", dict := none, data := .seq ([] : List Value).toArray } = h2 at hns1 hsb1 ⊢
  have I3' : Inv X pins σ (upd H s.heap.objs.size (.lst [])) { s with heap := h2 } := by
    have z : ({ s with heap := s.heap.push { cls := .type "list", data := .seq ([] : List Value).toArray }, toks := s.toks } : Shared) = { s with heap := h2 } := by rw [← hH2]
    rw [← z]
    exact I3
  have sz : h2.objs.size = s.heap.objs.size + 1 := by rw [← hH2, Heap.size_push]
  have old2 : ∀ b o, s.heap.get? b = some o → h2.get? b = some o := fun b o e => by rw [← hH2]; exact Heap.get?_push_of_some _ e
  have keep1 : ∀ b o, h2.get? b = some o → h1.get? b = some o := fun b o e => hsb1.extBut b o (Nat.ne_of_lt (Heap.lt_size e)) (Heap.get?_push_of_some _ e)
  have there : ∀ b ∈ fp, b < s.heap.objs.size := fun b hb => by obtain ⟨o, e, _⟩ := T.obj _ _ st b hb; exact Heap.lt_size e
  have hf3 : ∀ b ∈ fp, FpOk X pins (upd H s.heap.objs.size (.lst [])) b := fun b hb => ⟨by rw [upd_ne (Nat.ne_of_lt (there b hb))]; exact (hf b hb).1, (hf b hb).2⟩
  have hn1 : h1.Ns h2.objs.size (fun _ => none) := by simpa using hns1
  have I4 := blk_start (tk := s.toks + ([] : List (Str × Value)).length) (own := own) (N := N) (ix := ix) B I3' rfl hf3 (fun b hb => Nat.lt_of_lt_of_le (there b hb) (by show s.heap.objs.size ≤ h2.objs.size; rw [sz]; exact Nat.le_succ _)) hn1 keep1
  have st4 : tn 0 h1 := T.keep _ _ _ st fun b _ o e => keep1 b o (old2 b o e)
  have Bc : (X.blk N scope h2.objs.size fp { s with heap := h2 } (upd H s.heap.objs.size (.lst []))).calm = true := B.calm
  obtain ⟨pg, pif, pe⟩ := hin h2.objs.size { s with heap := h2 } (upd H s.heap.objs.size (.lst []))
  have fpb : ∀ {H' : Hp}, (∀ b ∈ fp, H' b = none) → ∀ b ∈ fp, FpOk (X.blk N scope h2.objs.size fp { s with heap := h2 } (upd H s.heap.objs.size (.lst []))) [] H' b := fun hz b hb =>
    ⟨hz b hb, Nat.ne_of_lt (Nat.lt_of_lt_of_le (there b hb) (by show s.heap.objs.size ≤ h2.objs.size; rw [sz]; exact Nat.le_succ _)), I4.ok.exfs b hb, .inl hb, fun x c e => (I4.ok.exf b hb).2 x c e, (fun p hp => nomatch hp)⟩
  have loop : ∀ s3 : Shared, s3 = { s with heap := h1, toks := s.toks + ([] : List (Str × Value)).length } →
      codeAny (model X.prog X.w) X.A (.compLoop (.ListComp elt [⟨tg, iter, ifs, 0⟩] scope pos) 0 (.ref it) (.ref s.heap.objs.size) (compEnvC scope (clGo X.env.cells scope.names []) h2.objs.size X.env)) (RR (.ref s.heap.objs.size) h2.objs.size) s3 := by
    rintro s3 rfl
    refine compLoop_go (fun n s' => ∃ i ys H', Inv (X.blk N scope h2.objs.size fp { s with heap := h2 } (upd H s.heap.objs.size (.lst []))) [] (blkSt own ix σ) H' s' ∧ tn i s'.heap ∧ (∀ b ∈ fp, H' b = none) ∧ W i n ys H') ?_ m0
      ⟨0, [], _, I4, st4, fun b hb => (hf3 b hb).1, w0⟩
    rintro n s5 ⟨i, ys, H5, I5, st5, fr5, w5⟩
    obtain ⟨hD, t5⟩ := turn i n ys H5 w5
    rcases t5 with ⟨stop, qn⟩ | ⟨go, hz, Nx, hNx, step⟩
    · refine thn (T.done (X.blk N scope h2.objs.size fp { s with heap := h2 } (upd H s.heap.objs.size (.lst []))) rfl rfl rfl Bc i [] s5 _ H5 (fun _ _ => False) I5 (fpb fr5) st5 stop) fun r s6 ⟨hr, I6⟩ => ?_
      subst hr
      obtain ⟨m, hm, _⟩ := I6.loc
      refine fin _ _ H5 s6 m (blk_end I3' hf3 I6) hm I6.free ?_ ?_ (fun x c e z => ?_) (fun p hp z => ?_) qn
      · have := I3'.lt
        exact Nat.ne_of_gt this
      · exact I3'.sz
      · obtain ⟨v, q⟩ := I3'.cell x c e
        have := q.lt
        rw [z] at this
        exact absurd this (Nat.lt_irrefl _)
      · have := Heap.lt_size (I3'.pin p hp).1
        rw [z] at this
        exact absurd this (Nat.lt_irrefl _)
    · refine thn (T.item (X.blk N scope h2.objs.size fp { s with heap := h2 } (upd H s.heap.objs.size (.lst []))) rfl rfl rfl Bc i [] s5 _ H5 (fun _ _ => False) I5 (fpb fr5) st5 go) fun r s6 ⟨u, hr, h6⟩ => ?_
      subst hr
      refine thn h6 fun _ s7 ⟨x, H7, I7, r7, y7, st7, fr7⟩ => ?_
      have I7' := I7.pinned (fpb fr7) (T.obj _ _ st7)
      refine thn (pg _ s7 _ H7 x u _ I7' r7 (step x H7 y7)) fun _ s8 ⟨σ8, H8, I8, hd8, q8⟩ => ?_
      refine thn (pif _ s8 σ8 H8 _ I8 q8) fun b s9 ⟨H9, I9, q9⟩ => ?_
      have again : ∀ {ys' : List V} {H' : Hp} {s' : Shared}, Inv (X.blk N scope h2.objs.size fp { s with heap := h2 } (upd H s.heap.objs.size (.lst []))) ([] ++ pinsAt fp s7.heap) σ8 H' s' → Nx ys' H' →
          ∃ m, m < n ∧ ∃ i ys H', Inv (X.blk N scope h2.objs.size fp { s with heap := h2 } (upd H s.heap.objs.size (.lst []))) [] (blkSt own ix σ) H' s' ∧ tn i s'.heap ∧ (∀ b ∈ fp, H' b = none) ∧ W i m ys H' := by
        intro ys' H' s' I' w'
        obtain ⟨m', hm, w'⟩ := hNx _ _ w'
        refine ⟨m', hm, i + 1, ys', H', (I'.unpinned).weak ?_ (blkSt_weak hd8), T.keep _ _ _ st7 fun b hb o e => (I'.pin (b, o) (List.mem_append_right _ (List.mem_append_right _ (mem_pinsAt hb e)))).1, fun b hb => ?_, w'⟩
        · rw [I'.len, ← I4.len]
        · obtain ⟨o, e, d⟩ := T.obj _ _ st7 b hb
          exact (I'.pin (b, o) (List.mem_append_right _ (List.mem_append_right _ (mem_pinsAt hb e)))).2.1
      cases b with
      | true =>
        simp only [if_true] at q9 ⊢
        refine thn (pe _ s9 σ8 H9 _ I9 q9) fun v s10 ⟨y, H10, I10, r10, hD10, q10⟩ => ?_
        refine thn (mt_append _ s10 σ8 H10 (.ref _) [y] (.ref _) [v] (fun _ H' => Nx (ys ++ [y]) H') I10 rfl (.cons r10 .nil) ⟨_, ys, y, rfl, rfl, hD10, hz, q10⟩) fun _ s11 ⟨_, H11, I11, _, q11⟩ => ?_
        exact again I11 q11
      | false =>
        simp only [Bool.false_eq_true, if_false] at q9 ⊢
        exact again I9 q9
  exact codeAny_compStart_list (loop _ rfl) (T.self _ 0 _ _ _ st4 (loop _ rfl))
theorem lc_range {lo : Int} {n : Nat} {g : TG} {tt : TT} {te : TE} {H1 : Hp} {Q : VK} {D : Addr} (Pv : Nat → List V → Hp → Prop) (hn : n ≤ sizeLine) (h0 : Pv 0 [] (upd H1 D (.lst []))) (hD : ∀ i ys H, Pv i ys H → H D = some (.lst ys) ∧ ys.length ≤ i)
    (hs : ∀ i ys H2, i < n → Pv i ys H2 → g (.int (lo + i)) (blkSt own ix σ) H2 fun σ2 H4 => σ2.drop own = (ix.map fun i => (σ[i]?).getD none) ∧ tt σ2 H4 fun b H5 => if b = true then te σ2 H5 fun v H6 => H6 D = some (.lst ys) ∧ Pv (i + 1) (ys ++ [v]) (upd H6 D (.lst (ys ++ [v]))) else Pv (i + 1) ys H5)
    (hd : ∀ ys H2, Pv n ys H2 → Q (.ref D) H2) :
    LcW (Itr lo n) own ix σ g tt te D H1 Q := by
  refine ⟨fun i m ys H => m = n - i ∧ i ≤ n ∧ Pv i ys H, ⟨n, by simp, Nat.zero_le _, h0⟩, ?_⟩
  rintro i m ys H2 ⟨rfl, hi, p⟩
  obtain ⟨q1, q2⟩ := hD i ys H2 p
  refine ⟨q1, ?_⟩
  by_cases hlt : i < n
  · refine .inr ⟨hlt, by omega, Pv (i + 1), fun ys' H' p' => ⟨n - (i + 1), by omega, rfl, hlt, p'⟩, fun x H3 y => ?_⟩
    obtain ⟨e1, e2⟩ := y
    subst e1 e2
    exact hs i ys _ hlt p
  · have e : i = n := by omega
    subst e
    exact .inl ⟨Nat.le_refl _, hd ys H2 p⟩
theorem lc_list {K : PySem.W.Frag} {a : Addr} {xs : List V} {g : TG} {tt : TT} {te : TE} {H1 : Hp} {Q : VK} {D : Addr} (Pv : Nat → List V → Hp → Prop) (hn : xs.length ≤ sizeLine) (h0 : Pv 0 [] (upd H1 D (.lst []))) (hD : ∀ i ys H, i ≤ xs.length → Pv i ys H → H D = some (.lst ys) ∧ ys.length ≤ i ∧ SqL K H a xs)
    (hs : ∀ i x ys H2, xs[i]? = some x → Pv i ys H2 → g x (blkSt own ix σ) H2 fun σ2 H4 => σ2.drop own = (ix.map fun i => (σ[i]?).getD none) ∧ tt σ2 H4 fun b H5 => if b = true then te σ2 H5 fun v H6 => H6 D = some (.lst ys) ∧ Pv (i + 1) (ys ++ [v]) (upd H6 D (.lst (ys ++ [v]))) else Pv (i + 1) ys H5)
    (hd : ∀ ys H2, Pv xs.length ys H2 → Q (.ref D) H2) :
    LcW (Itl K a) own ix σ g tt te D H1 Q := by
  refine ⟨fun i m ys H => m = xs.length - i ∧ i ≤ xs.length ∧ Pv i ys H, ⟨xs.length, by simp, Nat.zero_le _, h0⟩, ?_⟩
  rintro i m ys H2 ⟨rfl, hi, p⟩
  obtain ⟨q1, q2, q3⟩ := hD i ys H2 hi p
  refine ⟨q1, ?_⟩
  by_cases hlt : i < xs.length
  · refine .inr ⟨⟨xs, xs[i], q3, by simp [hlt]⟩, by omega, Pv (i + 1), fun ys' H' p' => ⟨xs.length - (i + 1), by omega, rfl, hlt, p'⟩, fun x H3 y => ?_⟩
    obtain ⟨e1, e2⟩ := y
    subst e1
    exact hs i x ys _ (e2 xs q3) p
  · have e : i = xs.length := by omega
    subst e
    exact .inl ⟨⟨xs, q3, Nat.le_refl _⟩, hd ys H2 p⟩
theorem pe_lc {elt tg iter : Expr} {ifs : List Expr} {pos : Pos} {wi : TI} {g : TG} {tt : TT} {te : TE} (own : Nat) (N : List Str) (ix : List Nat) (B : BlkOk X own N ix scope) (hi : PI X tg iter wi)
    (hin : ∀ (C : Addr) (fp : List Addr) (s : Shared) (H : Hp), PG (X.blk N scope C fp s H) tg g ∧ PIf (X.blk N scope C fp s H) ifs tt ∧ PE (X.blk N scope C fp s H) elt te)
    (hs : ∀ x, foldedSetIterable iter X.env x = pure x := by intro _; rfl) : PE X (.ListComp elt [⟨tg, iter, ifs, 0⟩] scope pos) (tLc own ix wi g tt te) := by
  intro pins s σ H Q I h
  have hnames : ∀ y ∈ scope.names, y.2 = NameKind.local → scope.names.lookup y.1 = some .local := fun y hy e => by
    have := List.all_eq_true.mp B.loc y hy
    rw [e] at this
    simpa using this
  rw [eval_ListComp]
  refine wpAny_comprehension_free (use := none) rfl hs (closureFor_go fun y hy e => (B.has I y hy e).2) B.kind hnames (thn (hi pins s σ H _ I h) fun v s1 h1 => thn h1 fun itv s2 h2 => ?_)
  obtain ⟨it, fp, tn, J, H2, e, I2, T, st2, f2, rd⟩ := h2
  subst e
  refine blk_run (Q := Q) (RR := fun acc C => compPost (model X.prog X.w) X.A X.xe none (EP X pins σ Q) acc C) B (fun C s H => hin C fp s H) I2 T st2 f2 rd ?_
  intro D C H' s' m I' hn hC hL hsz hce hpi q
  exact ⟨m, hn, fun h' sb => ⟨.ref D, H', I'.turned (t' := s'.toks) (fun b o hb e => (sb.2 b hb).trans e) hC hL (.inr hsz) hce hpi, rfl, q⟩⟩
theorem ps_setLC {i : Nat} {x : Str} {elt tg iter : Expr} {ifs : List Expr} {pos pos' spos : Pos} {wi : TI} {g : TG} {tt : TT} {te : TE} (hN : X.N.Nodup) (hxi : X.N[i]? = some x) (hx : Loc X.env.scope x) (own : Nat) (N : List Str) (ix : List Nat) (B : BlkOk X own N ix scope) (hi : PI X tg iter wi)
    (hin : ∀ (C : Addr) (fp : List Addr) (s : Shared) (H : Hp), PG (X.blk N scope C fp s H) tg g ∧ PIf (X.blk N scope C fp s H) ifs tt ∧ PE (X.blk N scope C fp s H) elt te)
    (hsw : swapsWith (.ListComp elt [⟨tg, iter, ifs, 0⟩] scope pos) (some (.Name x pos')) spos.line X.env = pure true := by rfl) (hs : ∀ x, foldedSetIterable iter X.env x = pure x := by intro _; rfl)
    (hfn : X.fn x = true ∨ X.env.scope.names.lookup x = some .local := by first | exact .inl rfl | exact .inr rfl) : PS X (.Assign [.Name x pos'] (.ListComp elt [⟨tg, iter, ifs, 0⟩] scope pos) spos) (tAsg (tLc own ix wi g tt te) (gName i)) := by
  intro pins s σ H D0 I h
  have hnames : ∀ y ∈ scope.names, y.2 = NameKind.local → scope.names.lookup y.1 = some .local := fun y hy e => by
    have := List.all_eq_true.mp B.loc y hy
    rw [e] at this
    simpa using this
  rw [exec_Assign_Name_used _ _ _ _ hsw]
  refine wpAny_bind (wpAny_standAt (wpAny_bind ?_))
  show wpAny _ X.A (do let _ ← comprehension (.ListComp elt [⟨tg, iter, ifs, 0⟩] scope pos) scope X.env _ (newList []) false (eval iter X.env) (some (assign (.Name x pos') X.env))) _ _ s
  refine wpAny_bind (thn (wpAny_comprehension_free (use := some (assign (.Name x pos') X.env)) (Q := fun _ s' => SP X pins D0 .next s') rfl hs (closureFor_go fun y hy e => (B.has I y hy e).2) B.kind hnames (thn (hi pins s σ H _ I h) fun v s1 h1 => thn h1 fun itv s2 h2 => ?_)) fun _ s' hq => wpAny_pure (wpAny_pure hq))
  obtain ⟨it, fp, tn, J, H2, e, I2, T, st2, f2, rd⟩ := h2
  subst e
  refine blk_run (Q := fun v H' => gName i v σ H' D0.nx) (RR := fun acc C => compPost (model X.prog X.w) X.A X.xe (some (assign (.Name x pos') X.env)) (fun _ s' => SP X pins D0 .next s') acc C) B (fun C s H => hin C fp s H) I2 T st2 f2 rd ?_
  intro D C H' s' m I' hn hC hL hsz hce hpi q
  show wpAny _ X.A (assign (.Name x pos') X.env (.ref D)) _ _ s'
  refine wpAny_assign_Name (store_ok2 I' hN hxi hx (v := .ref D) rfl (fun s'' I'' ⟨a, sb, ha⟩ => ?_) hfn)
  refine ⟨m, hn.sameBut sb ?_, fun h' sb' => ⟨_, H', I''.turned (t' := s''.toks) (fun b o hb e => (sb'.2 b hb).trans e) hC hL (.inr hsz) hce hpi, q⟩⟩
  rcases ha with e | e
  · rw [e]; exact hL
  · exact Ne.symm (hce x a e)
end
end L2
namespace L2
open PySem PySem.Spec PyProof.Rows
section
variable {X : Cx}
def rCatS (K : PySem.W.Frag) : R2 := fun x y H Q => ∃ l b xs zs, x = .ref l ∧ y = .ref b ∧ SqL K H l xs ∧ SqL K H b zs ∧ xs.length + zs.length ≤ sizeLine ∧ ∀ p, H p = none → Q (.ref p) (upd H p (.lst (xs ++ zs)))
theorem op_catS : OpR X (binaryOp .Add) (rCatS X.K) := by
  intro pins s σ H x y v u Q I rx ry h
  obtain ⟨l, b, xs, zs, rfl, rfl, hH, hB, hz, q⟩ := h
  cases rx
  cases ry
  obtain ⟨its, r, ⟨⟨c1, d1, a1, sl1⟩, n, e, rfl, rfl, rfl⟩, z⟩ := I.list hH
  obtain ⟨its2, r2, ⟨⟨c2, d2, a2, sl2⟩, n2, e2, rfl, rfl, rfl⟩, z2⟩ := I.list hB
  have hl := r.length
  have hl2 := r2.length
  refine concat_meets ⟨_, e, rfl⟩ ⟨_, e2, rfl⟩ noFill_list_add seq_list_add PySem.F.slot_list_add PySem.F.entry_list_add (PySem.F.args_list_add_2 _ _)
    (list_addW l b its.toArray its2.toArray n n2 none none sl1 sl2 (by rw [List.size_toArray, List.size_toArray]; omega)) ⟨e, e2, ?_⟩
  rw [show its.toArray ++ its2.toArray = (its ++ its2).toArray by simp]
  exact ⟨.ref _, _, I.lnew (t' := s.toks) (r.append r2) (by rw [List.length_append]; omega), rfl, q _ I.fresh⟩
end
section
variable {X : Cx} {tg : Expr}
end
end L2
namespace L2
open PySem PySem.Spec PyProof.Rows
def DiD (K : PySem.W.Frag) (w : World) (d : Addr) (kds : List (Str × PyData)) : Prop :=
  (d == sysModules) = false ∧ ∃ (o : Obj) (vs : List (Str × Value)), K.lookup d = some o ∧ (∀ P : Program, o.IsDictOf (strKind P w) vs) ∧
    Paired (fun a b => a.1 = b.1 ∧ ∃ v, RelV v a.2 ∧ ∀ H : Hp, RdV K H v b.2) vs kds
def getP (kds : List (Str × PyData)) (k : Str) : Option PyData := (kds.find? fun kv => decide (kv.1 = k)).map (·.2)
theorem paired_get {K : PySem.W.Frag} {vs : List (Str × Value)} {kds : List (Str × PyData)} (k : Str) (h : Paired (fun a b => a.1 = b.1 ∧ ∃ v, RelV v a.2 ∧ ∀ H : Hp, RdV K H v b.2) vs kds) :
    (valueAt vs k = none ∧ getP kds k = none) ∨ ∃ u d v, valueAt vs k = some u ∧ getP kds k = some d ∧ RelV v u ∧ ∀ H : Hp, RdV K H v d := by
  induction h with
  | nil => exact .inl ⟨rfl, rfl⟩
  | @cons a b as bs hab t ih =>
    obtain ⟨e, v, h1, h2⟩ := hab
    by_cases q : a.1 = k
    · refine .inr ⟨a.2, b.2, v, ?_, ?_, h1, h2⟩
      · unfold valueAt; rw [List.find?_cons_of_pos (by simpa using q)]; rfl
      · unfold getP; rw [List.find?_cons_of_pos (by simpa [← e] using q)]; rfl
    · have e1 : valueAt (a :: as) k = valueAt as k := by unfold valueAt; rw [List.find?_cons_of_neg (by simpa using q)]
      have e2 : getP (b :: bs) k = getP bs k := by unfold getP; rw [List.find?_cons_of_neg (by simpa [← e] using q)]
      rw [e1, e2]
      exact ih
def entC (w : World) (e : Str × Tok × Value) : DictEntry := { hash := PyData.keyHash w.params e.1, key := .str e.1 e.2.1, val := e.2.2 }
theorem diD_of {K : PySem.W.Frag} {w : World} {d : Addr} {ep : Nat} {ent : List (Str × Tok × Value)} {kds : List (Str × PyData)} (hd : (d == sysModules) = false)
    (lk : K.lookup d = some { cls := .type "dict", data := .dict (ent.map (entC w)).toArray ep }) (nd : (ent.map (·.1)).Nodup)
    (h : Paired (fun (e : Str × Tok × Value) (kd : Str × PyData) => e.1 = kd.1 ∧ ∃ v, RelV v e.2.2 ∧ ∀ H : Hp, RdV K H v kd.2) ent kds) : DiD K w d kds := by
  refine ⟨hd, _, ent.map (fun e => (e.1, e.2.2)), lk, fun P => ⟨_, ep, ⟨rfl, rfl, rfl⟩, rfl, ?_, ?_, ?_⟩, ?_⟩
  · intro e he
    simp at he
    obtain ⟨a, b, c, _, rfl⟩ := he
    exact ⟨a, strKind_is _ _ _ _, rfl⟩
  · show Pairs _ (ent.map (entC w)) _
    clear h nd lk
    induction ent with
    | nil => exact .nil
    | cons e r ih => exact .cons (strKind_is _ _ _ _) rfl ih
  · rw [List.map_map]
    exact nd
  · clear lk nd
    induction h with
    | nil => exact .nil
    | cons a t ih => exact .cons a ih
theorem rdK_tup {K : PySem.W.Frag} {r : Addr} {its : List Value} {ds : List PyData} (lk : K.lookup r = some { cls := .type "tuple", data := .seq its.toArray 0 }) (hz : its.length ≤ sizeLine)
    (h : Paired (fun u d => ∃ v, RelV v u ∧ ∀ H : Hp, RdV K H v d) its ds) : ∃ v, RelV v (.ref r) ∧ ∀ H : Hp, RdV K H v (.tuple ds) := by
  have key : ∃ xs : List V, Vals xs its ∧ ∀ H : Hp, RdAll K H xs ds := by
    clear lk hz
    induction h with
    | nil => exact ⟨[], .nil, fun H => RdAll.nil⟩
    | cons a t ih =>
      obtain ⟨v, h1, h2⟩ := a
      obtain ⟨xs, g1, g2⟩ := ih
      exact ⟨v :: xs, .cons h1 g1, fun H => RdAll.cons (h2 H) (g2 H)⟩
  obtain ⟨xs, h1, h2⟩ := key
  exact ⟨.ref r, rfl, fun H => .tup' (.inr ⟨_, its.toArray, 0, lk, rfl, rfl, by simpa using hz, h1⟩) (h2 H)⟩
theorem rdK_ref {K : PySem.W.Frag} {r : Addr} {d : PyData} (h : ∃ v, RelV v (.ref r) ∧ ∀ H : Hp, RdV K H v d) : ∀ H : Hp, RdV K H (.ref r) d := by
  obtain ⟨v, h1, h2⟩ := h
  intro H
  cases v <;> simp [RelV] at h1
  subst h1
  exact h2 H
theorem rdK_str {K : PySem.W.Frag} {x : Str} {t : Tok} : ∃ v, RelV v (.str x t) ∧ ∀ H : Hp, RdV K H v (.str x) := ⟨.str x, ⟨t, rfl⟩, fun _ => .str x⟩
section
variable {X : Cx}
theorem DiD.at {K : PySem.W.Frag} {pins : List (Addr × Obj)} {σ : St} {H : Hp} {s : Shared} {w : World} {d : Addr} {kds : List (Str × PyData)} (hK : X.K = K) (I : Inv X pins σ H s) (h : DiD K w d kds) :
    (d == sysModules) = false ∧ ∃ vs, (∀ P, s.heap.DictOf (strKind P w) d vs) ∧ Paired (fun a b => a.1 = b.1 ∧ ∃ v, RelV v a.2 ∧ ∀ H : Hp, RdV K H v b.2) vs kds := by
  obtain ⟨h0, o, vs, lk, hd, hp⟩ := h
  subst hK
  exact ⟨h0, vs, fun P => Heap.dictOf_iff.mpr ⟨o, I.kIn d o lk, hd P⟩, hp⟩
def tGetK (K : PySem.W.Frag) (w : World) (to : TE) (t : TA) : TE := fun σ H Q => to σ H fun x H1 => ∃ d kds, x = .ref d ∧ DiD K w d kds ∧ t σ H1 fun xs H2 => ∃ k z, xs = [.str k, z] ∧ (getP kds k = none → Q z H2) ∧
  ∀ dt, getP kds k = some dt → ∀ v : V, (∀ H : Hp, RdV K H v dt) → Q v H2
variable {o e : Expr} {es : List Expr} {to : TE} {t : TA} {apos cpos : Pos}
theorem pe_getK (ho : PE X o to) (ha : PA X (e :: es) t)
    (hbase : attributeBase o "get" X.env (eval o X.env) = eval o X.env := by rfl)
    (hfew : ((backTo cpos (starEach (e :: es) X.env)).all (fun x => !x.1) && (backToKw cpos (keywordEach [] X.env)).all (fun x => x.1.isSome)
      && decide ((e :: es).length + ([] : List Keyword).length + (if ([] : List Keyword).isEmpty then 0 else 1) < 30)) = true := by rfl)
    (hline : (apos.endLine == cpos.line) = true := by rfl) (hs : starEach (e :: es) X.env = (false, eval e X.env) :: starEach es X.env := by rfl) (hplain : (backTo cpos (starEach es X.env)).any (·.1) = false := by rfl) :
    PE X (.Call (.Attribute o "get" apos) (e :: es) [] cpos) (tGetK X.K X.w to t) := by
  intro pins s σ H Q I h
  refine wpAny_Call_method_late hbase hfew hline rfl (thn (ho pins s σ H _ I h) fun v s1 ⟨x, H1, I1, r1, d, kds, ex, hd, q1⟩ => ?_)
  subst ex
  cases r1
  obtain ⟨h0, vs, hm, hp⟩ := hd.at rfl I1
  refine ⟨"dict", "dict.get", PySem.F.plainAttrs_dict, PySem.F.slot_dict_get, PySem.F.type_dict_get, (hm X.prog).mapOf.typeIs, fun b eb => ?_, ?_⟩
  · cases eb
    obtain ⟨ob, _, _, g1, g2, _⟩ := hm X.prog
    exact ⟨ob, g1, g2.2.1⟩
  have hA := ha cpos pins s1 σ H1 _ I1 q1
  rw [hs] at hA ⊢
  refine Calls.callWith_builtin (by show (false || (backTo cpos (starEach es X.env)).any (·.1)) = false; rw [hplain] <;> rfl) (Calls.evalArgs_plain ?_)
  refine thn hA fun us s2 ⟨ws, H2, I2, r2, k, z, ez, q2, q3⟩ => ?_
  subst ez
  obtain ⟨u1, u2, rfl, ru1, ru2⟩ := vals2 r2
  obtain ⟨tk, rfl⟩ := ru1
  obtain ⟨h0, vs, hm, hp⟩ := hd.at rfl I2
  refine call_meetsIn PySem.F.slot_dict_get (hm X.prog).mapOf.typeIs PySem.F.entry_dict_get (PySem.F.args_dict_get_3 _ _ _) (meets_dict_get_default (strKind X.prog X.w) d (strKind_is X.prog X.w k tk) h0 u2) ⟨_, (hm X.prog).mapOf, ?_⟩
  rcases paired_get k hp with ⟨a, b⟩ | ⟨u, dt, v, a, b, c1, c2⟩
  · rw [a]
    exact ⟨z, H2, I2.tok _, ru2, q2 b⟩
  · rw [a]
    exact ⟨v, H2, I2.tok _, c1, q3 dt b v c2⟩
end
end L2
namespace L2
open PySem PySem.Spec PyProof.Rows
theorem Inv.turnNew {X : Cx} {pins : List (Addr × Obj)} {σ : List (Option V)} {H : Hp} {s : Shared} {h' : Heap} {fp : List Addr} {a : Addr} {o : HO} {t' : Nat} (I : Inv X pins σ H s) (hf : ∀ b ∈ fp, FpOk X pins H b)
    (k : ∀ b u, b ∉ fp → s.heap.get? b = some u → h'.get? b = some u) (hp : s.heap.objs.size ≤ a) (new : ObjOk X.prog X.w (upd H a o) h' a o) : Inv X pins σ (upd H a o) { s with heap := h', toks := t' } := by
  have hn := I.hok.fresh hp
  have nfp : ∀ b u, H b = some u → b ∉ fp := fun b u e z => by rw [(hf b z).1] at e; cases e
  refine I.step (g' := s.gens) (d' := s.drawn) (ch := fp) (fun b hb => ⟨(hf b hb).2.2.2.1, (hf b hb).2.1, (hf b hb).2.2.2.2.1, (hf b hb).2.2.2.2.2⟩) (fun b o _ _ hc e _ => k b o hc e) (fun b o _ _ hc e _ => ⟨o.slots, k b o hc e⟩)
    (fun b o hc e n => by rw [upd_ne (Nat.ne_of_lt (Nat.lt_of_lt_of_le (Heap.lt_size e) hp))]; exact n) (fun b o hc e => ⟨o, k b o hc e⟩) (fun b xs e => by rw [upd_ne (ne_of_none e hn)]; exact e) (fun b u xs e => by rw [upd_ne (ne_of_none e hn)]; exact e)
    (fun b ps e => ⟨#[], by rw [upd_ne (ne_of_none e hn), e]; simp⟩) (fun m hm => ?_) (fun b u e => ?_) I.bare
  · obtain ⟨o, es, ep, ho, r⟩ := hm
    exact ⟨o, es, ep, k _ o (fun z => (hf _ z).2.1 rfl) ho, r⟩
  · by_cases hb : b = a
    · subst hb; rw [upd_same] at e; cases e; exact new
    · rw [upd_ne hb] at e
      refine (I.hok b u e).stay (fun c v hc q => k c v ?_ q) (fun c q => by rw [upd_ne (ne_of_none q hn)]; exact q) fun c xs q => by rw [upd_ne (ne_of_none q hn)]; exact q
      rcases hc with z | z
      · rw [z]; exact nfp b u e
      · exact nfp c _ z
theorem Inv.turnedL {X : Cx} {pins : List (Addr × Obj)} {σ : List (Option V)} {H : Hp} {s : Shared} {h' : Heap} {fp : List Addr} {t' : Nat} (I : Inv X pins σ H s) (hf : ∀ b ∈ fp, FpOk X pins H b)
    (k : ∀ b u, b ∉ fp → s.heap.get? b = some u → h'.get? b = some u) : Inv X pins σ H { s with heap := h', toks := t' } := by
  have nfp : ∀ b u, H b = some u → b ∉ fp := fun b u e z => by rw [(hf b z).1] at e; cases e
  refine I.step (g' := s.gens) (d' := s.drawn) (ch := fp) (fun b hb => ⟨(hf b hb).2.2.2.1, (hf b hb).2.1, (hf b hb).2.2.2.2.1, (hf b hb).2.2.2.2.2⟩) (fun b o _ _ hc e _ => k b o hc e) (fun b o _ _ hc e _ => ⟨o.slots, k b o hc e⟩)
    (fun _ _ _ _ n => n) (fun b o hc e => ⟨o, k b o hc e⟩) (fun _ _ e => e) (fun _ _ _ e => e) (fun b ps e => ⟨#[], by rw [e]; simp⟩) (fun m hm => ?_) (fun b u e => ?_) I.bare
  · obtain ⟨o, es, ep, ho, r⟩ := hm
    exact ⟨o, es, ep, k _ o (fun z => (hf _ z).2.1 rfl) ho, r⟩
  · refine (I.hok b u e).stay (fun c v hc q => k c v ?_ q) (fun _ q => q) fun _ _ q => q
    rcases hc with z | z
    · rw [z]; exact nfp b u e
    · exact nfp c _ z
def sqAt (q : Bool) (h : Heap) (a : Addr) (its : Array Value) : Prop := match q with | true => h.IsList a its | false => h.IsTuple a its
def itAt (q : Bool) (h : Heap) (it a : Addr) (i : Nat) : Prop := match q with | true => h.IsListIter it a i | false => h.IsTupleIter it a i
def itC (q : Bool) : String := match q with | true => "list_iterator" | false => "tuple_iterator"
theorem sqAt.at {q : Bool} {h h' : Heap} {a : Addr} {its : Array Value} (x : sqAt q h a its) (e : ∀ o, h.get? a = some o → h'.get? a = some o) : sqAt q h' a its := by
  cases q <;> (obtain ⟨o, ho, r⟩ := x; exact ⟨o, e _ ho, r⟩)
theorem itAt.at {q : Bool} {h h' : Heap} {it a : Addr} {i : Nat} (x : itAt q h it a i) (e : ∀ o, h.get? it = some o → h'.get? it = some o) : itAt q h' it a i := by
  cases q <;> (obtain ⟨o, ho, r⟩ := x; exact ⟨o, e _ ho, r⟩)
theorem itAt.obj {q : Bool} {h : Heap} {it a : Addr} {i : Nat} (x : itAt q h it a i) : ∃ o, h.get? it = some o ∧ ∀ v, o.data ≠ .cell v := by
  cases q <;> (obtain ⟨o, ho, c, d⟩ := x; exact ⟨o, ho, fun v z => by rw [d] at z; cases z⟩)
section
variable {prog : Program} {w : World} {A : Around} {E : Value → Shared → Prop} {s : Shared}
theorem nxT_item {it t : Addr} {i : Nat} {its : Array Value} {x : Value} {Q : Value → Shared → Prop} (hit : s.heap.IsTupleIter it t i) (ht : s.heap.IsTuple t its) (hx : its[i]? = some x)
    (hQ : ∀ h', h'.IsTupleIter it t (i + 1) → Heap.SameBut it s.heap h' → Q x { s with heap := h' }) : wpAny (model prog w) A (Builtin.SmallTypes.nextOf (.ref it)) Q E s := by
  obtain ⟨o, g1, g2, g3⟩ := id hit
  obtain ⟨ot, g4, _, nt, g5⟩ := ht
  unfold Builtin.SmallTypes.nextOf
  refine wpAny_bind (wpAny_callSpecial?_slot (name := Str.ofString "__next__") hit.typeIs F.slot_tuple_iterator_next (wpAny_call_entry F.slot_tuple_iterator_next hit.typeIs F.entry_tuple_iterator_next ?_ (F.args_tuple_iterator_next_1 _)))
  show wpAny _ _ (field (.ref it) 0 >>= _) _ _ s
  refine wpAny_bind (wpAny_field g1 g3 (x := .ref t) rfl ?_)
  show wpAny _ _ (if (Value.ref t == Value.none) = true then _ else _) _ _ s
  rw [if_neg (show ¬ ((Value.ref t == Value.none) = true) from Bool.false_ne_true)]
  show wpAny _ _ (field (.ref it) 1 >>= _) _ _ s
  refine wpAny_bind (wpAny_field g1 g3 (x := .int i 0) rfl ?_)
  show wpAny _ _ (seqItems? (.ref t) >>= _) _ _ s
  refine wpAny_bind (wpAny_seqItems g4 g5 ?_)
  simp only [Int.toNat_natCast, hx]
  refine wpAny_bind (wpAny_setField g1 g3 (by simp) (wpAny_pure ⟨x, rfl, wpAny_pure (hQ _ ?_ (Heap.SameBut.update ..))⟩))
  exact ⟨_, Heap.get?_update_self _ g1 (Obj.isFreed_of_fields (Obj.data_mapFields g3 _)), (Obj.cls_mapFields ..).trans g2, by rw [Obj.data_mapFields g3]; simp [rawInt]⟩
theorem nxT_end {it t : Addr} {i : Nat} {its : Array Value} {Q : Value → Shared → Prop} (hh : A.handled = none) (hit : s.heap.IsTupleIter it t i) (ht : s.heap.IsTuple t its) (hx : its[i]? = none)
    (hE : ∀ h' e, Heap.ExtBut it s.heap h' → (∃ o, h'.get? e = some o ∧ o.cls = .type "StopIteration") → E (.ref e) { s with heap := h' }) : wpAny (model prog w) A (Builtin.SmallTypes.nextOf (.ref it)) Q E s := by
  obtain ⟨o, g1, g2, g3⟩ := id hit
  obtain ⟨ot, g4, _, nt, g5⟩ := ht
  unfold Builtin.SmallTypes.nextOf
  refine wpAny_bind (wpAny_callSpecial?_slot (name := Str.ofString "__next__") hit.typeIs F.slot_tuple_iterator_next (wpAny_call_entry F.slot_tuple_iterator_next hit.typeIs F.entry_tuple_iterator_next ?_ (F.args_tuple_iterator_next_1 _)))
  show wpAny _ _ (field (.ref it) 0 >>= _) _ _ s
  refine wpAny_bind (wpAny_field g1 g3 (x := .ref t) rfl ?_)
  show wpAny _ _ (if (Value.ref t == Value.none) = true then _ else _) _ _ s
  rw [if_neg (show ¬ ((Value.ref t == Value.none) = true) from Bool.false_ne_true)]
  show wpAny _ _ (field (.ref it) 1 >>= _) _ _ s
  refine wpAny_bind (wpAny_field g1 g3 (x := .int i 0) rfl ?_)
  show wpAny _ _ (seqItems? (.ref t) >>= _) _ _ s
  refine wpAny_bind (wpAny_seqItems g4 g5 ?_)
  simp only [Int.toNat_natCast, hx]
  refine wpAny_bind (wpAny_rule (wpAny_bind (wpAny_setField g1 g3 (by simp) ?_)))
  show wpAny _ _ (newExc (.type "StopIteration") [] >>= _) _ _ _
  refine wpAny_bind ?_
  simp only [newExc, newTuple]
  refine wpAny_bind (wpAny_newObj_type ?_ (by size_fits))
  refine wpAny_bind (m := firstArgMember _ _) (wpAny_of_eq (a := Value.none) (by first | rfl | (simp only [firstArgMember]; rfl)) ?_)
  refine wpAny_newObj_type ?_ (by size_fits)
  simp only [raiseNew]
  refine wpAny_bind (wpAny_handled ?_)
  first | rw [show A.in1.handled = none from hh] | rw [hh]
  refine wpAny_bind (wpAny_pure (wpAny_throw ?_))
  exact hE _ _ (((Heap.SameBut.update ..).extBut.push _).push _) ⟨_, Heap.get?_push_size _ rfl, rfl⟩
theorem nx_item {q : Bool} {it t : Addr} {i : Nat} {its : Array Value} {x : Value} {Q : Value → Shared → Prop} (hit : itAt q s.heap it t i) (ht : sqAt q s.heap t its) (hx : its[i]? = some x)
    (hQ : ∀ h', itAt q h' it t (i + 1) → Heap.SameBut it s.heap h' → Q x { s with heap := h' }) : wpAny (model prog w) A (Builtin.SmallTypes.nextOf (.ref it)) Q E s := by
  cases q with
  | true => exact wpAny_nextOf_list_item hit ht hx hQ
  | false => exact nxT_item hit ht hx hQ
theorem nx_end {q : Bool} {it t : Addr} {i : Nat} {its : Array Value} {Q : Value → Shared → Prop} (hh : A.handled = none) (hit : itAt q s.heap it t i) (ht : sqAt q s.heap t its) (hx : its[i]? = none)
    (hE : ∀ h' e, Heap.ExtBut it s.heap h' → (∃ o, h'.get? e = some o ∧ o.cls = .type "StopIteration") → E (.ref e) { s with heap := h' }) : wpAny (model prog w) A (Builtin.SmallTypes.nextOf (.ref it)) Q E s := by
  cases q with
  | true => exact wpAny_nextOf_list_end hh hit ht hx hE
  | false => exact nxT_end hh hit ht hx hE
variable {q1 q2 : Bool} {z TI TO i1 i2 l1 l2 : Addr} {k1 k2 : Nat} {xs ys : Array Value} {x y a b : Value}
theorem zipQ_item {Q : Option Value → Shared → Prop} (D : ZipApart z TI TO i1 i2 l1 l2) (hz : IsZip s.heap z TI TO .none) (hTI : IsPair s.heap TI (.ref i1) (.ref i2)) (hTO : IsPair s.heap TO a b)
    (h1 : itAt q1 s.heap i1 l1 k1) (h2 : itAt q2 s.heap i2 l2 k2) (hl1 : sqAt q1 s.heap l1 xs) (hl2 : sqAt q2 s.heap l2 ys) (hx : xs[k1]? = some x) (hy : ys[k2]? = some y)
    (hQ : ∀ h', IsZip h' z TI TO (rawInt s.heap.objs.size) → IsPair h' TO x y → itAt q1 h' i1 l1 (k1 + 1) → itAt q2 h' i2 l2 (k2 + 1) → IsPair h' s.heap.objs.size x y →
      (∀ c o, c ≠ z → c ≠ TO → c ≠ i1 → c ≠ i2 → s.heap.get? c = some o → h'.get? c = some o) → Q (some (.ref s.heap.objs.size)) { s with heap := h' }) : wpAny (model prog w) A (pyNext (.ref z)) Q E s := by
  have hT : s.TypeIs (.ref z) "zip" := ⟨_, hz, rfl⟩
  unfold pyNext
  refine wpAny_bind (wpAny_attempt (wpAny_callSpecial?_slot (name := Str.ofString "__next__") hT F.slot_zip_next (wpAny_call_entry F.slot_zip_next hT F.entry_zip_next ?_ (F.args_zip_next_1 _))))
  show wpAny _ _ (field (.ref z) 2 >>= _) _ _ _
  refine wpAny_bind (wpAny_field hz rfl (x := .bool false) rfl ?_)
  show wpAny _ _ (field (.ref z) 3 >>= _) _ _ _
  refine wpAny_bind (wpAny_field hz rfl (x := .ref TI) rfl (wpAny_bind (wpAny_seqItems hTI rfl ?_)))
  show wpAny _ _ (Builtin.SmallTypes.ownedTupleIsFree (.ref z) >>= _) _ _ _
  refine wpAny_bind ?_
  unfold Builtin.SmallTypes.ownedTupleIsFree
  refine wpAny_bind (wpAny_field hz rfl (x := .none) rfl (wpAny_pure ?_))
  simp only [if_true]
  refine wpAny_bind (wpAny_rule (wpAny_bind (wpAny_field hz rfl (x := .ref TO) rfl (wpAny_bind (wpAny_setField_rec hz (by simp) fun u1 hz1 b1 => ?_)))))
  replace hz1 : IsZip u1 z TI TO .ellipsis := hz1
  refine wpAny_bind ?_
  simp only [List.zipIdx_cons, List.zipIdx_nil, List.forIn_cons, List.forIn_nil]
  refine wpAny_bind (wpAny_bind (wpAny_onRaise ?_))
  show wpAny _ _ (Builtin.SmallTypes.nextOf (.ref i1) >>= _) _ _ _
  refine wpAny_bind (nx_item (h1.at fun o e => b1.extBut _ o D.i1z e) (hl1.at fun o e => b1.extBut _ o D.l1z e) hx fun u2 h12 b2 => wpAny_pure ?_)
  have hTO2 : IsPair u2 TO a b := b2.extBut _ _ D.TOi1 (b1.extBut _ _ D.TOz hTO)
  refine wpAny_bind (wpAny_seqItems hTO2 rfl (wpAny_bind (wpAny_updateSeq_pair hTO2 fun u3 hTO3 b3 => ?_)))
  replace hTO3 : IsPair u3 TO x b := hTO3
  refine wpAny_bind (wpAny_letGo (wpAny_pure (wpAny_bind (wpAny_bind (wpAny_onRaise ?_)))))
  show wpAny _ _ (Builtin.SmallTypes.nextOf (.ref i2) >>= _) _ _ _
  refine wpAny_bind (nx_item (h2.at fun o e => b3.extBut _ o D.TOi2.symm (b2.extBut _ o D.i12.symm (b1.extBut _ o D.i2z e))) (hl2.at fun o e => b3.extBut _ o D.l2TO (b2.extBut _ o D.l2i1 (b1.extBut _ o D.l2z e))) hy fun u4 h24 b4 => wpAny_pure ?_)
  have hTO4 : IsPair u4 TO x b := b4.extBut _ _ D.TOi2 hTO3
  refine wpAny_bind (wpAny_seqItems hTO4 rfl (wpAny_bind (wpAny_updateSeq_pair hTO4 fun u5 hTO5 b5 => ?_)))
  replace hTO5 : IsPair u5 TO x y := hTO5
  refine wpAny_bind (wpAny_letGo (wpAny_pure (wpAny_pure ?_)))
  refine wpAny_bind (wpAny_seqItems hTO5 rfl (wpAny_bind (wpAny_newTuple ?_)))
  have hsz : u5.objs.size = s.heap.objs.size := by rw [b5.1, b4.1, b3.1, b2.1, b1.1]
  have hz5 : IsZip u5 z TI TO .ellipsis := b5.extBut _ _ D.TOz.symm (b4.extBut _ _ D.i2z.symm (b3.extBut _ _ D.TOz.symm (b2.extBut _ _ D.i1z.symm hz1)))
  have hk5 : ∀ c o, c ≠ z → c ≠ TO → c ≠ i1 → c ≠ i2 → s.heap.get? c = some o → u5.get? c = some o := fun c o c1 c2 c3 c4 e => b5.extBut _ _ c2 (b4.extBut _ _ c4 (b3.extBut _ _ c2 (b2.extBut _ _ c3 (b1.extBut _ _ c1 e))))
  have h15 : itAt q1 u5 i1 l1 (k1 + 1) := h12.at fun o e => b5.extBut _ o D.TOi1.symm (b4.extBut _ o D.i12 (b3.extBut _ o D.TOi1.symm e))
  have h25 : itAt q2 u5 i2 l2 (k2 + 1) := h24.at fun o e => b5.extBut _ o D.TOi2.symm e
  have hzl : z < u5.objs.size := Heap.lt_size hz5
  show wpAny _ _ (Builtin.SmallTypes.ownedTupleHandOut (.ref z) (.ref u5.objs.size) >>= _) _ _ _
  refine wpAny_bind ?_
  unfold Builtin.SmallTypes.ownedTupleHandOut
  have hz6 : IsZip (u5.push { cls := .type "tuple", data := .seq #[x, y] }) z TI TO .ellipsis := Heap.get?_push_of_some _ hz5
  refine wpAny_bind (wpAny_setField_rec hz6 (by simp) fun u7 hz7 b7 => ?_)
  replace hz7 : IsZip u7 z TI TO (rawInt u5.objs.size) := hz7
  refine wpAny_setField_rec hz7 (by simp) fun u8 hz8 b8 => ?_
  replace hz8 : IsZip u8 z TI TO (rawInt u5.objs.size) := hz8
  have up : ∀ c o, c ≠ z → u5.get? c = some o → u8.get? c = some o := fun c o c1 e => b8.extBut _ _ c1 (b7.extBut _ _ c1 (Heap.get?_push_of_some _ e))
  have hT8 : IsPair u8 u5.objs.size x y := b8.extBut _ _ (Nat.ne_of_gt hzl) (b7.extBut _ _ (Nat.ne_of_gt hzl) (Heap.get?_push_size _ rfl))
  rw [hsz] at hz8 hT8
  refine wpAny_pure ⟨_, rfl, wpAny_pure ?_⟩
  show Q (some (.ref u5.objs.size)) _
  rw [hsz]
  exact hQ u8 hz8 (up _ _ D.TOz hTO5) (h15.at fun o e => up _ o D.i1z e) (h25.at fun o e => up _ o D.i2z e) hT8 fun c o c1 c2 c3 c4 e => up c o c1 (hk5 c o c1 c2 c3 c4 e)
theorem zipQ_end {Q : Option Value → Shared → Prop} (hh : A.handled = none) (D : ZipApart z TI TO i1 i2 l1 l2) (hz : IsZip s.heap z TI TO .none) (hTI : IsPair s.heap TI (.ref i1) (.ref i2)) (hTO : IsPair s.heap TO a b)
    (h1 : itAt q1 s.heap i1 l1 k1) (h2 : itAt q2 s.heap i2 l2 k2) (hl1 : sqAt q1 s.heap l1 xs) (hl2 : sqAt q2 s.heap l2 ys) (hend : xs[k1]? = none ∨ ys[k2]? = none)
    (hQ : ∀ h', (∀ c o, c ≠ z → c ≠ TO → c ≠ i1 → c ≠ i2 → s.heap.get? c = some o → h'.get? c = some o) → Q none { s with heap := h' }) : wpAny (model prog w) A (pyNext (.ref z)) Q E s := by
  have hT : s.TypeIs (.ref z) "zip" := ⟨_, hz, rfl⟩
  have fin : ∀ (h' : Heap) (e : Addr), (∀ c o, c ≠ z → c ≠ TO → c ≠ i1 → c ≠ i2 → s.heap.get? c = some o → h'.get? c = some o) → (∃ o, h'.get? e = some o ∧ o.cls = .type "StopIteration") →
      wpAny (model prog w) A (do let b ← isInstance (.ref e) (.type "StopIteration"); if b = true then pure none else throw (.ref e)) Q E { s with heap := h' } := fun h' e hk ⟨o, ho, hc⟩ =>
    wpAny_bind (wpAny_isInstance (T := "StopIteration") (b := true) ⟨o, ho, hc⟩ isSubtype_stop (wpAny_pure (hQ _ hk)))
  unfold pyNext
  refine wpAny_bind (wpAny_attempt (wpAny_callSpecial?_slot (name := Str.ofString "__next__") hT F.slot_zip_next (wpAny_call_entry F.slot_zip_next hT F.entry_zip_next ?_ (F.args_zip_next_1 _))))
  show wpAny _ _ (field (.ref z) 2 >>= _) _ _ _
  refine wpAny_bind (wpAny_field hz rfl (x := .bool false) rfl ?_)
  show wpAny _ _ (field (.ref z) 3 >>= _) _ _ _
  refine wpAny_bind (wpAny_field hz rfl (x := .ref TI) rfl (wpAny_bind (wpAny_seqItems hTI rfl ?_)))
  show wpAny _ _ (Builtin.SmallTypes.ownedTupleIsFree (.ref z) >>= _) _ _ _
  refine wpAny_bind ?_
  unfold Builtin.SmallTypes.ownedTupleIsFree
  refine wpAny_bind (wpAny_field hz rfl (x := .none) rfl (wpAny_pure ?_))
  simp only [if_true]
  refine wpAny_bind (wpAny_rule (wpAny_bind (wpAny_field hz rfl (x := .ref TO) rfl (wpAny_bind (wpAny_setField_rec hz (by simp) fun u1 hz1 b1 => ?_)))))
  replace hz1 : IsZip u1 z TI TO .ellipsis := hz1
  refine wpAny_bind ?_
  simp only [List.zipIdx_cons, List.zipIdx_nil, List.forIn_cons, List.forIn_nil]
  refine wpAny_bind (wpAny_bind (wpAny_onRaise ?_))
  show wpAny _ _ (Builtin.SmallTypes.nextOf (.ref i1) >>= _) _ _ _
  cases hx : xs[k1]? with
  | none =>
    refine wpAny_bind (nx_end hh (h1.at fun o e => b1.extBut _ o D.i1z e) (hl1.at fun o e => b1.extBut _ o D.l1z e) hx fun u2 e b2 he => ?_)
    obtain ⟨oe, hoe, hce⟩ := he
    have hz2 : IsZip u2 z TI TO .ellipsis := b2 _ _ D.i1z.symm hz1
    have hez : e ≠ z := fun x => by subst x; rw [hz2] at hoe; cases hoe; simp at hce
    exact wpAny_setField_rec hz2 (by simp) fun u3 _ b3 => fin u3 e (fun c o c1 _ c3 _ x => b3.extBut _ _ c1 (b2 _ _ c3 (b1.extBut _ _ c1 x))) ⟨oe, b3.extBut _ _ hez hoe, hce⟩
  | some x =>
    have hy : ys[k2]? = none := by rcases hend with h | h; rw [hx] at h; cases h; exact h
    refine wpAny_bind (nx_item (h1.at fun o e => b1.extBut _ o D.i1z e) (hl1.at fun o e => b1.extBut _ o D.l1z e) hx fun u2 h12 b2 => wpAny_pure ?_)
    have hTO2 : IsPair u2 TO a b := b2.extBut _ _ D.TOi1 (b1.extBut _ _ D.TOz hTO)
    refine wpAny_bind (wpAny_seqItems hTO2 rfl (wpAny_bind (wpAny_updateSeq_pair hTO2 fun u3 hTO3 b3 => ?_)))
    refine wpAny_bind (wpAny_letGo (wpAny_pure (wpAny_bind (wpAny_bind (wpAny_onRaise ?_)))))
    show wpAny _ _ (Builtin.SmallTypes.nextOf (.ref i2) >>= _) _ _ _
    refine wpAny_bind (nx_end hh (h2.at fun o e => b3.extBut _ o D.TOi2.symm (b2.extBut _ o D.i12.symm (b1.extBut _ o D.i2z e))) (hl2.at fun o e => b3.extBut _ o D.l2TO (b2.extBut _ o D.l2i1 (b1.extBut _ o D.l2z e))) hy fun u4 e b4 he => ?_)
    obtain ⟨oe, hoe, hce⟩ := he
    have hz4 : IsZip u4 z TI TO .ellipsis := b4 _ _ D.i2z.symm (b3.extBut _ _ D.TOz.symm (b2.extBut _ _ D.i1z.symm hz1))
    have hez : e ≠ z := fun x => by subst x; rw [hz4] at hoe; cases hoe; simp at hce
    exact wpAny_setField_rec hz4 (by simp) fun u5 _ b5 => fin u5 e (fun c o c1 c2 c3 c4 x => b5.extBut _ _ c1 (b4 _ _ c4 (b3.extBut _ _ c2 (b2.extBut _ _ c3 (b1.extBut _ _ c1 x))))) ⟨oe, b5.extBut _ _ hez hoe, hce⟩
theorem it_start {q : Bool} {l : Addr} {its : Array Value} {Q : Value → Shared → Prop} (hl : sqAt q s.heap l its) (hQ : Q (.ref s.heap.objs.size) { s with heap := s.heap.push { cls := .type (itC q), data := .fields #[.ref l, .int 0 0] } }) :
    wpAny (model prog w) A (pyIter (.ref l)) Q E s := by
  cases q with
  | true => exact wpAny_pyIter_list hl hQ
  | false => exact wpAny_pyIter_tuple hl hQ
theorem it_at {q : Bool} {h : Heap} {it l : Addr} (e : h.get? it = some { cls := .type (itC q), data := .fields #[.ref l, .int 0 0] }) : itAt q h it l 0 := by
  cases q <;> exact ⟨_, e, rfl, rfl⟩
end
def zq1 (q1 : Bool) (h : Heap) (l1 : Addr) : Heap := h.push { cls := .type (itC q1), data := .fields #[.ref l1, .int 0 0] }
def zq2 (q1 q2 : Bool) (h : Heap) (l1 l2 : Addr) : Heap := (zq1 q1 h l1).push { cls := .type (itC q2), data := .fields #[.ref l2, .int 0 0] }
def zq3 (q1 q2 : Bool) (h : Heap) (l1 l2 : Addr) : Heap := (zq2 q1 q2 h l1 l2).push { cls := .type "tuple", data := .seq #[.ref h.objs.size, .ref (zq1 q1 h l1).objs.size] }
def zq4 (q1 q2 : Bool) (h : Heap) (l1 l2 : Addr) : Heap := (zq3 q1 q2 h l1 l2).push { cls := .type "tuple", data := .seq #[.none, .none] }
def zq5 (q1 q2 : Bool) (h : Heap) (l1 l2 : Addr) : Heap := (zq4 q1 q2 h l1 l2).push { cls := .type "zip", data := .fields #[.none, .bool false, .bool false, .ref (zq2 q1 q2 h l1 l2).objs.size, .ref (zq3 q1 q2 h l1 l2).objs.size] }
theorem meets_zipQ (q1 q2 : Bool) (l1 l2 : Addr) (xs ys : Array Value) :
    Meets (Builtin.«zip.__new__» ⟨[.type "zip", .ref l1, .ref l2], []⟩) (fun _ R s => sqAt q1 s.heap l1 xs ∧ sqAt q2 s.heap l2 ys ∧ R (.ok (.ret (.ref (zq4 q1 q2 s.heap l1 l2).objs.size))) { s with heap := zq5 q1 q2 s.heap l1 l2 }) :=
  .of_wp fun prog w A R s h => by
    obtain ⟨hp, g, d, tk, os⟩ := s; obtain ⟨hl1, hl2, h⟩ := h
    have hsub := sub_zip
    have hL1 : sqAt q1 (Shared.heap ⟨hp, g, d, tk, os⟩) l1 xs := hl1
    have hL2 : sqAt q2 (Shared.heap ⟨hp.push { cls := .type (itC q1), data := .fields #[.ref l1, .int 0 0] }, g, d, tk, os⟩) l2 ys := sqAt.at hl2 fun o e => Heap.get?_push_of_some _ e
    wp_walk using it_start hL1, it_start hL2
    exact ⟨_, rfl, h⟩
section
variable {prog : Program} {w : World} {A : Around} {E : Value → Shared → Prop} {s : Shared} {q1 q2 : Bool}
theorem call_zipQ {l1 l2 : Addr} {xs ys : Array Value} {Q : Value → Shared → Prop} (hl1 : sqAt q1 s.heap l1 xs) (hl2 : sqAt q2 s.heap l2 ys)
    (h : ∀ h', IsZip h' (s.heap.objs.size + 4) (s.heap.objs.size + 2) (s.heap.objs.size + 3) .none → IsPair h' (s.heap.objs.size + 2) (.ref s.heap.objs.size) (.ref (s.heap.objs.size + 1)) →
      IsPair h' (s.heap.objs.size + 3) .none .none → itAt q1 h' s.heap.objs.size l1 0 → itAt q2 h' (s.heap.objs.size + 1) l2 0 → (∀ c o, s.heap.get? c = some o → h'.get? c = some o) → Q (.ref (s.heap.objs.size + 4)) { s with heap := h' }) :
    wpAny (model prog w) A (call (.type "zip") [.ref l1, .ref l2]) Q E s := by
  refine callType_new F.called_zip (by decide) (F.typeCall_zip_2 _ _) (F.newCall_zip_2 _ _) (fun obj => F.args_object_init_3 obj _ _) F.entry_zip_new (meets_zipQ q1 q2 l1 l2 xs ys) ⟨hl1, hl2, ?_⟩
  have z1 : (zq1 q1 s.heap l1).objs.size = s.heap.objs.size + 1 := Heap.size_push ..
  have z2 : (zq2 q1 q2 s.heap l1 l2).objs.size = s.heap.objs.size + 2 := by unfold zq2; rw [Heap.size_push, z1]
  have z3 : (zq3 q1 q2 s.heap l1 l2).objs.size = s.heap.objs.size + 3 := by unfold zq3; rw [Heap.size_push, z2]
  have z4 : (zq4 q1 q2 s.heap l1 l2).objs.size = s.heap.objs.size + 4 := by unfold zq4; rw [Heap.size_push, z3]
  have g5 : (zq5 q1 q2 s.heap l1 l2).get? (zq4 q1 q2 s.heap l1 l2).objs.size = some _ := Heap.get?_push_size _ rfl
  have g4 : (zq5 q1 q2 s.heap l1 l2).get? (zq3 q1 q2 s.heap l1 l2).objs.size = some _ := Heap.get?_push_of_some _ (Heap.get?_push_size _ rfl)
  have g3 : (zq5 q1 q2 s.heap l1 l2).get? (zq2 q1 q2 s.heap l1 l2).objs.size = some _ := Heap.get?_push_of_some _ (Heap.get?_push_of_some _ (Heap.get?_push_size _ rfl))
  have g2 : (zq5 q1 q2 s.heap l1 l2).get? (zq1 q1 s.heap l1).objs.size = some _ := Heap.get?_push_of_some _ (Heap.get?_push_of_some _ (Heap.get?_push_of_some _ (Heap.get?_push_size _ rfl)))
  have g1 : (zq5 q1 q2 s.heap l1 l2).get? s.heap.objs.size = some _ := Heap.get?_push_of_some _ (Heap.get?_push_of_some _ (Heap.get?_push_of_some _ (Heap.get?_push_of_some _ (Heap.get?_push_size _ rfl))))
  show _ ∧ _
  rw [z2, z3, z4] at g5
  rw [z1, z2] at g3
  rw [z3] at g4
  rw [z1] at g2
  rw [z4]
  exact ⟨⟨_, g5, rfl⟩, h _ g5 g3 g4 (it_at g1) (it_at g2) fun c o x => Heap.get?_push_of_some _ (Heap.get?_push_of_some _ (Heap.get?_push_of_some _ (Heap.get?_push_of_some _ (Heap.get?_push_of_some _ x))))⟩
end
def sqV (q : Bool) (K : PySem.W.Frag) (H : Hp) (a : Addr) (xs : List V) : Prop := match q with | true => SqL K H a xs | false => SqT K H a xs
theorem sqV.heap {X : Cx} {pins : List (Addr × Obj)} {σ : St} {H : Hp} {s : Shared} {q : Bool} {a : Addr} {xs : List V} (I : Inv X pins σ H s) (h : sqV q X.K H a xs) : ∃ its : List Value, Vals xs its ∧ sqAt q s.heap a its.toArray := by
  cases q with
  | true => obtain ⟨its, r, p, _⟩ := I.list h; exact ⟨its, r, p.isList⟩
  | false => obtain ⟨its, r, p, _⟩ := I.tuple h; exact ⟨its, r, p⟩
theorem sqAt.lt {q : Bool} {h : Heap} {a : Addr} {its : Array Value} (x : sqAt q h a its) : a < h.objs.size := by
  cases q <;> (obtain ⟨o, ho, r⟩ := x; exact Heap.lt_size ho)
theorem itAt.lt {q : Bool} {h : Heap} {it a : Addr} {i : Nat} (x : itAt q h it a i) : it < h.objs.size := by
  obtain ⟨o, ho, _⟩ := x.obj; exact Heap.lt_size ho
def Itz (q1 q2 : Bool) (K : PySem.W.Frag) (l1 l2 : Addr) (xs ys : List V) : It :=
  ⟨fun i H => i < xs.length ∧ i < ys.length ∧ sqV q1 K H l1 xs ∧ sqV q2 K H l2 ys,
   fun i H x H' => ∃ T u v, H T = none ∧ x = .ref T ∧ H' = upd H T (.tup [u, v]) ∧ xs[i]? = some u ∧ ys[i]? = some v,
   fun i H => (xs.length ≤ i ∨ ys.length ≤ i) ∧ sqV q1 K H l1 xs ∧ sqV q2 K H l2 ys⟩
theorem turn_zip {P : Program} {w : World} {K : PySem.W.Frag} {elts : List Expr} {kx} {pos : Pos} {q1 q2 : Bool} {z TI TO i1 i2 l1 l2 : Addr} (xs ys : List V) (D : ZipApart z TI TO i1 i2 l1 l2) :
    Turn P w K (.Tuple elts kx pos) (Itz q1 q2 K l1 l2 xs ys) [z, TI, TO, i1, i2] z (fun i h => IsZip h z TI TO .none ∧ IsPair h TI (.ref i1) (.ref i2) ∧ (∃ a b, IsPair h TO a b) ∧ itAt q1 h i1 l1 i ∧ itAt q2 h i2 l2 i) where
  mem := by simp
  obj := fun i h st b hb => by
    obtain ⟨hz, hTI, ⟨a, b', hTO⟩, h1, h2⟩ := st
    simp at hb
    rcases hb with e | e | e | e | e
    · subst e; exact ⟨_, hz, fun v z => by cases z⟩
    · subst e; exact ⟨_, hTI, fun v z => by cases z⟩
    · subst e; exact ⟨_, hTO, fun v z => by cases z⟩
    · subst e; exact h1.obj
    · subst e; exact h2.obj
  keep := fun i h h' st k => by
    obtain ⟨hz, hTI, ⟨a, b', hTO⟩, h1, h2⟩ := st
    exact ⟨k z (by simp) _ hz, k TI (by simp) _ hTI, ⟨a, b', k TO (by simp) _ hTO⟩, h1.at fun o e => k i1 (by simp) o e, h2.at fun o e => k i2 (by simp) o e⟩
  item := by
    intro X hP hw hK hc i pins s σ H E I hf st hg
    subst hP hw hK
    obtain ⟨g1, g2, s1, s2⟩ := hg
    obtain ⟨hz, hTI, ⟨a, b', hTO⟩, h1, h2⟩ := st
    obtain ⟨us, r1, p1⟩ := s1.heap I
    obtain ⟨vs, r2, p2⟩ := s2.heap I
    obtain ⟨u, hu, ru⟩ := r1.get (List.getElem?_eq_getElem g1)
    obtain ⟨v, hv, rv⟩ := r2.get (List.getElem?_eq_getElem g2)
    refine zipQ_item (x := u) (y := v) D hz hTI hTO h1 h2 p1 p2 (by simpa using hu) (by simpa using hv) fun h' a1 a2 a3 a4 a5 hk => ?_
    refine ⟨_, rfl, wpAny_letOwnedTupleGo_zip a1 fun h'' b1 sb => ?_⟩
    have nT : ∀ {c o}, s.heap.get? c = some o → c ≠ s.heap.objs.size := fun e => Nat.ne_of_lt (Heap.lt_size e)
    have hT : IsPair h'' s.heap.objs.size u v := sb.extBut _ _ (nT hz).symm a5
    have kk : ∀ c o, c ∉ [z, TI, TO, i1, i2] → s.heap.get? c = some o → h''.get? c = some o := fun c o hc e => by
      simp at hc
      exact sb.extBut _ _ hc.1 (hk c o hc.1 hc.2.2.1 hc.2.2.2.1 hc.2.2.2.2 e)
    refine ⟨.ref s.heap.objs.size, upd H s.heap.objs.size (.tup [xs[i], ys[i]]), I.turnNew hf kk (Nat.le_refl _) ⟨by show 2 ≤ sizeLine; decide, [u, v], .cons ru (.cons rv .nil), _, hT, rfl, _, rfl⟩, rfl, ⟨_, _, _, I.fresh, rfl, rfl, List.getElem?_eq_getElem g1, List.getElem?_eq_getElem g2⟩, ?_, fun b hb => ?_⟩
    · exact ⟨b1, sb.extBut _ _ D.TIz (hk _ _ D.TIz D.TITO D.TIi1 D.TIi2 hTI), ⟨_, _, sb.extBut _ _ D.TOz a2⟩, a3.at fun o e => sb.extBut _ o D.i1z e, a4.at fun o e => sb.extBut _ o D.i2z e⟩
    · rw [upd_ne ?_]
      · exact (hf b hb).1
      · simp at hb
        rcases hb with e | e | e | e | e
        · subst e; exact nT hz
        · subst e; exact nT hTI
        · subst e; exact nT hTO
        · subst e; exact Nat.ne_of_lt h1.lt
        · subst e; exact Nat.ne_of_lt h2.lt
  done := by
    intro X hP hw hK hc i pins s σ H E I hf st hg
    subst hP hw hK
    obtain ⟨g1, s1, s2⟩ := hg
    obtain ⟨hz, hTI, ⟨a, b', hTO⟩, h1, h2⟩ := st
    obtain ⟨us, r1, p1⟩ := s1.heap I
    obtain ⟨vs, r2, p2⟩ := s2.heap I
    have e1 := r1.length
    have e2 := r2.length
    refine zipQ_end (I.ok.hd hc) D hz hTI hTO h1 h2 p1 p2 ?_ fun h' hk => ⟨rfl, I.turnedL (t' := s.toks) hf fun c o hc e => ?_⟩
    · rcases g1 with g | g
      · exact .inl (by simp; omega)
      · exact .inr (by simp; omega)
    · simp at hc
      exact hk c o hc.1 hc.2.2.1 hc.2.2.2.1 hc.2.2.2.2 e
  self := fun _ _ _ _ _ st h => wpAny_pyIter_zip st.1 h
section
variable {X : Cx}
def iZip (q1 q2 : Bool) (K : PySem.W.Frag) (ta : TA) : TI := fun σ H R => ta σ H fun vs H1 => ∃ l1 l2 xs ys, vs = [.ref l1, .ref l2] ∧ sqV q1 K H1 l1 xs ∧ sqV q2 K H1 l2 ys ∧ R (Itz q1 q2 K l1 l2 xs ys) H1
theorem pi_zip (q1 q2 : Bool) {elts : List Expr} {kx} {tpos : Pos} {a b : Expr} {ta : TA} {p pos : Pos} (hg : Gl X "zip") (hm : X.mg "zip" = none) (ha : PA X [a, b] ta) (hs : starEach [a, b] X.env = [(false, eval a X.env), (false, eval b X.env)] := by rfl) (hs2 : starEach [b] X.env = [(false, eval b X.env)] := by rfl) :
    PI X (.Tuple elts kx tpos) (.Call (.Name "zip" p) [a, b] [] pos) (iZip q1 q2 X.K ta) := by
  intro pins s σ H R I h
  refine Call_ (ld_blt I hg hm bt_zip (PyProof.Rows.callWith_type1 (thn (ha pos pins s σ H _ I h) fun us s1 ⟨vs, H1, I1, r1, q1⟩ => ?_) (by rw [hs, hs2]) (by rw [hs2]; rfl)))
  obtain ⟨l1, l2, xs, ys, rfl, s1', s2', q⟩ := q1
  obtain ⟨u1, u2, rfl, ru1, ru2⟩ := vals2 r1
  cases ru1
  cases ru2
  obtain ⟨us1, r1, p1⟩ := s1'.heap I1
  obtain ⟨vs1, r2, p2⟩ := s2'.heap I1
  have n1 := p1.lt
  have n2 := p2.lt
  refine call_zipQ p1 p2 fun h' hz hTI hTO h1 h2 kk => ?_
  refine wpAny_pyIter_zip hz ?_
  refine ⟨s1.heap.objs.size + 4, [s1.heap.objs.size + 4, s1.heap.objs.size + 2, s1.heap.objs.size + 3, s1.heap.objs.size, s1.heap.objs.size + 1], _, _, H1, rfl, I1.kept (t' := s1.toks) kk, turn_zip xs ys ⟨?_, ?_, ?_, ?_, ?_, ?_, ?_, ?_, ?_, ?_, ?_, ?_, ?_, ?_, ?_, ?_, ?_, ?_⟩, ⟨hz, hTI, ⟨_, _, hTO⟩, h1, h2⟩, ?_, q⟩
  all_goals first | exact Nat.ne_of_lt (Nat.add_lt_add_left (by decide) _) | exact Nat.ne_of_gt (Nat.add_lt_add_left (by decide) _) | exact Nat.ne_of_lt (Nat.lt_add_of_pos_right (by decide)) | exact Nat.ne_of_gt (Nat.lt_add_of_pos_right (by decide)) | exact Nat.ne_of_lt (Nat.lt_of_lt_of_le n1 (Nat.le_add_right _ _)) | exact Nat.ne_of_lt (Nat.lt_of_lt_of_le n2 (Nat.le_add_right _ _)) | exact Nat.ne_of_lt n1 | exact Nat.ne_of_lt n2 | skip
  intro c hb
  have hb' : s1.heap.objs.size ≤ c := by
    simp at hb
    rcases hb with e | e | e | e | e <;> (rw [e]; first | exact Nat.le_refl _ | exact Nat.le_add_right _ _)
  exact I1.fpOk hb' (I1.hok.fresh hb')
end
theorem lc_zip {own : Nat} {ix : List Nat} {σ : St} {q1 q2 : Bool} {K : PySem.W.Frag} {l1 l2 : Addr} {xs ys : List V} {g : TG} {tt : TT} {te : TE} {H1 : Hp} {Q : VK} {D : Addr} (n : Nat) (Pv : Nat → List V → Hp → Prop) (hn : n ≤ sizeLine) (hx : n ≤ xs.length) (hy : n ≤ ys.length) (he : xs.length ≤ n ∨ ys.length ≤ n)
    (h0 : Pv 0 [] (upd H1 D (.lst []))) (hD : ∀ i zs H, i ≤ n → Pv i zs H → H D = some (.lst zs) ∧ zs.length ≤ i ∧ sqV q1 K H l1 xs ∧ sqV q2 K H l2 ys)
    (hs : ∀ i u v zs H2 T, xs[i]? = some u → ys[i]? = some v → i < n → Pv i zs H2 → H2 T = none → g (.ref T) (blkSt own ix σ) (upd H2 T (.tup [u, v])) fun σ2 H4 => σ2.drop own = (ix.map fun i => (σ[i]?).getD none) ∧ tt σ2 H4 fun b H5 => if b = true then te σ2 H5 fun v H6 => H6 D = some (.lst zs) ∧ Pv (i + 1) (zs ++ [v]) (upd H6 D (.lst (zs ++ [v]))) else Pv (i + 1) zs H5)
    (hd : ∀ zs H2, Pv n zs H2 → Q (.ref D) H2) :
    LcW (Itz q1 q2 K l1 l2 xs ys) own ix σ g tt te D H1 Q := by
  refine ⟨fun i m zs H => m = n - i ∧ i ≤ n ∧ Pv i zs H, ⟨n, by simp, Nat.zero_le _, h0⟩, ?_⟩
  rintro i m zs H2 ⟨rfl, hi, p⟩
  obtain ⟨p1, p2, p3, p4⟩ := hD i zs H2 hi p
  refine ⟨p1, ?_⟩
  by_cases hlt : i < n
  · refine .inr ⟨⟨by omega, by omega, p3, p4⟩, by omega, Pv (i + 1), fun ys' H' p' => ⟨n - (i + 1), by omega, rfl, hlt, p'⟩, fun x H3 y => ?_⟩
    obtain ⟨T, u, v, t1, e1, e2, t2, t3⟩ := y
    subst e1 e2
    exact hs i u v zs _ T t2 t3 hlt p t1
  · have e : i = n := by omega
    subst e
    exact .inl ⟨⟨he, p3, p4⟩, hd zs H2 p⟩
theorem for_zip {q1 q2 : Bool} {K : PySem.W.Frag} {l1 l2 : Addr} {xs ys : List V} {g : TG} {tb : TS} {D : Ends} {σ : St} {H : Hp} (n : Nat) (Pv : Nat → St → Hp → Prop) (hx : n ≤ xs.length) (hy : n ≤ ys.length) (he : xs.length ≤ n ∨ ys.length ≤ n)
    (h0 : Pv 0 σ H) (hl : ∀ i σ H, i ≤ n → Pv i σ H → sqV q1 K H l1 xs ∧ sqV q2 K H l2 ys)
    (hs : ∀ i u v σ H T, xs[i]? = some u → ys[i]? = some v → i < n → Pv i σ H → H T = none → g (.ref T) σ (upd H T (.tup [u, v])) fun σ2 H2 => tb { D with nx := Pv (i + 1), ct := Pv (i + 1), bk := D.nx } σ2 H2) (hd : ∀ σ H, Pv n σ H → D.nx σ H) :
    ∃ W : Nat → Nat → St → Hp → Prop, (∃ m, W 0 m σ H) ∧ ∀ i m σ H, W i m σ H →
      ((Itz q1 q2 K l1 l2 xs ys).stop i H ∧ D.nx σ H) ∨ ((Itz q1 q2 K l1 l2 xs ys).go i H ∧ ∃ N : St → Hp → Prop, (∀ σ' H', N σ' H' → ∃ m', m' < m ∧ W (i + 1) m' σ' H') ∧ ∀ x H', (Itz q1 q2 K l1 l2 xs ys).yld i H x H' → g x σ H' fun σ2 H2 => tb { D with nx := N, ct := N, bk := D.nx } σ2 H2) := by
  refine ⟨fun i m σ H => m = n - i ∧ i ≤ n ∧ Pv i σ H, ⟨n, by simp, Nat.zero_le _, h0⟩, ?_⟩
  rintro i m σ H ⟨rfl, hi, p⟩
  obtain ⟨p3, p4⟩ := hl i σ H hi p
  by_cases hlt : i < n
  · refine .inr ⟨⟨by omega, by omega, p3, p4⟩, Pv (i + 1), fun σ' H' p' => ⟨n - (i + 1), by omega, rfl, hlt, p'⟩, fun x H' y => ?_⟩
    obtain ⟨T, u, v, t1, e1, e2, t2, t3⟩ := y
    subst e1 e2
    exact hs i u v σ _ T t2 t3 hlt p t1
  · have e : i = n := by omega
    subst e
    exact .inl ⟨⟨he, p3, p4⟩, hd σ H p⟩
end L2
namespace L2
open PySem PySem.Spec PyProof.Rows
theorem same_fresh {H : Hp} {p : Addr} (h : H p = none) (o : HO) : Same H (upd H p o) := fun b u q => by rw [upd_ne (ne_of_none q h)]; exact q
section
variable {prog : Program} {w : World} {A : Around} {E : Value → Shared → Prop} {s : Shared}
theorem cut_whole {t sl : Addr} {items : Array Value} {vl vu : Value} {lo hi : Option Int} {Q : Value → Shared → Prop} (ht : IsTup s.heap t items) (hs : s.heap.IsSliceOf sl vl vu .none) (pl : IsPart vl lo) (pu : IsPart vu hi)
    (hw : HT.sIx items.size 0 lo = 0 ∧ HT.sIx items.size items.size hi = items.size) (h : Q (.ref t) s) : wpAny (model prog w) A (getItem (.ref t) (.ref sl)) Q E s := by
  obtain ⟨os, hos, hcs, hds⟩ := id hs
  have hTs : s.TypeIs (.ref sl) "slice" := ⟨os, hos, hcs⟩
  unfold getItem
  try with_reducible refine wpAny_holding ?_
  first | refine wpAny_bind (wpAny_pure ?_) | skip
  refine wpAny_bind (wpAny_sequenceKey ht.typeIs (by decide) ?_)
  refine wpAny_bind (wpAny_callSpecial?_slot (name := Str.ofString "__getitem__") ht.typeIs PyProof.Rows.slot_tuple_getitem (wpAny_call_entry PyProof.Rows.slot_tuple_getitem ht.typeIs entry_tuple_getitem ?_ (args_tuple_getitem _ _)))
  show wpAny _ _ (Builtin.Tuple.tupleItemsOf (.ref t) >>= _) _ _ s
  refine wpAny_bind (tupleItemsOf_ ht (wpAny_bind (wpAny_typeOf hTs ?_)))
  rw [if_pos (by decide)]
  refine wpAny_bind (HT.sliceApplied_gen hs pl pu ?_)
  show wpAny _ _ (if (((HT.sIx items.size 0 lo : Nat) : Int) == 0 && (1 : Int) == 1 && (HT.sIx items.size items.size hi - HT.sIx items.size 0 lo) == items.size) = true then _ else _) _ _ s
  rw [if_pos (by rw [hw.1, hw.2]; simp)]
  unfold Builtin.Tuple.tupleIsExact
  refine wpAny_bind (wpAny_bind (wpAny_typeOf ht.typeIs (wpAny_pure ?_)))
  rw [if_pos (by decide)]
  exact wpAny_bind (wpAny_rule (wpAny_pure ⟨_, rfl, wpAny_pure h⟩))
end
section
variable {X : Cx}
def rSlG (K : PySem.W.Frag) : V → Option Int → Option Int → Hp → VK → Prop := fun x lo hi H Q => ∃ a xs, x = .ref a ∧ SqT K H a xs ∧ ∀ p H', Same H H' → SqT K H' p (cutV xs lo hi) → Q (.ref p) H'
theorem sl_tupG : SlR X (rSlG X.K) := by
  intro pins s σ H x v vl vu lo hi sl Q I rx hs pl pu h
  obtain ⟨a, xs, rfl, hx, q⟩ := h
  by_cases hw : HT.sIx xs.length 0 lo = 0 ∧ HT.sIx xs.length xs.length hi = xs.length
  · cases rx
    obtain ⟨its, r, ht, hz⟩ := I.tuple hx
    have hlen : its.toArray.size = xs.length := by rw [List.size_toArray]; exact r.length.symm
    refine ⟨"tuple", _, PyProof.Rows.slot_tuple_getitem.lookup, ht.typeIs, cut_whole ht hs pl pu (by rw [hlen]; exact hw) ⟨.ref a, H, I, rfl, q a H (Same.refl _) ?_⟩⟩
    have e : cutV xs lo hi = xs := by unfold cutV; rw [hw.1, hw.2]; simp
    rw [e]; exact hx
  · exact sl_tup pins s σ H _ v vl vu lo hi sl Q I rx hs pl pu ⟨a, xs, rfl, hx, hw, fun p hp => q p _ (same_fresh hp _) (SqT.of upd_same)⟩
end
end L2
namespace L2
open PySem PySem.Spec PyProof.Rows
structure Fly (P : Program) (w : World) (fs : List Env) (H H' : Hp) (h0 B : Heap) (a : Addr) (cls a0 : Value) (h : Heap) : Prop where
  keep : ∀ b o, h0.get? b = some o → H b = none → b ∉ frs fs → B.get? b = some o
  there : ∀ b o, h0.get? b = some o → b ∉ frs fs → ∃ o', B.get? b = some o'
  slot : ∀ b o, h0.get? b = some o → b ∈ frs fs → ∃ sl, h.get? b = some { o with slots := sl }
  free : ∀ b o, h0.get? b = some o → H b = none → H' b = none
  tups : ∀ b xs, H b = some (.tup xs) → H' b = some (.tup xs)
  frzs : ∀ b o u, H b = some (.frz o u) → H' b = some (.frz o u)
  tbls : ∀ b ps, H b = some (.tbl ps) → ∃ more, H' b = some (.tbl (ps ++ more))
  hok : HOk P w H' B
  fly : Heap.FlyingW B fs a cls a0 h
section
variable {P : Program} {w : World} {fs : List Env} {H H' : Hp} {h0 B h h' : Heap} {a : Addr} {cls a0 : Value}
theorem Fly.un (F : Fly P w fs H H' h0 B a cls a0 h) : Un (frs fs) [] H H' h0 h where
  keep := fun b o e n hb _ => F.fly.1 b o (F.keep b o e n hb)
  slot := fun b o e _ hb _ => F.slot b o e hb
  free := fun b o e n _ => F.free b o e n
  there := fun b o e _ => by
    by_cases hb : b ∈ frs fs
    · obtain ⟨sl, q⟩ := F.slot b o e hb
      exact ⟨_, q⟩
    · obtain ⟨o', q⟩ := F.there b o e hb
      exact ⟨o', F.fly.1 b o' q⟩
  tups := F.tups
  frzs := F.frzs
  tbls := F.tbls
theorem Fly.hokh (F : Fly P w fs H H' h0 B a cls a0 h) : HOk P w H' h := F.hok.kept F.fly.1
theorem Fly.new (F : Fly P w fs H H' h0 B a cls a0 h) : H' a = none := by
  cases q : H' a with
  | none => rfl
  | some u =>
    have := (F.hok a u q).lt
    have z := F.fly.2.1
    exact absurd z (by
      intro z
      have e : ∃ o, B.get? a = some o := by
        have ok := F.hok a u q
        cases u with
        | lst xs => obtain ⟨_, _, _, _, e⟩ := ok; exact ⟨_, e⟩
        | tup xs => obtain ⟨_, _, _, o, e, _⟩ := ok; exact ⟨_, e⟩
        | dK kvs => obtain ⟨_, _, _, _, o, _, _, e, _⟩ := ok; exact ⟨_, e⟩
        | dT kvs => obtain ⟨_, _, _, _, o, _, _, e, _⟩ := ok; exact ⟨_, e⟩
        | set S n => obtain ⟨o, _, _, _, e, _⟩ := ok; exact ⟨_, e⟩
        | ins C dx fs => obtain ⟨_, _, _, e, _⟩ := ok; exact ⟨_, e⟩
        | own y => exact ok
        | xd fs => obtain ⟨_, ⟨o, _, _, e, _⟩, _⟩ := ok; exact ⟨_, e⟩
        | rng lo hi => obtain ⟨_, _, _, e⟩ := ok; exact ⟨_, e⟩
        | frz ob u => obtain ⟨e, _⟩ := ok; exact ⟨_, e⟩
        | tbl ps => exact ⟨_, ok⟩
        | met f y => exact ⟨_, ok⟩
        | ext φ => obtain ⟨_, e, _⟩ := ok; exact e
      obtain ⟨o, e⟩ := e
      rw [z] at e
      cases e)
theorem Fly.on (F : Fly P w fs H H' h0 B a cls a0 h) (fl : Heap.FlyingW B fs a cls a0 h') (u : h.UpToSlots h') : Fly P w fs H H' h0 B a cls a0 h' :=
  ⟨F.keep, F.there, fun b o e hb => by
    obtain ⟨sl, q⟩ := F.slot b o e hb
    obtain ⟨_, o', ho', hn⟩ := F.fly.2.2.1.mem hb
    rw [q] at ho'
    have e1 := Option.some.inj ho'
    obtain ⟨sl', q'⟩ := u b _ q (by rw [e1]; exact hn)
    exact ⟨sl', q'⟩, F.free, F.tups, F.frzs, F.tbls, F.hok, fl⟩
end
section
variable {P : Program} {w : World} {K : PySem.W.Frag} {mg : Str → Option Value} {base : Heap} {N : List Str} {qual : Str} {scope : Scope} {f : Addr} {cd : Value} {A : Around} {outer : List Env} {s₀ : Shared} {H₀ : Hp} {E : XK}
theorem mem_frs_cons {env : Env} {l : List Env} {L b : Addr} (hf : env.frame = some L) : b ∈ frs (env :: l) ↔ b = L ∨ b ∈ frs l := by
  unfold frs
  rw [List.filterMap_cons, hf]
  exact List.mem_cons
end
def bmVE : List Value := [.type "ValueError", .type "Exception", .type "BaseException", .type "object"]
section
variable {X : Cx} {x : Str} {C : Addr} {E : XK} {np cpos pos : Pos}
end
end L2
namespace L2
open PySem PySem.Spec PyProof.Rows
def ExcAt (C a : Addr) : Heap → Prop := fun h => ∃ o vs, h.get? a = some o ∧ o.cls = .ref C ∧ o.data = .fields vs
theorem excMatches_K {K : PySem.W.Frag} {M : Model} {A : Around} {E : Value → Shared → Prop} {h : Heap} {g : Array GenState} {d : Drawn} {t : Nat} {os : OsState} {a C CW : Addr} {oe : Obj} {Q : Bool → Shared → Prop} (X : K.In h) (he : h.get? a = some oe) (hcls : oe.cls = .ref C)
    (q : PySem.W.ktsIn K CW "BaseException" = true) (m : PySem.W.mroIn K C (.ref CW) = some true) (hq : Q true ⟨h, g, d, t, os⟩) : wpAny M A (excMatches (.ref a) (.ref CW)) Q E ⟨h, g, d, t, os⟩ := by
  obtain ⟨nm, qn, N, bs, bm, hdct, sn, sub, ab, col, dd, k0, k1, k2, k3, k5, newId, hC, hbase, _⟩ := PySem.W.kts_cls X q
  have hcB : (Value.ref CW :: bm).contains (.type "BaseException") = true := by rw [List.contains_cons, hbase, Bool.or_true]
  have f := tc_notTuple
  have L := PySem.W.looks_mroIn (M := M) X m
  unfold excMatches
  repeat (first | (with_reducible refine wpAny_loadPart_at he ?_; rw [hcls]) | with_reducible refine wpAny_loadPart_at hC ?_ | (with_reducible refine wpAny_isSubtype_exc hC ?_; rw [hcB]) | with_reducible refine L.at ?_ | wp_step)
  exact hq
abbrev Cx.hand (X : Cx) (a : Addr) (E : Value → Shared → Prop) : Cx := { X with A := X.A.mark (some (.ref a)), calm := false, xe := E }
section
variable {X : Cx} {pins : List (Addr × Obj)} {σ : St} {H : Hp} {s : Shared}
theorem Inv.hand (I : Inv X pins σ H s) (a : Addr) (E : Value → Shared → Prop) : Inv (X.hand a E) pins σ H s :=
  ⟨⟨I.ok.mod, I.ok.kind, I.ok.glob, I.ok.blt, I.ok.above, I.ok.inj, I.ok.has, I.ok.cab, (fun z => nomatch (show false = true from z)), I.ok.frames, I.ok.stk, I.ok.exf, I.ok.bs, I.ok.bsz, I.ok.noex, I.ok.exfs, I.ok.funs, I.ok.frf⟩, I.os, I.bare, I.base, I.loc, I.cell, I.free, I.freeC, I.pin, I.hok, I.len⟩
theorem Inv.unhand {a : Addr} {E : Value → Shared → Prop} (ok : X.Ok) (I : Inv (X.hand a E) pins σ H s) : Inv X pins σ H s := ⟨ok, I.os, I.bare, I.base, I.loc, I.cell, I.free, I.freeC, I.pin, I.hok, I.len⟩
theorem Inv.adopt {a : Addr} {φ : Heap → Prop} (I : Inv X pins σ H s) (hn : H a = none) (h1 : X.s₀.heap.get? a = none) (hL : a ≠ X.env.locals) (hfs : a ∉ X.fs) (hc : ∀ x c, X.env.cells.lookup x = some c → c ≠ a) (hp : ∀ p ∈ X.pn ++ pins, p.1 ≠ a)
    (ok : φ s.heap ∧ (∃ o, s.heap.get? a = some o) ∧ ∀ u v : Heap, φ u → (∀ o, u.get? a = some o → v.get? a = some o) → φ v) : Inv X pins σ (upd H a (.ext φ)) s := by
  refine ⟨I.ok, I.os, I.bare, ⟨I.base.keep, I.base.slot, fun b o e n hx => ?_, I.base.there, fun b xs e => ?_, fun b o u e => ?_, fun b ps e => ?_⟩, I.loc, I.cell, ?_, fun x c e => ?_, fun p hq => ?_, fun b u e => ?_, I.len⟩
  · rw [upd_ne (fun z => by rw [z, h1] at e; cases e)]
    exact I.base.free b o e n hx
  · have e' := I.base.tups b xs e
    rw [upd_ne (ne_of_none e' hn)]
    exact e'
  · have e' := I.base.frzs b o u e
    rw [upd_ne (ne_of_none e' hn)]
    exact e'
  · obtain ⟨m, e'⟩ := I.base.tbls b ps e
    exact ⟨m, by rw [upd_ne (ne_of_none e' hn)]; exact e'⟩
  · rw [upd_ne (Ne.symm hL)]
    exact I.free
  · rw [upd_ne (hc x c e)]
    exact I.freeC x c e
  · obtain ⟨q1, q2, q3⟩ := I.pin p hq
    exact ⟨q1, by rw [upd_ne (hp p hq)]; exact q2, q3⟩
  · by_cases hb : b = a
    · subst hb; rw [upd_same] at e; cases e; exact ok
    · rw [upd_ne hb] at e
      exact (I.hok b u e).stay (fun _ _ _ q => q) (fun c q => by rw [upd_ne (ne_of_none q hn)]; exact q) fun c xs q => by rw [upd_ne (ne_of_none q hn)]; exact q
theorem go_ok {M : Model} {A : Around} {E : Value → Shared → Prop} {i : Nat} {n : Str} {pos : Pos} {Q : Unit → Shared → Prop} (I : Inv X pins σ H s) (hN : X.N.Nodup) (hi : X.N[i]? = some n) (hk : X.env.kindOf n = some .local)
    (h : ∀ s', Inv X pins (σ.set i none) H s' → Q () s') : wpAny M A (do bindName X.env n .none; unbindBehindTheSuite X.env n pos) Q E s := by
  obtain ⟨m, hn, hl⟩ := id I.loc
  have hcls : (X.env.scope.kind == .class || (X.env.scope.kind == .module && X.env.locals != X.env.globals)) = false := by rw [I.ok.kind]; rfl
  have hiσ : i < σ.length := by rw [I.len]; exact (List.getElem?_eq_some_iff.mp hi).1
  obtain ⟨oL, _, _, hoL, _⟩ := id hn
  refine wpAny_nameGoes_keeps hk hn hcls fun h' v hn' hs => ?_
  refine h _ ⟨I.ok, I.os, I.bare, ⟨fun b o e n hb hx => ?_, fun b o e n hb hx => ?_, I.base.free, fun b o e hx => ?_, I.base.tups, I.base.frzs, I.base.tbls⟩, ⟨_, hn', fun j y v' e1 e2 e3 => ?_⟩, fun y c e => ?_, I.free, I.freeC, fun p hp => ?_, fun b ob e => ?_, by simpa using I.len⟩
  · exact (hs.2 b (Nat.ne_of_lt (Nat.lt_of_lt_of_le (Heap.lt_size e) I.ok.above))).trans (I.base.keep b o e n hb hx)
  · obtain ⟨sl, e1⟩ := I.base.slot b o e n hb hx
    exact ⟨sl, (hs.2 b (Nat.ne_of_lt (Nat.lt_of_lt_of_le (Heap.lt_size e) I.ok.above))).trans e1⟩
  · obtain ⟨o', e1⟩ := I.base.there b o e hx
    exact ⟨o', (hs.2 b (Nat.ne_of_lt (Nat.lt_of_lt_of_le (Heap.lt_size e) I.ok.above))).trans e1⟩
  · by_cases hj : j = i
    · subst hj
      rw [List.getElem?_set_self hiσ] at e2
      cases e2
    · rw [List.getElem?_set_ne (Ne.symm hj)] at e2
      obtain ⟨u', r', q⟩ := hl j y v' e1 e2 e3
      refine ⟨u', r', ?_⟩
      rcases q with ⟨k, e⟩ | ⟨k, c, e, z⟩
      · refine .inl ⟨k, ?_⟩
        have : y ≠ n := fun e => hj (nodup_ix hN e1 (e ▸ hi))
        simp [this, e]
      · exact .inr ⟨k, c, e, z.sameBut hs (I.cne y c e)⟩
  · obtain ⟨w', z⟩ := I.cell y c e
    exact ⟨w', z.sameBut hs (I.cne y c e)⟩
  · obtain ⟨e, n, ne, nf, d⟩ := I.pin p hp
    exact ⟨(hs.2 p.1 ne).trans e, n, ne, nf, d⟩
  · refine (I.hok b ob e).stay (fun c w' hc q => (hs.2 c ?_).trans q) (fun _ q => q) fun _ _ q => q
    rintro rfl
    rcases hc with rfl | hc
    · rw [I.free] at e; cases e
    · rw [I.free] at hc; cases hc
end
section
variable {X : Cx} {CW : Addr} {cx n : Str} {i : Nat} {b₀ : Stmt} {suite : List Stmt} {np hpos pos : Pos} {tb : TS}
end
end L2
namespace L2
open PySem PySem.Spec PyProof.Rows PySem.W Builtin.Getset_descriptor
structure KX (K : Frag) (C : Addr) : Prop where
  ga : findIn K (.ref C) "__getattribute__" = some (some (.builtin "BaseException.__getattribute__"))
  gh : findIn K (.ref C) "__getattr__" = some none
  cl : findIn K (.ref C) "__class__" = some (some (.builtin "object.__class__"))
  mb : mroIn K C (.type "BaseException") = some true
  mo : mroIn K C (.type "object") = some true
section
variable {prog : Program} {w : World} {A : Around} {E : Value → Shared → Prop} {K : Frag} {a C : Addr} {o : Obj} {h : Heap} {g : Array GenState} {d : Drawn} {t : Nat} {os : OsState}
theorem cget_exc {R : Result → Shared → Prop} (X : K.In h) (k : KX K C) (hx : h.get? a = some o) (hc : o.cls = .ref C) (hq : R (.ok (.ret (.ref C))) ⟨h, g, d, t, os⟩) :
    codeAny (model prog w) A (.call (.builtin "getset_descriptor.__get__") ⟨[.builtin "object.__class__", .ref a, .ref C], []⟩) R ⟨h, g, d, t, os⟩ := by
  have L0 : Looks (model prog w) h (typeOf (.ref a)) (.ref C) := hc ▸ (Looks.ld hx).andThen .now
  have L1 := looks_mroIn (M := model prog w) X k.mo
  refine codeAny_call_builtin KF.slot_gs.plain KF.entry_gs (KF.slot_gs.check _ _ _ _ _ _ _ _ KF.type_class (KF.args_gs _ _ _) ?_)
  unfold Builtin.«getset_descriptor.__get__» descrGet
  rw [dga_obj]
  refine wpAny_bind (wpAny_pure ?_)
  unfold descrGetter descrCheckInstance descrNameAndClass isInstance
  simp only [KF.owner_class]
  repeat lk
  refine ⟨Code.quiet_builtin _ (by decide +kernel), codeAny_builtin KF.entry_class ?_⟩
  unfold Builtin.«object.__class__» shownTypeOf
  repeat lk
  exact hq
theorem cent_exc {tk : Tok} {Q : Fin → Shared → Prop} (X : K.In h) (k : KX K C) (hx : h.get? a = some o) (hc : o.cls = .ref C) (hq : Q (.done (.ret (.ref C))) ⟨h, g, d, t, os⟩) :
    wpAny (model prog w) A (Builtin.«object.__getattribute__» ⟨[.ref a, .str "__class__" tk], []⟩) Q E ⟨h, g, d, t, os⟩ := by
  have L0 : Looks (model prog w) h (typeOf (.ref a)) (.ref C) := hc ▸ (Looks.ld hx).andThen .now
  have L1 := looks_findIn (M := model prog w) X k.cl
  have hT5 : (⟨h, g, d, t, os⟩ : Shared).TypeIs (.builtin "object.__class__") "getset_descriptor" := F.typeOf_object_class
  have f5 := F.typeOf_object_class
  have f6 := F.slot_gs_get.lookup
  have f7 := F.slot_gs_set.lookup
  repeat (any_goals (first | assumption | with_reducible refine L1.at ?_ | (with_reducible refine wpAny_loadPart_at hx ?_; rw [hc]) | wp_step))
  refine cget_exc X k hx hc ?_
  repeat (any_goals (first | assumption | wp_step))
theorem cchk_exc {M : Model} {nameV : Value} {Q : Unit → Shared → Prop} (X : K.In h) (k : KX K C) (hx : h.get? a = some o) (hc : o.cls = .ref C) (hq : Q () ⟨h, g, d, t, os⟩) : wpAny M A (checkBuiltinCall "BaseException.__getattribute__" ⟨[.ref a, nameV], []⟩) Q E ⟨h, g, d, t, os⟩ := by
  have L1 := looks_mroIn (M := M) X k.mb
  have hk : builtinKind "BaseException.__getattribute__" = some .slot := by decide +kernel
  have hsplit : splitId "BaseException.__getattribute__" = some ("BaseException", "__getattribute__") := by decide +kernel
  have ha := F.args_bexc_ga (.ref a) nameV
  simp only [checkBuiltinCall, hk, hsplit]
  refine wpAny_bind ?_
  unfold isInstance
  repeat (first | (with_reducible refine wpAny_loadPart_at hx ?_; rw [hc]) | with_reducible refine L1.at ?_ | wp_step)
  exact hq
theorem cby_exc {tk : Tok} {Q : Value → Shared → Prop} (X : K.In h) (k : KX K C) (hx : h.get? a = some o) (hc : o.cls = .ref C) (hq : Q (.ref C) ⟨h, g, d, t, os⟩) :
    wpAny (model prog w) A (getAttrBy (.ref a) (.str "__class__" tk) false false) Q E ⟨h, g, d, t, os⟩ := by
  have L1 := looks_findIn (M := model prog w) X k.ga
  have L2 := looks_findIn (M := model prog w) X k.gh
  have f3 := F.excAttr_ValueError.ga.bind (.ref a)
  have hx0 : (false && onTheHeap (Value.builtin "BaseException.__getattribute__")) = false := rfl
  have hx2 : (Value.builtin "BaseException.__getattribute__" == Value.builtin "object.__getattribute__") = false := by decide +kernel
  have hx1 : (onTheHeap (Value.ref C) && Value.builtin "BaseException.__getattribute__" == Value.builtin "object.__getattribute__") = false := by rw [hx2]; rfl
  repeat (any_goals (first | assumption | (with_reducible refine wpAny_loadPart_at hx ?_; rw [hc]) | with_reducible refine L1.at ?_ | with_reducible refine L2.at ?_ | wp_step))
  refine codeAny_call_builtin F.excAttr_ValueError.ga.plain F.entry_bexc_ga (cchk_exc X k hx hc (cent_exc X k hx hc ?_))
  repeat (any_goals (first | assumption | wp_step))
theorem cattr_exc {Q : Option Value → Shared → Prop} (X : K.In h) (k : KX K C) (hx : h.get? a = some o) (hc : o.cls = .ref C) (hq : Q (some (.ref C)) ⟨h, g, d, t + 1, os⟩) : wpAny (model prog w) A (getAttr? (.ref a) "__class__") Q E ⟨h, g, d, t, os⟩ := by
  unfold getAttr? getAttrBy?
  repeat (any_goals (first | assumption | with_reducible apply cby_exc X k hx hc | wp_step))
end
theorem kitx_exc {K : Frag} {a C : Addr} {cd : ClassData} (k : KX K C) (hC : clsIn K C = some cd) : KitX K (.ref a) (.ref C) (ExcAt C a) where
  ty := fun _ _ _ ⟨o, _, h1, h2, _⟩ => h2 ▸ (Looks.ld h1).andThen .now
  it := fun _ _ X _ => by
    unfold clsIn at hC
    split at hC
    · rename_i c' d' cd' sl' ho
      intro A' Q' E' s' kk q
      unfold isType loadHead
      exact wpAny_bind (wpAny_loadPart (kk _ _ (X _ _ ho)) (wpAny_pure q))
    · cases hC
  ne := fun h tp dd its n sl X e => by
    refine Bool.eq_false_iff.mpr fun q => ?_
    have z := beq_iff_eq.mp q
    cases z
    unfold clsIn at hC
    split at hC
    · rename_i c' d' cd' sl' ho
      have := X _ _ ho
      rw [e] at this
      cases this
    · cases hC
  ca := fun {_ _ _ _ _ s} X p q => by
    obtain ⟨o, vs, h1, h2, _⟩ := p
    obtain ⟨h, g, d, t, os⟩ := s
    exact cattr_exc X k h1 h2 q
section
variable {X : Cx}
end
end L2
namespace L2
end L2
namespace L2
open PySem PySem.Spec PyProof.Rows
theorem vals_texts : ∀ l : List (Str × Tok), Vals ((l.map (·.1)).map V.str) (strValues l)
  | [] => .nil
  | (x, t) :: r => .cons ⟨t, rfl⟩ (vals_texts r)
theorem texts_vals : ∀ {ss : List Str} {its : List Value}, Vals (ss.map V.str) its → ∃ l : List (Str × Tok), its = strValues l ∧ l.map (·.1) = ss
  | [], _, r => by cases r; exact ⟨[], rfl, rfl⟩
  | x :: ss, _, r => by
    cases r with
    | cons h t =>
      obtain ⟨k, rfl⟩ := h
      obtain ⟨l, rfl, e⟩ := texts_vals t
      exact ⟨(x, k) :: l, rfl, by rw [List.map_cons, e]⟩
section
variable {X : Cx}
def rSplit : V → List V → Hp → VK → Prop := fun v vs H Q => ∃ x y : Str, v = .str x ∧ vs = [.str y] ∧ (y.length == 0) = false ∧ x.length ≤ sizeLine ∧ (Builtin.Str.partsBetween x (Builtin.Str.occurrences x y 0 x.length (x.length + 1)) y.length).length ≤ sizeLine ∧ (Txt.split x y).length ≤ sizeLine ∧
  ∀ p, H p = none → Q (.ref p) (upd H p (.lst ((Txt.split x y).map V.str)))
theorem mt_split : MtR X "str.split" rSplit := by
  intro pins s σ H v vs u us Q I rx rv h
  obtain ⟨x, y, rfl, rfl, hy, hx, hp, hl, q⟩ := h
  obtain ⟨t, rfl⟩ := rx
  obtain ⟨u, rfl, k, rfl⟩ := vals1 rv
  have fin : ∀ (l : List (Str × Tok)) (tk : Nat), l.map (·.1) = Txt.split x y → EP X pins σ Q (.ref s.heap.objs.size) { s with toks := tk, heap := s.heap.push { cls := .type "list", data := .seq (strValues l).toArray } } := fun l tk e => by
    refine ⟨.ref s.heap.objs.size, _, I.laid (t' := tk) (fun b o e => Heap.get?_push_of_some _ e) (Nat.le_refl _) (show ObjOk X.prog X.w _ _ _ (.lst ((Txt.split x y).map V.str)) from ⟨by rw [List.length_map]; exact hl, strValues l, _, by rw [← e]; exact vals_texts l, Heap.get?_push_size _ rfl⟩), rfl, q _ (I.hok.fresh (Nat.le_refl _))⟩
  cases h1 : (decide (x.length < y.length) || decide (Builtin.Str.strKind x < Builtin.Str.strKind y))
  · cases hf : (Builtin.Str.occurrences x y 0 x.length (x.length + 1)).isEmpty
    · refine call_meets PySem.F.slot_str_split (typeIs_str _ _ _) PySem.F.entry_str_split (PySem.F.args_str_split_2 _ _) (meets_str_split_sep x y t k h1 hy hf hx hp) ?_
      show wants (EP X pins σ Q) X.xe _ { s with toks := _, heap := s.heap.push { cls := .type "list", data := .seq (strsFrom s.toks (Builtin.Str.partsBetween x (Builtin.Str.occurrences x y 0 x.length (x.length + 1)) y.length)).toArray } }
      rw [strsFrom_eq]
      exact fin (numbered s.toks _) _ ((numbered_texts _ _).trans ((if_neg (ne_true_of_eq_false h1)).trans (if_neg (ne_true_of_eq_false hf))).symm)
    · exact call_meets PySem.F.slot_str_split (typeIs_str _ _ _) PySem.F.entry_str_split (PySem.F.args_str_split_2 _ _) (meets_str_split_not_found x y t k h1 hy hf)
        (fin [(x, t)] _ ((if_neg (ne_true_of_eq_false h1)).trans (if_pos hf)).symm)
  · exact call_meets PySem.F.slot_str_split (typeIs_str _ _ _) PySem.F.entry_str_split (PySem.F.args_str_split_2 _ _) (meets_str_split_cannot_occur x y t k h1)
      (fin [(x, t)] _ (if_pos h1).symm)
end
end L2
namespace L2
open PySem PySem.Spec PyProof.Rows
section
variable {X : Cx}
end
end L2
namespace L2
open PySem PySem.Spec PyProof.Rows
section
variable {X : Cx}
theorem TyV.same {K : PySem.W.Frag} {H H' : Hp} {v : V} {t : String} (e : Same H H') (h : TyV K H v t) : TyV K H' v t := by
  cases h with
  | non => exact .non
  | bl b => exact .bl b
  | int i => exact .int i
  | str x => exact .str x
  | lst h => exact .lst (e.seq h)
  | tup h => exact .tup (e.tup h)
  | dct h => exact .dct (e _ _ h)
end
end L2
namespace L2
open PySem PySem.Spec PyProof.Rows
section
variable {X : Cx} {tg : Expr}
end
end L2
namespace L2
open PySem PySem.Spec PyProof.Rows
section
variable {X : Cx} {tg : Expr}
def eqTx (y : Str) : Value → Bool
  | .str x _ => x == y
  | _ => false
def rLIndex : V → List V → Hp → VK → Prop := fun v vs H Q => ∃ (p : Addr) (ss : List Str) (y : Str) (j : Nat), v = .ref p ∧ vs = [.str y] ∧ H p = some (.lst (ss.map V.str)) ∧ ss[j]? = some y ∧ (∀ m, m < j → ss[m]? ≠ some y) ∧ Q (.int (j : Int)) H
theorem mt_lindex : MtR X "list.index" rLIndex := by
  intro pins s σ H v vs u us Q I rx rv h
  obtain ⟨p, ss, y, j, rfl, rfl, hS, hj, hno, q⟩ := h
  cases rx
  obtain ⟨u, rfl, k, rfl⟩ := vals1 rv
  obtain ⟨z, its, n, r, hl, e⟩ := I.lstM hS
  obtain ⟨l, rfl, e'⟩ := texts_vals r
  subst e'
  have hjl : j < l.length := by
    have := (List.getElem?_eq_some_iff.mp hj).1
    simpa using this
  have hsz : (strValues l).toArray.size = l.length := by simp [strValues]
  have hz : l.length ≤ sizeLine := by simpa using z
  have hs : (sizeLine : Int) < 2 ^ 63 - 1 := by decide +kernel
  refine call_meets PySem.F.slot_list_index ⟨_, e, rfl⟩ PySem.F.entry_list_index (PySem.F.args_list_index_2 _ _) (PySem.MeetsSeq.list_index p (strValues l).toArray n (.str y k) (eqTx y) ?_ j (by omega) (by omega) ?_ ?_) ⟨e, .int j, H, I.tok _, ⟨_, rfl⟩, q⟩
  · intro v hv
    have hv' : v ∈ strValues l := by simpa using hv
    obtain ⟨a, ha, rfl⟩ := List.mem_map.mp hv'
    exact PyProof.Rows.eqGives_str _ _ _ _
  · have hx : (strValues l).toArray[j]'(by omega) = .str l[j].1 l[j].2 := by simp [strValues]
    rw [hx]
    have : l[j].1 = y := by
      rw [List.getElem?_map, List.getElem?_eq_getElem hjl] at hj
      exact Option.some.inj hj
    show (l[j].1 == y) = true
    rw [this, beq_self_eq_true]
  · intro m hm hlt
    have hml : m < l.length := by omega
    have hx : (strValues l).toArray[m]'hm = .str l[m].1 l[m].2 := by simp [strValues]
    rw [hx]
    show (l[m].1 == y) = false
    rw [beq_eq_false_iff_ne]
    exact fun z => hno m hlt (by rw [List.getElem?_map, List.getElem?_eq_getElem hml, ← z]; rfl)
end
end L2
namespace L2
open PySem PySem.Spec PyProof.Rows PySem.W PySem.Builtin PySem.Builtin.ObjectAttr
def excInI (K : Frag) (C : Addr) (bmB : List Value) (newId : String) : Bool := match K.lookup C with
  | some ⟨.type "type", _, .cls cd, sl⟩ => (match cd.mro, sl.toList with
    | .ref C' :: bm, [_, _, _, _, some (.builtin n), _] => C' == C && n == newId && !cd.hasDel && tailIn K bmB bm && nsOkIn K cd.ns && cd.hasDict
    | _, _ => false)
  | _ => false
theorem excI_of {K : Frag} {h : Heap} {C : Addr} {bmB : List Value} {newId : String} (X : K.In h) (q : excInI K C bmB newId = true) :
    ∃ (bm : List Value) (N : Addr) (nm qn : Str) (bs : List Value) (sn : List Str) (sub : List Value) (ab : Bool) (col : Option Bool) (dd : Option Addr) (k0 k1 k2 k3 k5 : Option Value) (mN : Str → Option Value),
      h.get? C = some (excClassObj nm qn C N bs bm true sn sub ab col dd k0 k1 k2 k3 k5 newId) ∧ h.Ns N mN ∧ OwnTail h bmB bm ∧ ∃ cd, clsIn K C = some cd ∧ cd.mro = .ref C :: bm ∧ cd.hasDict = true := by
  unfold excInI at q
  split at q
  · rename_i dd cd sl ho
    split at q
    · rename_i C' bm k0 k1 k2 k3 n k5 hm hs
      simp only [Bool.and_eq_true, beq_iff_eq, Bool.not_eq_true'] at q
      have hcls : clsIn K C = some cd := by unfold clsIn; rw [ho]
      obtain ⟨⟨⟨⟨⟨rfl, rfl⟩, hdel⟩, ht⟩, hok⟩, hhd⟩ := q
      obtain ⟨nm, bs, mro, ns, qn, hd, sn, sub, ab, col, del⟩ := cd
      dsimp only at hm hdel hok hhd
      subst hm hdel hhd
      have hsl : sl = #[k0, k1, k2, k3, some (.builtin n), k5] := by
        obtain ⟨l⟩ := sl
        simp only at hs
        rw [hs]
      subst hsl
      exact ⟨bm, ns, nm, qn, bs, sn, sub, ab, col, dd, k0, k1, k2, k3, k5, _, X _ _ ho, .of_isNs (PySem.W.isNs_of_in X hok), PySem.W.tail_of_in X ht, ⟨_, hcls, by rfl, by rfl⟩⟩
    · cases q
  · cases q
section
variable {prog : Program} {w : World} {A : Around} {E : Value → Shared → Prop} {K : Frag} {h : Heap} {g : Array GenState} {d : Drawn} {t : Nat} {os : OsState}
variable {nm q : Str} {C N : Addr} {bs bm bmB : List Value} {hdct : Bool} {sn : List Str} {sub : List Value} {ab : Bool} {col : Option Bool} {dd : Option Addr} {k0 k1 k2 k3 k5 : Option Value} {B Bn newId nid initId inN : String} {bmN : List Value}
def excNew (C : Addr) (t : Addr) : Obj := { cls := .ref C, data := .fields #[.ref t, .none, .none, .none, .bool false, .none] }
theorem tcall_excI (Fn : ExcBaseFacts Bn newId inN bmN) (hBn : bmB.contains (.type Bn) = true) (F : ExcBaseFacts B nid initId bmB) (T : OwnTail h bmB bm) {rest : List Value} {Q : Fin → Shared → Prop} {fI : Addr}
    (hC : h.get? C = some (excClassObj nm q C N bs bm hdct sn sub ab col dd k0 k1 k2 k3 k5 newId)) (X : K.In h) (hi : findIn K (.ref C) "__init__" = some (some (.ref fI))) (hf : isFn K (.ref fI) = true)
    (hq : wpAny (model prog w) A (call (.ref fI) (.ref (h.objs.size + 1) :: rest)) (fun r s' => r = .none ∧ Q (.done (.ret (.ref (h.objs.size + 1)))) s') E ⟨(h.push { cls := .type "tuple", data := .seq rest.toArray }).push (excNew C h.objs.size), g, d, t, os⟩) (hrest : rest.length ≤ sizeLine) :
    wpAny (model prog w) A (Builtin.«type.__call__» ⟨.ref C :: rest, []⟩) Q E ⟨h, g, d, t, os⟩ := by
  repeat (first | with_reducible refine wpAny_loadPart_at hC ?_ | with_reducible refine wpAny_madeBy_exc hC ?_ | wp_step)
  refine codeAny_call_builtin_code (Code.quiet_builtin _ Fn.quiet) (wpAny_check_new_subU Fn hBn T hC ?_)
  refine codeAny_exc_new_subU Fn hBn F T hC ?_ hrest
  show wpAny _ _ _ _ _ _
  have kp : ∀ b o, h.get? b = some o → ((h.push { cls := .type "tuple", data := .seq rest.toArray }).push { cls := .ref C, data := .fields #[.ref h.objs.size, .none, .none, .none, .bool false, .none] }).get? b = some o := fun b o e => Heap.get?_push_of_some _ (Heap.get?_push_of_some _ e)
  have hC₁ := kp _ _ hC
  have X₁ := X.keeps kp
  have hget : ((h.push { cls := .type "tuple", data := .seq rest.toArray }).push
      { cls := .ref C, data := .fields #[.ref h.objs.size, .none, .none, .none, .bool false, .none] }).get? (h.objs.size + 1) = some
      { cls := .ref C, data := .fields #[.ref h.objs.size, .none, .none, .none, .bool false, .none] } := by heap_get
  have hcC : (Value.ref C :: bm).contains (.ref C) = true := by simp
  unfold isInstance
  repeat (first | with_reducible refine wpAny_loadPart_at hget ?_ | (with_reducible refine wpAny_isSubtype_exc hC₁ ?_; rw [hcC]) | wp_step)
  show wpAny _ _ (typeLookup (.ref C) _) _ _ _
  refine (looks_findIn (M := model prog w) X₁ hi).at ?_
  refine wpAny_holding (wpAny_bind ((bind_fn X₁ _ (beq_iff_eq.mp hf)).at ?_))
  refine wpAny_bind (wpAny_mono hq (fun r s' hr => ?_) fun _ _ x => x)
  obtain ⟨rfl, hQ⟩ := hr
  wp_walk
  exact hQ
theorem call_excI (Fn : ExcBaseFacts Bn newId inN bmN) (hBn : bmB.contains (.type Bn) = true) (F : ExcBaseFacts B nid initId bmB) (T : OwnTail h bmB bm) {rest : List Value} {Q : Value → Shared → Prop} {fI : Addr}
    (hC : h.get? C = some (excClassObj nm q C N bs bm hdct sn sub ab col dd k0 k1 k2 k3 k5 newId)) (X : K.In h) (hi : findIn K (.ref C) "__init__" = some (some (.ref fI))) (hf : isFn K (.ref fI) = true)
    (hq : wpAny (model prog w) (A.under (.builtin "type.__call__" ⟨.ref C :: rest, []⟩)) (call (.ref fI) (.ref (h.objs.size + 1) :: rest)) (fun r s' => r = .none ∧ Q (.ref (h.objs.size + 1)) s') E ⟨(h.push { cls := .type "tuple", data := .seq rest.toArray }).push (excNew C h.objs.size), g, d, t, os⟩) (hrest : rest.length ≤ sizeLine) :
    wpAny (model prog w) A (call (.ref C) rest) Q E ⟨h, g, d, t, os⟩ := by
  have f1 := tc_lookup
  have f2 := tc_bind (.ref C)
  have hT : (⟨h, g, d, t, os⟩ : Shared).TypeIs (.ref C) "type" := ⟨_, hC, rfl⟩
  refine wpAny_call (codeAny_of_tree ?_)
  show wpAny _ _ (callAny (.ref C) _) _ _ _
  repeat (any_goals (first | assumption | with_reducible refine wpAny_loadPart_at hC ?_ | wp_step))
  refine ⟨rfl, ?_⟩
  exact codeAny_call_builtin_at (Code.quiet_builtin _ (by decide +kernel)) entry_typeCall (wpAny_check_type_call_sub hC (tcall_excI Fn hBn F T hC X hi hf hq hrest))
end
theorem refuse_tail (self : Value) {h : Heap} {bm : List Value} (T : OwnTail h bmVE bm) : refuseLoop self "__setattr__" bm = pure () := by
  induction T with
  | base => exact PySem.F.store_ValueError.passes self
  | own _ _ _ _ ih => rw [refuseLoop_ref]; exact ih
section
variable {prog : Program} {w : World} {A : Around} {K : Frag} {s : Shared} {x C : Addr} {R : Result → Shared → Prop}
theorem osa_openX {ox : Obj} {od : Option Obj} {name : Str} {tk : Tok} {v : Value} {bm : List Value} {cd : ClassData} (X : K.In s.heap) (I : InstAt s.heap x ox C od) (hc : clsIn K C = some cd) (hm' : cd.mro = .ref C :: bm) (T : OwnTail s.heap bmVE bm) (hmo : mroIn K C (.type "object") = some true) (ht : findIn K (.ref C) name = some none)
    (h : wpAny (model prog w) A.in1 (storeInOwnDict (.ref x) (.ref C) (.str name tk) name v false)
      (fun fin s' => match fin with | .done f => R (.ok f) s' | .again c' => c'.quiet = true ∧ codeAny (model prog w) A c' R s') (fun e s' => R (.error e) s') s) :
    codeAny (model prog w) A (.call (.builtin "object.__setattr__") ⟨[.ref x, .str name tk, v], []⟩) R s := by
  have SF := PySem.F.store_object
  have sub : Looks (model prog w) s.heap (isInstance (.ref x) (.type "object")) true := I.type.andThen (looks_mroIn X hmo)
  refine codeAny_call_builtin SF.slot.plain SF.entry (@check_slot (model prog w) _ _ s "object.__setattr__" "object" "__setattr__" (.ref x) [.str name tk, v] [] _ SF.kind SF.split sub (SF.args (.ref x) (.str name tk) v) ?_)
  have hm : Looks (model prog w) s.heap (mroOf (.ref C)) cd.mro := (looks_clsIn X hc).andThen .now
  rw [osa_eq, refuse_eq]
  refine wpAny_bind (wpAny_bind (I.type.here (wpAny_bind (hm.here ?_))))
  rw [hm', refuseLoop_ref, refuse_tail _ T]
  refine wpAny_pure (wpAny_bind (I.type.here (wpAny_bind ((looks_findIn X ht).here (wpAny_bind ?_)))))
  refine wpAny_pure ?_
  exact h
end
section
variable {prog : Program} {w : World} {A : Around} {E : Value → Shared → Prop} {h : Heap} {g : Array GenState} {d : Drawn} {t : Nat} {os : OsState}
variable {nm q : Str} {C N x : Addr} {bs bm : List Value} {sn : List Str} {sub : List Value} {ab : Bool} {col : Option Bool} {dd : Option Addr} {k0 k1 k2 k3 k5 : Option Value} {newId : String} {name : Str} {v : Value}
theorem own_store0 {tk : Tok} {o : Obj} {Q : Fin → Shared → Prop} (hC : h.get? C = some (excClassObj nm q C N bs bm true sn sub ab col dd k0 k1 k2 k3 k5 newId)) (hx : h.get? x = some o) (hc : o.cls = .ref C) (hnc : ∀ c, o.data ≠ .cls c) (hdn : o.dict = none)
    (hq : ∀ h' tk', h'.get? x = some { cls := o.cls, dict := some h.objs.size, data := o.data, slots := o.slots } → h'.Ns1 h.objs.size (fun y => if y = name then some v else none) → (∀ b ob, b ≠ x → h.get? b = some ob → h'.get? b = some ob) → Q (.done (.ret .none)) ⟨h', g, d, tk', os⟩) :
    wpAny (model prog w) A (storeInOwnDict (.ref x) (.ref C) (.str name tk) name v false) Q E ⟨h, g, d, t, os⟩ := by
  unfold storeInOwnDict
  repeat (first | (with_reducible refine wpAny_loadPart_at hx ?_; rw [hc]) | with_reducible refine wpAny_loadPart_at hC ?_ | wp_step)
  rw [hdn]
  dsimp only
  rw [if_neg (by simp [typeHasDict])]
  split
  · rename_i c hcd
    exact absurd hcd (hnc c)
  · have hx₁ : (h.push { cls := .type "dict", data := .dict #[] }).get? x = some o := Heap.get?_push_of_some _ hx
    have hxs : x ≠ h.objs.size := Nat.ne_of_lt (Heap.lt_size hx)
    refine wpAny_bind (wpAny_alloc' ?_)
    refine wpAny_bind (wpAny_update' hx₁ ?_)
    refine wpAny_pure ?_
    have hgd : ((h.push { cls := .type "dict", data := .dict #[] }).update x fun o => { cls := o.cls, dict := some h.objs.size, data := o.data, slots := o.slots }).get? h.objs.size
        = some { cls := .type "dict", data := .dict #[] } :=
      (Heap.get?_update_ne _ _ _ _ hxs.symm).trans (Heap.get?_push_at rfl rfl)
    have hnd : ((h.push { cls := .type "dict", data := .dict #[] }).update x fun o => { cls := o.cls, dict := some h.objs.size, data := o.data, slots := o.slots }).Ns h.objs.size (fun _ => none) :=
      ⟨_, #[], _, hgd, rfl, fun e he => absurd he (by simp), fun _ => rfl⟩
    show wpAny _ _ (storeInDict h.objs.size (.str name tk) name v) _ _ _
    unfold storeInDict newKeyGuard
    refine wpAny_bind (wpAny_pure (wpAny_bind (wpAny_nsSet1 (Heap.Ns1.of_empty hnd) fun h' hn' hs => ?_)))
    obtain ⟨oD, esD, epD, hoD, hdD, hcD⟩ := hn'.count (Within.cons name v Within.nil)
    refine wpAny_bind (wpAny_lookBehind hoD (by rw [hdD]; exact pastItsLine_dict (Nat.le_trans hcD (by rw [List.length_cons, List.length_nil, sizeLine_eq]; omega))) ?_)
    wp_walk
    have hx' : h'.get? x = some { cls := o.cls, dict := some h.objs.size, data := o.data, slots := o.slots } := by
      refine (hs.2 x hxs).trans (Heap.get?_update_self _ hx₁ ?_)
      have hfr := (Heap.get?_some_iff.mp hx).2
      obtain ⟨oc, od, odt, osl⟩ := o
      cases odt <;> first | rfl | exact hfr
    refine hq h' _ hx' hn' fun b ob hbx hb => ?_
    exact (hs.2 b (Nat.ne_of_lt (Heap.lt_size hb))).trans ((Heap.get?_update_ne _ _ _ _ hbx).trans (Heap.get?_push_of_some _ hb))
theorem own_store1 {tk : Tok} {o : Obj} {dx : Addr} {mA : Str → Option Value} {ns : List Str} {Q : Fin → Shared → Prop} (hC : h.get? C = some (excClassObj nm q C N bs bm true sn sub ab col dd k0 k1 k2 k3 k5 newId)) (hx : h.get? x = some o) (hc : o.cls = .ref C) (hdx : o.dict = some dx) (hns : h.Ns1 dx mA) (hw : Within mA ns) (hl : ns.length < 1000)
    (hq : ∀ h' tk', h'.Ns1 dx (fun y => if y = name then some v else mA y) → (∀ b ob, b ≠ dx → h.get? b = some ob → h'.get? b = some ob) → Q (.done (.ret .none)) ⟨h', g, d, tk', os⟩) :
    wpAny (model prog w) A (storeInOwnDict (.ref x) (.ref C) (.str name tk) name v false) Q E ⟨h, g, d, t, os⟩ := by
  unfold storeInOwnDict
  repeat (first | (with_reducible refine wpAny_loadPart_at hx ?_; rw [hc]) | with_reducible refine wpAny_loadPart_at hC ?_ | wp_step)
  rw [hdx]
  refine wpAny_pure ?_
  show wpAny _ _ (storeInDict dx (.str name tk) name v) _ _ _
  unfold storeInDict newKeyGuard
  refine wpAny_bind (wpAny_pure (wpAny_bind (wpAny_nsSet1 hns fun h' hn' hs => ?_)))
  obtain ⟨oD, esD, epD, hoD, hdD, hcD⟩ := hn'.count (Within.cons name v hw)
  refine wpAny_bind (wpAny_lookBehind hoD (by rw [hdD]; exact pastItsLine_dict (Nat.le_trans hcD (by rw [List.length_cons, sizeLine_eq]; omega))) ?_)
  wp_walk
  exact hq h' _ hn' fun b ob hb hb' => (hs.2 b hb).trans hb'
end
def XP (C e : Addr) (dx : Option Addr) : Heap → Prop := fun h => ∃ t0, h.get? e = some { cls := .ref C, dict := dx, data := .fields #[.ref t0, .none, .none, .none, .bool false, .none] }
def XD (dx : Addr) (fs : List (Str × V)) : Heap → Prop := fun h => ∃ mA, h.Ns1 dx mA ∧ (∀ f, RelO (fs.lookup f) (mA f)) ∧ Within mA (fs.map (·.1))
structure KXs (K : Frag) (C : Addr) : Prop where
  sa : findIn K (.ref C) "__setattr__" = some (some (.builtin "object.__setattr__"))
  ex : excInI K C bmVE "ValueError.__new__" = true
  mo : mroIn K C (.type "object") = some true
theorem xp_stable {C e : Addr} {dx : Option Addr} (h1 h2 : Heap) (h : XP C e dx h1) (k : ∀ o, h1.get? e = some o → h2.get? e = some o) : XP C e dx h2 := by
  obtain ⟨t0, g⟩ := h
  exact ⟨t0, k _ g⟩
theorem xd_stable {dx : Addr} {fs : List (Str × V)} (h1 h2 : Heap) (h : XD dx fs h1) (k : ∀ o, h1.get? dx = some o → h2.get? dx = some o) : XD dx fs h2 := by
  obtain ⟨mA, n, r⟩ := h
  exact ⟨mA, n.at k, r⟩
theorem Ns1.obj {h : Heap} {a : Addr} {m : Str → Option Value} (n : h.Ns1 a m) : ∃ o, h.get? a = some o := let ⟨o, _, _, e, _⟩ := n; ⟨o, e⟩
section
variable {X : Cx} {C a : Addr} {pins : List (Addr × Obj)} {σ : St} {H : Hp} {s : Shared} {A : Around} {E : Value → Shared → Prop} {f : Str}
theorem xset0 {y : V} {u : Value} {Q : Unit → Shared → Prop} (I : Inv X pins σ H s) (e : H a = some (.ext (XP C a none))) (k : KXs X.K C) (hf : findIn X.K (.ref C) f = some none) (ry : RelV y u)
    (h : ∀ s' dx, H dx = none → dx ≠ a → Inv X pins σ (upd (upd H dx (.ext (XD dx [(f, y)]))) a (.ext (XP C a (some dx)))) s' → Q () s') : wpAny (model X.prog X.w) A (setAttr (.ref a) f u) Q E s := by
  obtain ⟨⟨t0, hg⟩, _, _⟩ := I.hok a _ e
  obtain ⟨bm, N, nm, qn, bs, sn, sub, ab, col, dd, k0, k1, k2, k3, k5, mN, hC, hn, T, cd, hcd, hmro, _⟩ := excI_of I.kIn k.ex
  have IA : InstAt s.heap a { cls := .ref C, dict := none, data := .fields #[.ref t0, .none, .none, .none, .bool false, .none] } C none := ⟨hg, rfl, rfl, True.intro⟩
  refine set_plain I.kIn IA k.sa (osa_openX (s := { s with toks := s.toks + 1 }) I.kIn IA hcd hmro T k.mo hf ?_)
  obtain ⟨hp, g, d, tk, os⟩ := s
  have hda : hp.objs.size ≠ a := Nat.ne_of_gt (Heap.lt_size hg)
  refine own_store0 hC hg rfl (fun c z => by cases z) rfl fun h' tk' g1 n1 kp => h _ hp.objs.size (I.hok.fresh (Nat.le_refl _)) hda ?_
  obtain ⟨od, god⟩ := Ns1.obj n1
  have hpo : (hp.push od).get? hp.objs.size = some od := Heap.get?_push_size hp (Heap.get?_some_iff.mp god).2
  have n0 : (hp.push od).Ns1 hp.objs.size (fun y => if y = f then some u else none) := n1.at fun o q => by rw [god] at q; cases q; exact hpo
  have hx0 : XD hp.objs.size [(f, y)] (hp.push od) := ⟨_, n0, fun g => by
    show RelO (List.lookup g [(f, y)]) (if g = f then some u else none)
    by_cases q : g = f
    · rw [if_pos q, q]; simp only [List.lookup, beq_self_eq_true]; exact ry
    · rw [if_neg q]; simp only [List.lookup]; rw [beq_false_of_ne q]; exact True.intro, fun g hg => by
    by_cases q : g = f
    · rw [q]; exact List.mem_singleton_self _
    · exact absurd (if_neg q) hg⟩
  have I1 := I.laid (a := hp.objs.size) (o := .ext (XD hp.objs.size [(f, y)])) (h' := hp.push od) (t' := tk') (fun b u q => Heap.get?_push_of_some _ q) (Nat.le_refl _) ⟨hx0, ⟨_, hpo⟩, xd_stable⟩
  have ea : upd H hp.objs.size (.ext (XD hp.objs.size [(f, y)])) a = some (.ext (XP C a none)) := by rw [upd_ne hda.symm]; exact e
  refine I1.write (x := a) (e := a) (t' := tk') (by rw [ea]; exact True.intro) (.inl rfl) (fun b ob hb z => ?_) ⟨_, g1⟩ ⟨⟨t0, g1⟩, ⟨_, g1⟩, xp_stable⟩
  by_cases hbs : b = hp.objs.size
  · subst hbs
    have z' : (hp.push od).get? hp.objs.size = some ob := z
    rw [hpo] at z'
    cases z'
    exact god
  · have z' : (hp.push od).get? b = some ob := z
    rw [Heap.get?_push_ne _ _ _ hbs] at z'
    exact kp b ob hb z'
theorem xset1 {y : V} {u : Value} {dx : Addr} {fs : List (Str × V)} {Q : Unit → Shared → Prop} (I : Inv X pins σ H s) (e : H a = some (.ext (XP C a (some dx)))) (ed : H dx = some (.ext (XD dx fs))) (hl : fs.length < 900) (k : KXs X.K C) (hf : findIn X.K (.ref C) f = some none) (ry : RelV y u)
    (h : ∀ s', Inv X pins σ (upd H dx (.ext (XD dx (putF f y fs)))) s' → Q () s') : wpAny (model X.prog X.w) A (setAttr (.ref a) f u) Q E s := by
  obtain ⟨⟨t0, hg⟩, _, _⟩ := I.hok a _ e
  obtain ⟨⟨mA, n, r, wi⟩, _, _⟩ := I.hok dx _ ed
  obtain ⟨bm, N, nm, qn, bs, sn, sub, ab, col, dd, k0, k1, k2, k3, k5, mN, hC, hn, T, cd, hcd, hmro, _⟩ := excI_of I.kIn k.ex
  obtain ⟨od, god⟩ := Ns1.obj n
  have IA : InstAt s.heap a { cls := .ref C, dict := some dx, data := .fields #[.ref t0, .none, .none, .none, .bool false, .none] } C (some od) := ⟨hg, rfl, rfl, god⟩
  refine set_plain I.kIn IA k.sa (osa_openX (s := { s with toks := s.toks + 1 }) I.kIn IA hcd hmro T k.mo hf ?_)
  obtain ⟨hp, g, d, tk, os⟩ := s
  refine own_store1 hC hg rfl rfl n wi (by rw [List.length_map]; omega) fun h' tk' n1 kp => h _ ?_
  obtain ⟨od', god'⟩ := Ns1.obj n1
  refine I.write (x := dx) (e := dx) (t' := tk') (by rw [ed]; exact True.intro) (.inl rfl) (fun b ob hb z => kp b ob hb z) ⟨_, god'⟩ ⟨⟨_, n1, fun g => ?_, fun g hg => ?_⟩, ⟨_, god'⟩, xd_stable⟩
  · show RelO ((putF f y fs).lookup g) (if g = f then some u else mA g)
    rw [lookup_putF]
    by_cases q : g = f
    · rw [if_pos q, if_pos q]; exact ry
    · rw [if_neg q, if_neg q]; exact r g
  · by_cases q : g = f
    · rw [q]; exact (keys_putF f y fs).1
    · refine (keys_putF f y fs).2 g (wi g fun z => hg ?_)
      show (if g = f then some u else mA g) = none
      rw [if_neg q]; exact z
end
def sXf (K : Frag) (ta tv : TE) (f : Str) : TS := fun D σ H => tv σ H fun y H1 => ta σ H1 fun x H2 => ∃ a C, x = .ref a ∧ KXs K C ∧ NoAttr K C f ∧
  ((H2 a = some (.ext (XP C a none)) ∧ ∀ dx, H2 dx = none → dx ≠ a → D.nx σ (upd (upd H2 dx (.ext (XD dx [(f, y)]))) a (.ext (XP C a (some dx))))) ∨
    ∃ dx fs, H2 a = some (.ext (XP C a (some dx))) ∧ H2 dx = some (.ext (XD dx fs)) ∧ fs.length < 900 ∧ D.nx σ (upd H2 dx (.ext (XD dx (putF f y fs)))))
section
variable {X : Cx} {o e value : Expr} {f : Str} {pos pos' tpos : Pos} {ta tv : TE}
theorem ps_xf (ha : PE X o ta) (hv : PE X value tv) (hs : swapsWith value (some (.Attribute o f pos')) pos.line X.env = pure false) : PS X (.Assign [.Attribute o f pos'] value pos) (sXf X.K ta tv f) := by
  intro pins s σ H D I h
  refine plainObj_wpAny_Assign_Attribute (thn (hv pins s σ H _ I h) fun u s1 ⟨y, H1, I1, ry, q⟩ => thn (ha pins s1 σ H1 _ I1 q) fun ov s2 ⟨x, H2, I2, rx, a, C, ex, k, n, q2⟩ => ?_) hs
  subst ex
  obtain rfl : ov = Value.ref a := rx
  rcases q2 with ⟨ea, q2⟩ | ⟨dx, fs, ea, ed, l, q2⟩
  · exact xset0 I2 ea k n ry fun s3 dx hd hda I3 => ⟨σ, _, I3, q2 dx hd hda⟩
  · exact xset1 I2 ea ed l k n ry fun s3 I3 => ⟨σ, _, I3, q2⟩
end
section
variable {prog : Program} {w : World} {A : Around} {E : Value → Shared → Prop} {K : Frag} {a C : Addr} {o : Obj} {od : Option Obj} {h : Heap} {g : Array GenState} {d : Drawn} {t : Nat} {os : OsState} {name : Str} {v : Value}
theorem xent {tk : Tok} {Q : Fin → Shared → Prop} (X : K.In h) (IA : InstAt h a o C od) (hf : findObj K C od name = some (.value v)) (hq : Q (.done (.ret v)) ⟨h, g, d, t, os⟩) :
    wpAny (model prog w) A (Builtin.«object.__getattribute__» ⟨[.ref a, .str name tk], []⟩) Q E ⟨h, g, d, t, os⟩ := by
  have L0 := IA.type (M := model prog w)
  have L1 := looks_find (M := model prog w) X IA hf
  refine wpAny_bind (wpAny_pure (wpAny_bind (wpAny_pure (wpAny_bind (L0.at (wpAny_bind (L1.at ?_)))))))
  exact wpAny_pure hq
theorem xby {tk : Tok} {fill expr : Bool} {Q : Value → Shared → Prop} (X : K.In h) (k : KX K C) (IA : InstAt h a o C od) (hf : findObj K C od name = some (.value v)) (hh : handedIn v = true) (hq : Q v ⟨h, g, d, t, os⟩) :
    wpAny (model prog w) A (getAttrBy (.ref a) (.str name tk) fill expr) Q E ⟨h, g, d, t, os⟩ := by
  have hx := IA.at_
  have hc := IA.cls
  have L1 := looks_findIn (M := model prog w) X k.ga
  have L2 := looks_findIn (M := model prog w) X k.gh
  have f3 := F.excAttr_ValueError.ga.bind (.ref a)
  have hx0 : (expr && onTheHeap (Value.builtin "BaseException.__getattribute__")) = false := by cases expr <;> rfl
  have hx2 : (Value.builtin "BaseException.__getattribute__" == Value.builtin "object.__getattribute__") = false := by decide +kernel
  have hx1 : (onTheHeap (Value.ref C) && Value.builtin "BaseException.__getattribute__" == Value.builtin "object.__getattribute__") = false := by rw [hx2]; rfl
  repeat (any_goals (first | assumption | (with_reducible refine wpAny_loadPart_at hx ?_; rw [hc]) | with_reducible refine L1.at ?_ | with_reducible refine L2.at ?_ | wp_step))
  refine codeAny_call_builtin F.excAttr_ValueError.ga.plain F.entry_bexc_ga (cchk_exc X k hx hc (xent X IA hf ?_))
  have ho := handedOut_of hh
  repeat (any_goals (first | assumption | wp_step | (rw [ho])))
theorem xattr {expr : Bool} {Q : Value → Shared → Prop} (X : K.In h) (k : KX K C) (IA : InstAt h a o C od) (hf : findObj K C od name = some (.value v)) (hh : handedIn v = true) (hq : Q v ⟨h, g, d, t + 1, os⟩) :
    wpAny (model prog w) A (getAttr (.ref a) name expr) Q E ⟨h, g, d, t, os⟩ := by
  unfold getAttr
  refine wpAny_bind (wpAny_mkText ?_)
  exact xby X k IA hf hh hq
end
def XG (C a dx : Addr) : Heap → Prop := fun h => ∃ o vs, h.get? a = some o ∧ o.cls = .ref C ∧ o.dict = some dx ∧ o.data = .fields vs
def tXf (K : Frag) (ta : TE) (f : Str) : TE := fun σ H Q => ta σ H fun x H1 => ∃ a C dx fs v φ, x = .ref a ∧ H1 a = some (.ext φ) ∧ (∀ h, φ h → XG C a dx h) ∧ H1 dx = some (.ext (XD dx fs)) ∧ KX K C ∧ hasDictIn K C = true ∧ NoAttr K C f ∧ fs.lookup f = some v ∧ Q v H1
theorem pe_xf {X : Cx} {e : Expr} {f : Str} {pos : Pos} {ta : TE} (he : PE X e ta) (hb : attributeBase e f X.env (eval e X.env) = eval e X.env) : PE X (.Attribute e f pos) (tXf X.K ta f) := by
  intro pins s σ H Q I h
  refine attr_of hb (thn (he pins s σ H _ I h) fun u s1 ⟨x, H1, I1, rx, a, C, dx, fs, v, φ, ex, ea, hφ, ed, k, hd, n, l, q⟩ => ?_)
  subst ex
  obtain rfl : u = Value.ref a := rx
  obtain ⟨p, _, _⟩ := I1.hok a _ ea
  obtain ⟨⟨mA, nn, r, _⟩, _, _⟩ := I1.hok dx _ ed
  obtain ⟨o, vs, g1, g2, g3, g4⟩ := hφ _ p
  obtain ⟨od, ho, hl⟩ := lookIn_ns nn
  obtain ⟨u', hu, ru⟩ := RelO.some_of (v := v) (o := mA f) (by rw [← l]; exact r f)
  have IA : InstAt s1.heap a o C (some od) := ⟨g1, g2, by unfold notCls; rw [g4], by rw [g3]; exact ho⟩
  obtain ⟨hp, g, d, t, os⟩ := s1
  exact xattr I1.kIn k IA (findObj_own hd n rfl (by rw [hl, hu])) (handed_of ru) ⟨v, H1, I1.tok _, ru, q⟩
structure MkX (K : Frag) (C f : Addr) : Prop where
  ex : excInI K C bmVE "ValueError.__new__" = true
  init : findIn K (.ref C) "__init__" = some (some (.ref f))
  fn : isFn K (.ref f) = true
  kp : keepIn K (.ref C) = true
section
variable {X : Cx} {CX : CXT} {k : Nat} {f C : Addr} {fd : FuncData} {ps : List Str} {sp : Sp} {dvs : List V} {ds : List Value} {E : XK} {x m : Str} {p pos apos : Pos} {e o : Expr} {es : List Expr} {ta : TE} {t : TA}
theorem run_makeX {pins : List (Addr × Obj)} {σ : St} {H : Hp} {s : Shared} {Q : VK} {us : List Value} {vs : List V} (M : MkX X.K C f) (F' : FnOk X.prog X.w X.K X.mg X.base CX k f fd ps sp) (hr : Room (k + 1) X.A) (hb : Binds X.K fd ps ds) (hd : Vals dvs ds)
    (hx : Passes CX X E) (I : Inv X pins σ H s) (r : Vals vs us) (hz : vs.length ≤ sizeLine)
    (h : ∀ x, s.heap.objs.size ≤ x → H x = none → sp (.ref x :: (vs ++ dvs)) (upd H x (.ext (XP C x none))) (fun v H2 => v = .non ∧ Q (.ref x) H2) E) :
    wpAny (model X.prog X.w) X.A (call (.ref C) us) (EP X pins σ Q) X.xe s := by
  obtain ⟨bm, N, nm, qn, bs, sn, sub, ab, col, dd, k0, k1, k2, k3, k5, mN, hC, hn, T, cd, hcd, hmro, _⟩ := excI_of I.kIn M.ex
  have hq := h (s.heap.objs.size + 1) (Nat.le_succ _) (I.hok.fresh (Nat.le_succ _))
  obtain ⟨hp, g, d, tk, os⟩ := s
  have I1 := I.kept (h' := hp.push { cls := .type "tuple", data := .seq us.toArray }) (t' := tk) (fun b u q => Heap.get?_push_of_some _ q)
  have e2 : ((hp.push { cls := .type "tuple", data := .seq us.toArray }).push (excNew C hp.objs.size)).get? (hp.objs.size + 1) = some (excNew C hp.objs.size) := by
    have := Heap.get?_push_size (hp.push { cls := .type "tuple", data := .seq us.toArray }) (o := excNew C hp.objs.size) rfl
    rwa [Heap.size_push] at this
  have I2 := I1.laid (a := hp.objs.size + 1) (o := .ext (XP C (hp.objs.size + 1) none)) (h' := (hp.push { cls := .type "tuple", data := .seq us.toArray }).push (excNew C hp.objs.size)) (t' := tk) (fun b u q => Heap.get?_push_of_some _ q) (Nat.le_of_eq (Heap.size_push _ _)) ⟨⟨_, e2⟩, ⟨_, e2⟩, xp_stable⟩
  have r2 : Vals (V.ref (hp.objs.size + 1) :: (vs ++ dvs)) (Value.ref (hp.objs.size + 1) :: (us ++ ds)) := .cons rfl (r.append hd)
  have hl : (Value.ref (hp.objs.size + 1) :: us ++ ds).length = ps.length := by
    have e := r2.length
    rw [F'.len _ _ _ _ hq] at e
    exact e.symm
  refine call_excI (bmB := bmVE) F.excBase_ValueError (by decide) F.excBase_ValueError T hC I.kIn M.init M.fn ?_ (by rw [← r.length]; exact hz)
  refine wpAny_call (codeAny_mono (F'.run _ X.stack _ _ ⟨Value.ref (hp.objs.size + 1) :: us, []⟩ (Value.ref (hp.objs.size + 1) :: (us ++ ds)) _ _ E (hr.make C us [])
    (I2.env0.make C us []) (hb _ (Value.ref (hp.objs.size + 1) :: us) I2.kIn hl) r2 hq) fun r s' hq' => ?_)
  cases r with
  | error e => exact hx pins σ _ _ e s' I2 hq'
  | ok fl =>
    cases fl with
    | ret u =>
      obtain ⟨v, H', I3, rv, ev, q3⟩ := I2.after hq'
      subst ev
      exact ⟨rv, ⟨V.ref (hp.objs.size + 1), H', I3, rfl, q3⟩⟩
    | next => exact False.elim hq'
    | brk => exact False.elim hq'
    | cont => exact False.elim hq'
def rIsiG (K : Frag) : List V → Hp → VK → Prop := fun vs H Q => ∃ a C c D b φ, vs = [.ref a, c] ∧ H a = some (.ext φ) ∧ (∀ h, φ h → ExcAt C a h) ∧ KX K C ∧ hasDictIn K C = true ∧ RelV c D ∧ kitOne K (.ref C) D = some b ∧ Q (.bl b) H
theorem call_isiG : CallR X (.builtin "isinstance") (rIsiG X.K) := by
  intro pins s σ H xs us Q I r h
  obtain ⟨a, C, c, D, b, φ, rfl, hH, hφ, hk, hcl, rc, e, q⟩ := h
  obtain ⟨u, w', rfl, rx, rw'⟩ := vals2 r
  cases rx
  have hD : w' = D := by
    cases c <;> simp [RelV] at rc rw' <;> first | (rw [rw', rc]) | (obtain ⟨t1, e1⟩ := rc; obtain ⟨t2, e2⟩ := rw'; subst e1; subst e2; exact absurd e (by simp [kitOne, kitCls]))
  subst hD
  obtain ⟨cd, hcd, _⟩ := any_some hcl
  obtain ⟨p, _, _⟩ := I.hok a _ hH
  exact PySem.W.kia_one (kitx_exc hk hcd) I.kIn (hφ _ p) e (fun z => nomatch z) fun tk => ⟨.bl b, H, I.tok tk, rfl, q⟩
end
def inner (s : Stmt) : Stmt := match s with
  | .ClassDef _ _ _ b _ _ _ _ _ _ _ => b.headD (.Pass ⟨0, 0, 0, 0⟩)
  | _ => .Pass ⟨0, 0, 0, 0⟩
def spInit (K : Frag) (fs : List Str) : Sp := fun vs H Q _ => ∃ a C ys, vs = .ref a :: ys ∧ ys.length = fs.length ∧ KXs K C ∧ (∀ f ∈ fs, NoAttr K C f) ∧ H a = some (.ext (XP C a none)) ∧
  ∀ dx, H dx = none → dx ≠ a → Q .non (upd (upd H dx (.ext (XD dx (fs.zip ys)))) a (.ext (XP C a (some dx))))
theorem upd_sw {H : Hp} {a b : Addr} {u v u' : HO} (h : b ≠ a) : upd (upd (upd H b u) a v) b u' = upd (upd H b u') a v := by
  funext c
  unfold upd
  by_cases h1 : c = b
  · subst h1; rw [if_pos rfl, if_neg h, if_pos rfl]
  · simp only [if_neg h1]
structure NewX (P : Program) (w : World) (K : Frag) (mg : Str → Option Value) (base : Heap) (C : Addr) (fs : List Str) : Prop where
  s : KXs K C
  no : ∀ f ∈ fs, NoAttr K C f
  le : fs.length ≤ 1000
  ini : ∃ f fd, MkX K C f ∧ FnOk P w K mg base CX0 1 f fd ("self" :: fs) (spInit K fs) ∧ Binds K fd ("self" :: fs) []
section
variable {X : Cx} {C : Addr} {fs : List Str} {x : Str} {p pos : Pos} {e : Expr} {es : List Expr} {t : TA}
theorem PA.mono {t' : TA} (ha : PA X es t) (h : ∀ σ H Q, t' σ H Q → t σ H Q) : PA X es t' := fun pos pins s σ H Q I q => ha pos pins s σ H Q I (h σ H Q q)
end
end L2
namespace L2
open PySem PySem.Spec PyProof.Rows PySem.W
def Dk (h h' : Heap) : Prop := ∀ b o, h.get? b = some o → ∃ o', h'.get? b = some o' ∧ o'.dict = o.dict
theorem Dk.refl (h : Heap) : Dk h h := fun _ o e => ⟨o, e, rfl⟩
theorem Dk.trans {h1 h2 h3 : Heap} (x : Dk h1 h2) (y : Dk h2 h3) : Dk h1 h3 := fun b o e =>
  let ⟨o1, e1, d1⟩ := x b o e; let ⟨o2, e2, d2⟩ := y b o1 e1; ⟨o2, e2, d2.trans d1⟩
def KD {α : Type} (t : Sem α) : Prop := ∀ (M : Model) (Γ : PySem.Ctx) (Q : α → Pos → Shared → Prop) (E : Value → Pos → Shared → Prop) (p : Pos) (s : Shared),
  Sem.wp M Γ t Q E p s → Sem.wp M Γ t (fun a p' s' => Q a p' s' ∧ Dk s.heap s'.heap) (fun e p' s' => E e p' s' ∧ Dk s.heap s'.heap) p s
section
variable {α β : Type}
theorem kd_pure (a : α) : KD (pure a : Sem α) := fun _ _ _ _ _ s h => ⟨h, Dk.refl s.heap⟩
theorem kd_unsup (m : String) : KD (Sem.unsupported m : Sem α) := fun _ _ _ _ _ _ h => False.elim (by simpa using h)
theorem kd_bind {t : Sem α} {f : α → Sem β} (h1 : KD t) (h2 : ∀ a, KD (f a)) : KD (t >>= f) := by
  intro M Γ Q E p s h
  rw [Sem.wp_bind'] at h ⊢
  refine Sem.wp_mono M Γ t (fun a p1 s1 z => ?_) (fun _ _ _ z => z) p s (h1 M Γ _ _ p s h)
  exact Sem.wp_mono M Γ (f a) (fun _ _ _ y => ⟨y.1, z.2.trans y.2⟩) (fun _ _ _ y => ⟨y.1, z.2.trans y.2⟩) p1 s1 (h2 a M Γ _ _ p1 s1 z.1)
theorem kd_load (a : Addr) (part : Option Value) : KD (loadPart a part) := fun M Γ Q E p s h => by
  unfold loadPart at h ⊢
  rw [Sem.wp_load] at h ⊢
  obtain ⟨o, e, q⟩ := h
  exact ⟨o, e, q, Dk.refl _⟩
theorem dk_update {h : Heap} {a : Addr} {f : Obj → Obj} (hf : ∀ o : Obj, (f o).dict = o.dict ∧ (o.isFreed = false → (f o).isFreed = false)) : Dk h (h.update a f) := fun b o e => by
  by_cases hb : a = b
  · subst hb
    exact ⟨_, Heap.get?_update_self f e ((hf o).2 (Heap.get?_some_iff.mp e).2), (hf o).1⟩
  · exact ⟨o, (Heap.get?_update_other h f hb).trans e, rfl⟩
theorem kd_update (a : Addr) (part : Option Value) {f : Obj → Obj} (hf : ∀ o : Obj, (f o).dict = o.dict ∧ (o.isFreed = false → (f o).isFreed = false)) : KD (updatePart a part f) := fun M Γ Q E p s h => by
  unfold updatePart at h ⊢
  rw [Sem.wp_update] at h ⊢
  exact ⟨h.1, h.2, dk_update hf⟩
theorem kd_alloc (o : Obj) : KD (alloc o) := fun M Γ Q E p s h => by
  unfold alloc at h ⊢
  rw [Sem.wp_alloc] at h ⊢
  exact ⟨h, fun b ob e => ⟨ob, Heap.get?_push_of_some _ e, rfl⟩⟩
theorem kd_stack : KD stack := fun M Γ Q E p s h => ⟨h, Dk.refl _⟩
end
theorem wpAny_kd {α : Type} {t : Sem α} (k : KD t) {M : Model} {A : Around} {E : Value → Shared → Prop} {Q : α → Shared → Prop} {s : Shared} (h : wpAny M A t Q E s) : wpAny M A t (fun a s' => Q a s' ∧ Dk s.heap s'.heap) E s := fun Γ p hΓ =>
  Sem.wp_mono M Γ t (fun _ _ _ y => y) (fun _ _ _ y => y.1) p s (k M Γ _ _ p s (h Γ p hΓ))
theorem kd_field (v : Value) (i : Nat) : KD (field v i) := by
  unfold field fieldsOf
  refine kd_bind ?_ fun vs => ?_
  · split
    · refine kd_bind (kd_load _ _) fun o => ?_
      split
      · exact kd_pure _
      · exact kd_unsup _
    · exact kd_unsup _
  · first
    | (split <;> first | exact kd_pure _ | exact kd_unsup _)
theorem map_dict (g : Array Value → Array Value) (o : Obj) : (Obj.mapFields g o).dict = o.dict ∧ (o.isFreed = false → (Obj.mapFields g o).isFreed = false) := by
  obtain ⟨c, d, dt, sl⟩ := o
  cases dt <;> exact ⟨rfl, fun z => z⟩
theorem kd_setField (v : Value) (i : Nat) (x : Value) : KD (setField v i x) := by
  unfold setField updateField
  split
  · refine kd_bind (kd_load _ _) fun o => ?_
    split
    · split
      · exact kd_update _ _ (map_dict _)
      · exact kd_unsup _
    · exact kd_unsup _
  · exact kd_unsup _
theorem kd_setFlight (e : Value) (f : Option Addr) : KD (setFlight e f) := by
  unfold setFlight
  refine kd_bind (kd_field _ _) fun tb => ?_
  split
  · exact kd_setField _ _ _
  · exact kd_pure _
theorem kd_behind (env : Env) (outer : List Env) : KD (behindIsImport env outer) := by
  unfold behindIsImport
  split
  · exact kd_pure _
  · split
    · exact kd_pure _
    · exact kd_bind (kd_field _ _) fun _ => kd_pure _
theorem kd_under : KD underTheClaimsCaller := by
  unfold underTheClaimsCaller
  exact kd_bind kd_stack fun _ => kd_pure _
theorem kd_kept (env : Env) (b : Bool) (l : List Env) : KD (keptBack env b l) := by
  unfold keptBack
  split
  · split
    · exact kd_pure _
    · exact kd_bind kd_under fun _ => kd_pure _
  · exact kd_pure _
theorem kd_ready : ∀ l : List Env, KD (readyFrames l)
  | [] => kd_pure _
  | env :: outer => by
    unfold readyFrames
    split
    · refine kd_bind (kd_load _ _) fun o => ?_
      split
      · exact kd_pure _
      · refine kd_bind (kd_behind _ _) fun b => kd_bind (kd_kept _ _ _) fun v => kd_bind (kd_update _ _ fun o => ⟨rfl, fun z => by obtain ⟨c, d, dt, sl⟩ := o; cases dt <;> exact z⟩) fun _ => kd_ready outer
    · exact kd_unsup _
theorem kd_frameObject (l : List Env) : KD (frameObject l) := by
  unfold frameObject
  split
  · exact kd_pure _
  · exact kd_bind (kd_ready _) fun _ => kd_pure _
theorem kd_frameEnvs : KD frameEnvs := by
  unfold frameEnvs
  exact kd_bind kd_stack fun _ => kd_pure _
theorem kd_frameOf (env : Env) : KD (PySem.frameOf env) := by
  unfold PySem.frameOf
  refine kd_bind kd_frameEnvs fun l => kd_bind (kd_frameObject _) fun r => ?_
  split
  · exact kd_pure _
  · exact kd_unsup _
theorem kd_place (f : Addr) (b : Bool) : KD (entryPlaceOf f b) := by
  unfold entryPlaceOf
  refine kd_bind kd_stack fun l => ?_
  split
  · exact kd_pure _
  · exact kd_pure _
theorem kd_newEntry (a b c d e : Value) (pl : List Value) : KD (EntryCells.newEntry a b c d e pl) := by
  unfold EntryCells.newEntry newFields newObj newObjAsIs
  generalize ([a, b, c, d, e] ++ if pl.isEmpty = true then List.replicate 6 Value.none else pl).toArray = ws
  dsimp only
  split
  · exact kd_bind (kd_unsup _) fun _ => kd_bind (kd_alloc _) fun _ => kd_pure _
  · exact kd_bind (kd_alloc _) fun _ => kd_pure _
theorem kd_note (e : Value) (env : Env) : KD (noteFrame e env) := by
  unfold noteFrame
  split
  · refine kd_bind (kd_field _ _) fun hd => ?_
    dsimp only
    split
    · refine kd_bind (kd_field _ _) fun x => ?_
      split
      · exact kd_pure _
      · exact kd_bind (kd_setField _ _ _) fun _ => kd_bind (kd_frameOf _) fun _ => kd_bind (kd_place _ _) fun _ => kd_bind (kd_newEntry _ _ _ _ _ _) fun _ => kd_setField _ _ _
    · exact kd_bind (kd_frameOf _) fun _ => kd_bind (kd_place _ _) fun _ => kd_bind (kd_newEntry _ _ _ _ _ _) fun _ => kd_setField _ _ _
  · exact kd_unsup _
theorem kd_leaving (env : Env) (e : Value) : KD (leaving env e) := kd_bind (kd_note e env) fun _ => kd_setFlight e none
end L2
namespace L2
open PySem PySem.Spec PyProof.Rows PySem.W
def DictIs (h : Heap) (a : Addr) (dd : Option Addr) : Prop := ∃ o, h.get? a = some o ∧ o.dict = dd
theorem DictIs.dk {h h' : Heap} {a : Addr} {dd : Option Addr} (d : DictIs h a dd) (k : Dk h h') : DictIs h' a dd :=
  let ⟨o, e, q⟩ := d; let ⟨o', e', q'⟩ := k a o e; ⟨o', e', q'.trans q⟩
def CX2 (P : Program) (w : World) : CXT := fun outer H s E e s' => ∃ (a C t : Addr) (H' : Hp) (B : Heap) (dd : Option Addr), e = .ref a ∧ s'.os = s.os ∧ AllBare s'.gens ∧ Fly P w outer H H' s.heap B a (.ref C) (.ref t) s'.heap ∧ DictIs s'.heap a dd ∧ E (.ref C) dd H'
def del (H : Hp) (a : Addr) : Hp := fun b => if b = a then none else H b
theorem del_same {H : Hp} {a : Addr} : del H a a = none := by unfold del; rw [if_pos rfl]
theorem del_ne {H : Hp} {a b : Addr} (h : b ≠ a) : del H a b = H b := by unfold del; rw [if_neg h]
def RzF (X : Cx) (E : XK) : Prop := ∀ (pins : List (Addr × Obj)) (σ : St) (H : Hp) (s : Shared) (a C : Addr) (dx : Option Addr), Inv X pins σ H s → X.s₀.heap.objs.size ≤ a → H a = some (.ext (XP C a dx)) → E (.ref C) dx (del H a) → X.xe (.ref a) s
section
variable {P : Program} {w : World} {K : PySem.W.Frag} {mg : Str → Option Value} {base : Heap} {N : List Str} {qual : Str} {scope : Scope} {f : Addr} {cd : Value} {A : Around} {outer : List Env} {s₀ : Shared} {H₀ : Hp} {E : XK}
theorem rzF_cx : RzF (cxOf (CX2 P w) P w K mg base N qual scope f cd A outer s₀ H₀ E) E := by
  intro pins σ H s a C dx I ha0 hHa hE
  let env := envOfC qual scope s₀.heap.objs.size f cd
  have hf : env.frame = some s₀.heap.objs.size := rfl
  have ha1 : s₀.heap.objs.size ≤ a := ha0
  obtain ⟨⟨t0, hg⟩, _, _⟩ := I.hok a _ hHa
  have hst := I.stack
  have nfa : a ∉ frs (env :: outer) := fun hb => by
    have := I.stkFree a hb
    rw [this] at hHa
    cases hHa
  let hid := a :: frs (env :: outer)
  have hBs : (hideAll s.heap hid).StaysIn s.heap := fun b o q => of_hideAll _ q
  have hin : ∀ v ∈ (env :: outer), ∀ b, v.frame = some b → b ∈ hid := fun v hv b hb => List.mem_cons_of_mem _ (List.mem_filterMap.mpr ⟨v, hv, hb⟩)
  have hFF : s.heap.FunFrames (hideAll s.heap hid) (env :: outer) := funFrames_hide hst hin
  have hBa : (hideAll s.heap hid).get? a = none := hideAll_none _ List.mem_cons_self
  show wpAny _ _ (leaving env (.ref a)) _ _ _
  have lib := wpAny_leaving_firstW (M := model P w) (A := (cxOf (CX2 P w) P w K mg base N qual scope f cd A outer s₀ H₀ E).A) (E := fun _ _ => False) (s := s) (Q := fun _ s' => ∃ h', s' = { s with heap := h' } ∧ Heap.LeftW (hideAll s.heap hid) (env :: outer) a (.ref C) (.ref t0) s.heap h') (I.ok.frames) hFF hf hg hBs hBa rfl rfl rfl fun h' L => ⟨h', rfl, L⟩
  refine wpAny_mono (wpAny_kd (kd_leaving env (.ref a)) lib) (fun _ s' z => ?_) fun _ _ z => z.elim
  obtain ⟨⟨h2, rfl, k1, ⟨_, _, k2⟩, k3, x4⟩, dk⟩ := z
  have ni : ∀ b o, s₀.heap.get? b = some o → b ∉ frs outer → b ∉ hid := fun b o q nb hb => by
    rcases List.mem_cons.mp hb with z | z
    · exact absurd (Heap.lt_size q) (by rw [z]; exact Nat.not_lt.mpr ha1)
    · rcases (mem_frs_cons hf).mp z with z | z
      · exact absurd (Heap.lt_size q) (by rw [z]; exact Nat.lt_irrefl _)
      · exact nb z
  refine ⟨a, C, t0, del H a, _, dx, rfl, I.os, I.bare, ⟨fun b o q n nb => ?_, fun b o q nb => ?_, fun b o q hb => ?_, fun b o q n => ?_, fun b xs q => ?_, fun b o u q => ?_, fun b ps q => ?_, fun b u q => ?_, ⟨k1, hBa, k2, k3⟩⟩, DictIs.dk ⟨_, hg, rfl⟩ dk, hE⟩
  · exact hideAll_get _ (I.base.keep b o q n nb (by intro z; cases z)) (ni b o q nb)
  · obtain ⟨o', q'⟩ := I.base.there b o q (by intro z; cases z)
    exact ⟨o', hideAll_get _ q' (ni b o q nb)⟩
  · obtain ⟨sl, q'⟩ := I.base.slot b o q (I.ok.frf b hb) hb (by intro z; cases z)
    obtain ⟨_, o', ho', hn⟩ := hst.mem ((mem_frs_cons hf).mpr (.inr hb))
    rw [q'] at ho'
    have e1 := Option.some.inj ho'
    obtain ⟨sl', q2⟩ := x4 b _ q' (by rw [e1]; exact hn)
    exact ⟨sl', q2⟩
  · have := I.base.free b o q n (by intro z; cases z)
    unfold del
    split
    · rfl
    · exact this
  · have := I.base.tups b xs q
    rw [del_ne (ne_of this hHa (by intro z; cases z))]
    exact this
  · have := I.base.frzs b o u q
    rw [del_ne (ne_of this hHa (by intro z; cases z))]
    exact this
  · obtain ⟨m1, e1⟩ := I.base.tbls b ps q
    exact ⟨m1, by rw [del_ne (ne_of e1 hHa (by intro z; cases z))]; exact e1⟩
  · have hba : b ≠ a := fun z => by subst z; rw [del_same] at q; cases q
    rw [del_ne hba] at q
    have nf : ∀ c v, H c = some v → c ≠ a → c ∉ hid := fun c v q' hca hb => by
      rcases List.mem_cons.mp hb with z | z
      · exact hca z
      · have := I.stkFree c z
        rw [this] at q'
        cases q'
    have no : ∀ c, H c = some (.own b) → c ≠ a := fun c q' => ne_of q' hHa (by intro z; cases z)
    refine (I.hok b u q).stay (fun c v hc q' => hideAll_get _ q' ?_) (fun c q' => by rw [del_ne (no c q')]; exact q') fun c xs q' => by rw [del_ne (ne_of q' hHa (by intro z; cases z))]; exact q'
    rcases hc with z | z
    · rw [z]; exact nf b u q hba
    · exact nf c _ z (no c z)
theorem passes2 : Passes (CX2 P w) (cxOf (CX2 P w) P w K mg base N qual scope f cd A outer s₀ H₀ E) E := by
  intro pins σ H s e s' I hc
  obtain ⟨a, C, t, H', B, dd, rfl, ho, hb, F, hdd, hE⟩ := hc
  let env := envOfC qual scope s₀.heap.objs.size f cd
  have hf : env.frame = some s₀.heap.objs.size := rfl
  have F' : Fly P w (env :: outer) H H' s.heap B a (.ref C) (.ref t) s'.heap := F
  show wpAny _ _ (leaving env (.ref a)) _ _ _
  have lib := wpAny_leaves_onW (M := model P w) (A := (cxOf (CX2 P w) P w K mg base N qual scope f cd A outer s₀ H₀ E).A) (E := fun _ _ => False) (s := s')
    (Q := fun _ s2 => ∃ h2, s2 = { s' with heap := h2 } ∧ Heap.FlyingW B outer a (.ref C) (.ref t) h2 ∧ s'.heap.UpToSlots h2) (I.ok.frames) hf F'.fly fun h2 x1 x4 => ⟨h2, rfl, x1, x4⟩
  refine wpAny_mono (wpAny_kd (kd_leaving env (.ref a)) lib) (fun _ s2 z => ?_) fun _ _ z => z.elim
  obtain ⟨⟨h2, rfl, x1, x4⟩, dk⟩ := z
  have ni : ∀ b o, s₀.heap.get? b = some o → b ∉ frs outer → b ∉ frs (env :: outer) := fun b o q nb hb => by
    rcases (mem_frs_cons hf).mp hb with z | z
    · exact absurd (Heap.lt_size q) (by rw [z]; exact Nat.lt_irrefl _)
    · exact nb z
  refine ⟨a, C, t, H', B, dd, rfl, ho.trans I.os, hb, ⟨fun b o q n nb => ?_, fun b o q nb => ?_, fun b o q hb => ?_, fun b o q n => ?_, fun b xs q => F'.tups b xs (I.base.tups b xs q), fun b o u q => F'.frzs b o u (I.base.frzs b o u q), fun b ps q => ?_, F'.hok, x1⟩, hdd.dk dk, hE⟩
  · exact F'.keep b o (I.base.keep b o q n nb (by intro z; cases z)) (I.base.free b o q n (by intro z; cases z)) (ni b o q nb)
  · obtain ⟨o', q'⟩ := I.base.there b o q (by intro z; cases z)
    exact F'.there b o' q' (ni b o q nb)
  · obtain ⟨sl, q'⟩ := I.base.slot b o q (I.ok.frf b hb) hb (by intro z; cases z)
    obtain ⟨sl2, q2⟩ := F'.slot b _ q' ((mem_frs_cons hf).mpr (.inr hb))
    obtain ⟨_, o', ho', hn⟩ := F'.fly.2.2.1.mem ((mem_frs_cons hf).mpr (.inr hb))
    rw [q2] at ho'
    have e1 := Option.some.inj ho'
    obtain ⟨sl', q3⟩ := x4 b _ q2 (by rw [e1]; exact hn)
    exact ⟨sl', q3⟩
  · obtain ⟨o', q'⟩ := I.base.there b o q (by intro z; cases z)
    exact F'.free b o' q' (I.base.free b o q n (by intro z; cases z))
  · obtain ⟨m1, e1⟩ := I.base.tbls b ps q
    obtain ⟨m2, e2⟩ := F'.tbls b _ e1
    exact ⟨m1 ++ m2, by rw [e2, Array.append_assoc]⟩
theorem Fun.okF {x qual : Str} {st : Stmt} {f : Addr} {fd : FuncData} {N ps : List Str} {k : Nat} {sp : Sp} (F : Fun K x qual st f fd) (S : FnScope N ps (defScope st)) (len : ∀ vs H Q E, sp vs H Q E → vs.length = ps.length)
    (hbody : ∀ (cdv : Value) (A : Around) (outer : List Env) (s : Shared) (H : Hp) (vs : List V) (Q : VK) (E : XK), Room k (A.deeper (envOfC qual (defScope st) s.heap.objs.size f cdv)) → sp vs H Q E →
      ∃ t, PSs (cxOf (CX2 P w) P w K mg base N qual (defScope st) f cdv A outer s H E) (defBody st) t ∧ t { nx := fun _ H' => Q .non H', rt := Q } (start N vs) H) : FnOk P w K mg base (CX2 P w) (k + 1) f fd ps sp := by
  obtain ⟨oc, od, kV, doc, pm, an, cdv, ct, osl, rfl, lk, hcd⟩ := F.ex
  exact fn_of lk hcd S len fun A outer s H vs Q E hr hsp => hbody cdv A outer s H vs Q E hr hsp
end
theorem pe_chF {X : Cx} {x : Str} {k : Nat} {ps : List Str} {sp : Sp} {e : Expr} {es : List Expr} {t : TA} {p pos : Pos} {E : XK} (h : Has X.prog X.w X.K X.mg X.base (CX2 X.prog X.w) x k ps sp) (hx : Passes (CX2 X.prog X.w) X E) (hr : Room k X.A) (hg : Gl X x) (ha : PA X (e :: es) t) (hdb : (x == ("__debug__" : Str)) = false := by decide)
    (he : starEach (e :: es) X.env = (false, eval e X.env) :: starEach es X.env := by rfl) (hpl : (backTo pos (starEach es X.env)).any (·.1) = false := by rfl) :
    PE X (.Call (.Name x p) (e :: es) [] pos) (tCall sp [] E t) := by
  obtain ⟨f, fd, F, b, kp, m⟩ := h.ex
  exact pe_call F hr hg m kp b .nil hx ha hdb he hpl
theorem passNF {P : Program} {w : World} {X : Cx} : Passes (CX2 P w) X E0 := fun _ _ _ _ _ _ _ ⟨_, _, _, _, _, _, _, _, _, _, _, h⟩ => h.elim
section
variable {M : Model} {A : Around} {E : Value → Shared → Prop} {env : Env} {nm qn : Str} {C Nc : Addr} {bs bm : List Value} {hdct : Bool} {sn : List Str} {sub : List Value} {ab : Bool} {col : Option Bool} {dd : Option Addr} {k0 k1 k2 k3 k5 : Option Value} {newId : String}
theorem raise_obj {s : Shared} {x : Sem Value} {Q : Flow → Shared → Prop} (hb : bm.contains (.type "BaseException") = true) (hh : A.handled = none)
    (h : wpAny M A x (fun v s1 => ∃ e t0 dx, v = .ref e ∧ s1.heap.get? C = some (excClassObj nm qn C Nc bs bm hdct sn sub ab col dd k0 k1 k2 k3 k5 newId) ∧
      s1.heap.get? e = some { cls := .ref C, dict := dx, data := .fields #[.ref t0, .none, .none, .none, .bool false, .none] } ∧ E (.ref e) s1) E s) : wpAny M A (raiseStmt env (some x) none) Q E s := by
  have hB : (Value.ref C :: bm).contains (.type "BaseException") = true := by rw [List.contains_cons, hb, Bool.or_true]
  unfold raiseStmt
  refine wpAny_bind (wpAny_mono h (fun v s1 z => ?_) fun _ _ z => z)
  obtain ⟨e, t0, dx, rfl, gC, ge, hE⟩ := z
  obtain ⟨hp, g, d, tk, os⟩ := s1
  repeat (first | with_reducible refine wpAny_loadPart_at ge ?_ | (with_reducible refine wpAny_isSubtype_exc gC ?_; rw [hB]) | with_reducible refine wpAny_loadPart_at gC ?_ | wp_step)
  exact wpAny_raiseNew_none hh hE
end
def tRaiseF (C : Addr) (fs : List Str) (E : XK) (t : TA) : TS := fun _ σ H => t σ H fun vs H1 => vs.length = fs.length ∧ ∀ dx H2, H1 dx = none → Same H1 H2 → H2 dx = some (.ext (XD dx (fs.zip vs))) → E (.ref C) (some dx) H2
section
variable {X : Cx} {C : Addr} {fs : List Str} {x : Str} {np cpos pos : Pos} {e : Expr} {es : List Expr} {t : TA} {E : XK}
theorem ps_raiseF (hz : RzF X E) (M : NewX X.prog X.w X.K X.mg X.base C fs) (hr : Room 2 X.A) (hg : Gl X x) (hm : X.mg x = some (.ref C)) (hc : X.calm = true) (ha : PA X (e :: es) t) (hdb : (x == ("__debug__" : Str)) = false := by decide)
    (he : starEach (e :: es) X.env = (false, eval e X.env) :: starEach es X.env := by rfl) (hpl : (backTo cpos (starEach es X.env)).any (·.1) = false := by rfl) :
    PS X (.Raise (some (.Call (.Name x np) (e :: es) [] cpos)) none pos) (tRaiseF C fs E t) := by
  intro pins s σ H D I h
  obtain ⟨f, fd, M', F', b⟩ := M.ini
  obtain ⟨bm, N, nm, qn, bs, sn, sub, ab, col, dd, k0, k1, k2, k3, k5, mN, hC, hn, T, _⟩ := excI_of I.mod.kin M'.ex
  rw [arm_exec_Raise]
  refine wpAny_bind (wpAny_standAt (raise_obj (C := C) (nm := nm) (qn := qn) (Nc := N) (bs := bs) (bm := bm) (hdct := true) (sn := sn) (sub := sub) (ab := ab) (col := col) (dd := dd) (k0 := k0) (k1 := k1) (k2 := k2) (k3 := k3) (k5 := k5) (newId := "ValueError.__new__") (T.hasType (X := "BaseException") (b := true) (by decide)) (I.ok.hd hc) ?_))
  refine wpAny_bind (wpAny_mono (?_ : wpAny (model X.prog X.w) X.A (eval (.Call (.Name x np) (e :: es) [] cpos) X.env) _ X.xe s) (fun v s1 z => wpAny_bind (wpAny_standAt (wpAny_pure z))) fun _ _ z => z)
  refine wpAny_Call_Name_kw (ld_glob I hg hm ?_ hdb)
  refine PySem.W.callWith_K (h₀ := X.base) I.ok.mod.kin M'.kp (thn (ha cpos pins s σ H _ I h) fun us s1 ⟨vs, H1, I1, r, hl, q⟩ => ⟨I1.kIn, ?_⟩) he hpl
  refine wpAny_mono (run_makeX (dvs := []) M' F' hr b .nil pass0 I1 r (by rw [hl, sizeLine_eq]; have := M.le; omega) (Q := fun v H2 => ∃ a dx, v = .ref a ∧ s1.heap.objs.size ≤ a ∧ H2 a = some (.ext (XP C a (some dx))) ∧ E (.ref C) (some dx) (del H2 a)) fun a hsz hn' => ⟨a, C, vs ++ [], rfl, by rw [List.append_nil]; exact hl, M.s, M.no, upd_same, fun dx hd hda => ⟨rfl, a, dx, rfl, hsz, upd_same, ?_⟩⟩) (fun u s' z => ?_) fun _ _ z => z
  · rw [upd_ne hda] at hd
    refine q dx _ hd (fun c o z => ?_) ?_
    · rw [del_ne (ne_of_none z hn'), upd_ne (ne_of_none z hn'), upd_ne (ne_of_none z hd), upd_ne (ne_of_none z hn')]
      exact z
    · rw [del_ne hda, upd_ne hda, upd_same, List.append_nil]
  · obtain ⟨v, H2, I2, rv, a, dx, rfl, hsz, hHa, hE⟩ := z
    cases rv
    obtain ⟨⟨t0, g0⟩, _, _⟩ := I2.hok a _ hHa
    exact ⟨a, t0, _, rfl, I2.bk _ _ hC, g0, hz pins σ H2 s' a C (some dx) I2 (Nat.le_trans I1.sz hsz) hHa hE⟩
end
end L2
namespace L2
open PySem PySem.Spec PyProof.Rows
def XcD (C a : Addr) (dd : Option Addr) : Heap → Prop := fun h => ∃ o vs, h.get? a = some o ∧ o.cls = .ref C ∧ o.data = .fields vs ∧ o.dict = dd
theorem xcd_exc {C a : Addr} {dd : Option Addr} (h : Heap) (p : XcD C a dd h) : ExcAt C a h := let ⟨o, vs, q1, q2, q3, _⟩ := p; ⟨o, vs, q1, q2, q3⟩
theorem xcd_xg {C a dx : Addr} (h : Heap) (p : XcD C a (some dx) h) : XG C a dx h := let ⟨o, vs, q1, q2, q3, q4⟩ := p; ⟨o, vs, q1, q2, q4, q3⟩
def handF (K : PySem.W.Frag) (CW : Addr) (i : Nat) (tb : TS) (D : Ends) (σ : St) : XK := fun cls dd H2 => ∃ C, cls = .ref C ∧ PySem.W.mroIn K C (.ref CW) = some true ∧
  ∀ a, H2 a = none → tb { nx := fun σ' H' => D.nx (σ'.set i none) H', rt := D.rt, bk := fun σ' H' => D.bk (σ'.set i none) H', ct := fun σ' H' => D.ct (σ'.set i none) H' } (σ.set i (some (.ref a))) (upd H2 a (.ext (XcD C a dd)))
section
variable {X : Cx} {CW : Addr} {cx n : Str} {i : Nat} {b₀ : Stmt} {suite : List Stmt} {np hpos pos : Pos} {tb : TS}
theorem caught2 {pins : List (Addr × Obj)} {σ : St} {H : Hp} {s s1 : Shared} {D : Ends} {e : Value} (hst : X.stack = X.env :: X.outer) (hf : X.env.frame = some X.env.locals) (hg : Gl X cx) (hm : X.mg cx = some (.ref CW)) (q : PySem.W.ktsIn X.K CW "BaseException" = true)
    (hN : X.N.Nodup) (hi : X.N[i]? = some n) (hk : X.env.kindOf n = some .local) (hs : ∀ a E, PSs (X.hand a E) (b₀ :: suite) tb) (hd : (cx == ("__debug__" : Str)) = false) (hex : X.ex = [])
    (I : Inv X pins σ H s) (hc : CX2 X.prog X.w X.stack H s (handF X.K CW i tb D σ) e s1) :
    wpAny (model X.prog X.w) X.A (noteFrame e X.env) (fun _ s₂ => wpAny (model X.prog X.w) X.A (setFlight e none) (fun _ s₃ =>
      wpAny (model X.prog X.w) X.A (handleBy e X.env [.ExceptHandler (some (.Name cx np)) (some n) (b₀ :: suite) hpos]) (SP X pins D) X.xe s₃) X.xe s₂) X.xe s1 := by
  obtain ⟨a, C, t, H', B, dd, rfl, ho, hb, F, hdd, C', hC', hsub, hE⟩ := hc
  cases hC'
  have hfr : X.A.frames = some (X.env :: X.outer) := by rw [← hst]; exact I.ok.frames
  have F0 : Fly X.prog X.w (X.env :: X.outer) H H' s.heap B a (.ref C) (.ref t) s1.heap := by rw [← hst]; exact F
  have lib1 := wpAny_looks_onW (M := model X.prog X.w) (A := X.A) (E := X.xe) (s := s1) (Q := fun _ s' => ∃ h4, s' = { s1 with heap := h4 } ∧ Heap.HeldW B (X.env :: X.outer) a (.ref C) (.ref t) X.env.locals h4 ∧ s1.heap.UpToSlots h4) hfr hf F0.fly fun h4 held4 sm4 => ⟨h4, rfl, held4, sm4⟩
  refine wpAny_mono (wpAny_kd (kd_note (.ref a) X.env) lib1) (fun _ s4 z4 => ?_) fun _ _ z => z
  obtain ⟨⟨h4, rfl, held4, sm4⟩, dk4⟩ := z4
  have lib2 := wpAny_landsW (M := model X.prog X.w) (A := X.A) (E := X.xe) (s := { s1 with heap := h4 }) (Q := fun _ s' => ∃ h5, s' = { s1 with heap := h5 } ∧ Heap.FlyingW B (X.env :: X.outer) a (.ref C) (.ref t) h5 ∧ h4.UpToSlots h5) held4 fun h5 fl5 sm5 => ⟨h5, rfl, fl5, sm5⟩
  refine wpAny_mono (wpAny_kd (kd_setFlight (.ref a) none) lib2) (fun _ s5 z5 => ?_) fun _ _ z => z
  obtain ⟨⟨h5, rfl, fl5, sm5⟩, dk5⟩ := z5
  have hd5 : DictIs h5 a dd := (hdd.dk dk4).dk dk5
  have inv : ∀ (h : Heap) (tk : Nat), Heap.FlyingW B (X.env :: X.outer) a (.ref C) (.ref t) h → s1.heap.UpToSlots h → Inv X pins σ H' { s1 with heap := h, toks := tk } := fun h tk fl sm => by
    have Fh := F0.on fl sm
    refine I.call' (ch := []) ho (by rw [hst]; exact Fh.un) Fh.hokh hb (fun b z => nomatch z)
  have I5 := inv h5 s1.toks fl5 (sm4.trans sm5)
  obtain ⟨oe, vs, g1, g2, g3, g4⟩ := fl5.first
  refine wpAny_handleBy_cons (codeAny_handlers_test ?_) (by intro q; cases q)
  refine ld_glob (X := X.hand a fun _ _ => False) (I5.hand a _) hg hm ?_ hd
  refine excMatches_K I5.kIn g1 g2 q hsub (codeAny_handlers_suite_as ?_)
  have lib3 : ∀ A3 : Around, wpAny (model X.prog X.w) A3 (setFlight (.ref a) none) (fun _ s' => ∃ h6, s' = { s1 with heap := h6 } ∧ Heap.FlyingW B (X.env :: X.outer) a (.ref C) (.ref t) h6 ∧ h5.UpToSlots h6) (fun _ _ => False) { s1 with heap := h5 } := fun A3 => lands_againW (s := { s1 with heap := h5 }) fl5 fun h6 fl6 sm6 => ⟨h6, rfl, fl6, sm6⟩
  refine wpAny_mono (wpAny_kd (kd_setFlight (.ref a) none) (lib3 _)) (fun _ s6 z6 => ?_) fun _ _ z => z.elim
  obtain ⟨⟨h6, rfl, fl6, sm6⟩, dk6⟩ := z6
  obtain ⟨od6, gd6, qd6⟩ : DictIs h6 a dd := hd5.dk dk6
  have I6 := inv h6 s1.toks fl6 ((sm4.trans sm5).trans sm6)
  obtain ⟨oe, vs, g1, g2, g3, g4⟩ := fl6.first
  have nH : H' a = none := F0.new
  have nB : B.get? a = none := fl6.2.1
  have nf : a ∉ frs (X.env :: X.outer) := fun hm => by
    obtain ⟨_, o, ho', hn'⟩ := fl6.2.2.1.mem hm
    rw [g1] at ho'
    cases ho'
    exact hn' _ g3
  have hL : a ≠ X.env.locals := fun z => nf ((mem_frs_cons hf).mpr (.inl z))
  have hfs : a ∉ X.fs := fun z => nf ((mem_frs_cons hf).mpr (.inr z))
  have old : ∀ b o, s.heap.get? b = some o → b ≠ a := fun b o e z => by
    subst z
    obtain ⟨o', e'⟩ := F0.there b o e nf
    rw [nB] at e'
    cases e'
  have h1 : X.s₀.heap.get? a = none := by
    cases e : X.s₀.heap.get? a with
    | none => rfl
    | some o =>
      obtain ⟨o', e'⟩ := I.base.there a o e (by rw [hex]; exact fun z => nomatch z)
      exact absurd rfl (old a o' e')
  have hcc : ∀ x c, X.env.cells.lookup x = some c → c ≠ a := fun x c e z => by
    obtain ⟨v, o, ho', hd'⟩ := I6.cell x c e
    have ho2 : h6.get? c = some o := ho'
    rw [z, g1] at ho2
    cases ho2
    rw [g3] at hd'
    cases hd'
  have hpp : ∀ p ∈ X.pn ++ pins, p.1 ≠ a := fun p hp z => by
    have := (I.pin p hp).1
    exact old _ _ this z
  have qd : oe.dict = dd := by
    have z : h6.get? a = some oe := g1
    rw [gd6] at z
    cases z
    exact qd6
  have I7 := I6.adopt (φ := XcD C a dd) nH h1 hL hfs hcc hpp ⟨⟨oe, vs, g1, g2, g3, qd⟩, ⟨oe, g1⟩, fun u v ⟨o, ws, q1, q2, q3, q4⟩ k => ⟨o, ws, k o q1, q2, q3, q4⟩⟩
  refine store_ok2 I7 hN hi (.inl hk) (v := .ref a) rfl (fun s8 I8 _ => ?_) (.inr hk)
  refine wpAny_mono (hs a _ pins s8 _ _ _ (I8.hand a _) (hE a nH)) (fun fl s9 h9 => ?_) (fun _ _ z => z)
  cases fl with
  | next =>
    obtain ⟨σ', H9, I9, q9⟩ := h9
    exact go_ok (I9.unhand I.ok) hN hi hk fun s' I' => ⟨_, H9, I', q9⟩
  | brk =>
    obtain ⟨σ', H9, I9, q9⟩ := h9
    exact go_ok (I9.unhand I.ok) hN hi hk fun s' I' => ⟨_, H9, I', q9⟩
  | cont =>
    obtain ⟨σ', H9, I9, q9⟩ := h9
    exact go_ok (I9.unhand I.ok) hN hi hk fun s' I' => ⟨_, H9, I', q9⟩
  | ret u =>
    obtain ⟨v, σ', H9, I9, r9, q9⟩ := h9
    exact go_ok (I9.unhand I.ok) hN hi hk fun s' I' => ⟨v, _, H9, I', r9, q9⟩
def tTryF (K : PySem.W.Frag) (CW : Addr) (i : Nat) (sp : Sp) (t : TA) (tb : TS) : TS := fun D σ H => t σ H fun vs H1 => sp (vs ++ []) H1 (fun _ H2 => D.nx σ H2) (handF K CW i tb D σ)
theorem ps_tryF {x : Str} {k : Nat} {ps : List Str} {sp : Sp} {e : Expr} {es : List Expr} {t : TA} {p cpos epos : Pos} (h : Has X.prog X.w X.K X.mg X.base (CX2 X.prog X.w) x k ps sp) (hr : Room k X.A) (hgf : Gl X x) (ha : ∀ E, PA (X.wish E) (e :: es) t)
    (hg : Gl X cx) (hm : X.mg cx = some (.ref CW)) (q : PySem.W.ktsIn X.K CW "BaseException" = true) (hN : X.N.Nodup) (hi : X.N[i]? = some n) (hk : X.env.kindOf n = some .local) (hs : ∀ a E, PSs (X.hand a E) (b₀ :: suite) tb)
    (hst : X.stack = X.env :: X.outer := by rfl) (hf : X.env.frame = some X.env.locals := by rfl) (hex : X.ex = [] := by rfl) (hd : (cx == ("__debug__" : Str)) = false := by decide) (hdb : (x == ("__debug__" : Str)) = false := by decide)
    (he : starEach (e :: es) X.env = (false, eval e X.env) :: starEach es X.env := by rfl) (hpl : (backTo cpos (starEach es X.env)).any (·.1) = false := by rfl) (hsw : swapsWith (.Call (.Name x p) (e :: es) [] cpos) none epos.line X.env = pure false := by rfl) :
    PS X (.Try [.Expr (.Call (.Name x p) (e :: es) [] cpos) epos] [.ExceptHandler (some (.Name cx np)) (some n) (b₀ :: suite) hpos] [] [] pos) (tTryF X.K CW i sp t tb) := by
  intro pins s σ H D I hw
  obtain ⟨f, fd, F, b, kp, m⟩ := h.ex
  refine wpAny_Try_except ?_
  let Et : Value → Shared → Prop := fun e s₁ => wpAny (model X.prog X.w) X.A (noteFrame e X.env) (fun _ s₂ => wpAny (model X.prog X.w) X.A (setFlight e none) (fun _ s₃ => wpAny (model X.prog X.w) X.A (handleBy e X.env [.ExceptHandler (some (.Name cx np)) (some n) (b₀ :: suite) hpos]) (SP X pins D) X.xe s₃) X.xe s₂) X.xe s₁
  have ev : wpAny (model X.prog X.w) X.A (eval (.Call (.Name x p) (e :: es) [] cpos) X.env) (EP X pins σ fun _ H2 => D.nx σ H2) Et s := by
    refine wpAny_Call_Name_kw (ld_glob I hgf m ?_ hdb)
    refine PySem.W.callWith_K (h₀ := X.base) I.ok.mod.kin kp (thn (ha Et cpos pins s σ H _ (I.wish Et) hw) fun us s1 ⟨vs, H1, I1, r, q1⟩ => ⟨I1.kIn, ?_⟩) he hpl
    have I1' := I1.unwish
    have hl : (us ++ []).length = ps.length := by rw [← (r.append (show Vals [] [] from .nil)).length]; exact F.len _ _ _ _ q1
    refine wpAny_call (codeAny_mono (F.run X.A X.stack s1 H1 ⟨us, []⟩ (us ++ []) (vs ++ []) _ _ hr I1'.env0 (b s1 us I1'.kIn hl) (r.append .nil) q1) fun r s' hq => ?_)
    cases r with
    | error e => exact caught2 hst hf hg hm q hN hi hk hs hd hex I1' hq
    | ok fl =>
      cases fl with
      | ret u => exact I1'.after hq
      | next => exact False.elim hq
      | brk => exact False.elim hq
      | cont => exact False.elim hq
  have st : wpAny (model X.prog X.w) X.A (execs [.Expr (.Call (.Name x p) (e :: es) [] cpos) epos] X.env) (SP X pins D) Et s := by
    refine wpAny_execs_cons (thn (wpAny_Expr_any (Q := SP X pins D) (thn ev fun v s1 ⟨x, H1, I1, r1, q1⟩ => ⟨σ, H1, I1, q1⟩) I.quiet hsw) fun fl s1 h1 => ?_)
    cases fl with
    | next => exact wpAny_execs_nil h1
    | brk => exact h1
    | cont => exact h1
    | ret u => exact h1
  refine wpAny_mono st (fun fl s1 h1 => ?_) fun _ _ z => z
  cases fl with
  | next => exact wpAny_execs_nil h1
  | brk => exact h1
  | cont => exact h1
  | ret u => exact h1
end
end L2
namespace L2
open PySem PySem.Spec PyProof.Rows
section
variable {X : Cx} {CW : Addr} {cx : Str} {b₀ : Stmt} {suite : List Stmt} {np hpos pos : Pos} {tb : TS}
end
end L2
namespace L2
open PySem PySem.Spec PyProof.Rows PySem.W
def compPostP (M : Model) (A : Around) (E : Value → Shared → Prop) (Q : Value → Shared → Prop) (acc : Value) (cenv : Env) : Result → Shared → Prop := fun r s' => ∃ m, s'.heap.Ns cenv.locals m ∧ ∀ h', Heap.SameBut cenv.locals s'.heap h' →
  match r with
  | .ok _ => Q acc { s' with heap := h' }
  | .error x => wpAny M A (PySem.passOn "comprehension.variables-let-go" x cenv : Sem Value) (fun _ _ => False) E { s' with heap := h' }
theorem comp_free {M : Model} {A : Around} {E : Value → Shared → Prop} {s : Shared} {env : Env} {e : Expr} {scope : Scope} {pos : Pos} {newAcc first : Sem Value} {g : Comprehension} {gs : List Comprehension} {cl : List (Str × Addr)} {Q : Value → Shared → Prop}
    (hcl : clausesOf e = g :: gs) (hs : ∀ x, foldedSetIterable g.iter env x = pure x) (hclos : closureFor scope env = pure cl) (hkind : scope.kind = .function) (hnames : ∀ x ∈ scope.names, x.2 = NameKind.local → scope.names.lookup x.1 = some .local)
    (h : wpAny M A first (fun x s₁ => wpAny M A (pyIter x) (fun it s₂ => wpAny M A newAcc (fun acc s₃ => wpAny M A (newFunctionEnv scope env.globals cl [] env.qual none .none (some env)) (fun cenv s₄ =>
      codeAny M A (.compStart e 0 it acc { cenv with scope := relabel scope env }) (compPostP M A E Q acc { cenv with scope := relabel scope env }) s₄) E s₃) E s₂) E s₁) E s) :
    wpAny M A (comprehension e scope env pos newAcc false first none) Q E s := by
  unfold comprehension
  rw [hclos, hcl]
  refine wpAny_bind (wpAny_mono h (fun x s₁ h₁ => ?_) fun _ _ z => z)
  refine wpAny_bind (wpAny_standAt (wpAny_bind (wpAny_of_eq (hs x) (wpAny_bind (wpAny_holding (wpAny_mono h₁ (fun it s₂ h₂ => ?_) fun _ _ z => z))))))
  refine wpAny_standIf (wpAny_bind (wpAny_mono h₂ (fun acc s₃ h₃ => wpAny_bind (wpAny_pure (wpAny_bind (wpAny_mono h₃ (fun cenv s₄ h₄ => ?_) fun _ _ z => z)))) fun _ _ z => z))
  have hv : ∀ x ∈ (scope.names.filter fun (n, k) => (k == NameKind.local || k == NameKind.cell) && n != Str.ofString ".0").reverse, x.2 = NameKind.local → (relabel scope env).names.lookup x.1 = some .local := fun x hx hl =>
    lookup_relabel_local (hnames x (List.mem_filter.mp (List.mem_reverse.mp hx)).1 hl)
  refine wpAny_holding (wpAny_bind (wpAny_attempt (wpAny_holding (wpAny_run (codeAny_mono h₄ fun r s' hr => ?_)))))
  obtain ⟨m, hn, hr⟩ := hr
  cases r with
  | ok f => exact wpAny_bind (wpAny_holding (wpAny_comp_letGo hkind _ _ m hv hn fun h' m' _ sb => wpAny_pure (hr h' sb)))
  | error x =>
    refine wpAny_bind (wpAny_holding (wpAny_comp_letGo hkind _ _ m hv hn fun h' m' _ sb => ?_))
    exact wpAny_mono (hr h' sb) (fun _ _ z => z.elim) fun _ _ z => z
structure HeldX (h : Heap) (a C t T L : Addr) : Prop where
  ne : T ≠ a
  ex : ∃ oe vs oT ts, h.get? a = some oe ∧ oe.cls = .ref C ∧ vs[0]? = some (.ref t) ∧ oe.data = .fields vs ∧ vs[1]? = some (.ref T) ∧ h.get? T = some oT ∧ oT.data = .fields ts ∧ ts[3]? = some (rawInt L)
theorem HeldX.of {B : Heap} {l : List Env} {a C t L : Addr} {h : Heap} (x : B.HeldW l a (.ref C) (.ref t) L h) : ∃ T, HeldX h a C t T L ∧ B.get? T = none := by
  obtain ⟨_, _, _, oe, vs, T, oT, ts, h1, ⟨h2, h3⟩, h4, h5, h6, h7, h8, h9, h10⟩ := x
  exact ⟨T, ⟨h7, oe, vs, oT, ts, h1, h2, h3, h4, h5, h8, h9, h10⟩, h6⟩
theorem HeldX.eq {h h' : Heap} {a C t T L : Addr} (x : HeldX h a C t T L) (ha : h'.get? a = h.get? a) (hT : h'.get? T = h.get? T) : HeldX h' a C t T L := by
  obtain ⟨n, oe, vs, oT, ts, h1, h2, h3, h4, h5, h6, h7, h8⟩ := x
  exact ⟨n, oe, vs, oT, ts, ha.trans h1, h2, h3, h4, h5, hT.trans h6, h7, h8⟩
theorem HeldX.held {h : Heap} {a C t T L : Addr} {l : List Env} {base : Heap} (x : HeldX h a C t T L) (st : h.FunFrames base l) {hid : List Addr} (h1 : a ∈ hid) (h2 : T ∈ hid) (h3 : ∀ v ∈ l, ∀ b, v.frame = some b → b ∈ hid) : (hideAll h hid).HeldW l a (.ref C) (.ref t) L h := by
  obtain ⟨n, oe, vs, oT, ts, e1, e2, e3, e4, e5, e6, e7, e8⟩ := x
  exact ⟨fun b o q => of_hideAll _ q, hideAll_none _ h1, funFrames_hide st h3, oe, vs, T, oT, ts, e1, ⟨e2, e3⟩, e4, e5, hideAll_none _ h2, n, e6, e7, e8⟩
def PassHeld (X : Cx) (E : XK) : Prop := ∀ (pins : List (Addr × Obj)) (σ : St) (H : Hp) (s : Shared) (a C t T : Addr) (dd : Option Addr), Inv X pins σ H s → HeldX s.heap a C t T X.env.locals → DictIs s.heap a dd → H a = none → H T = none → X.s₀.heap.get? a = none → X.s₀.heap.get? T = none → E (.ref C) dd H → X.xe (.ref a) s
theorem note_held {M : Model} {A : Around} {E : Value → Shared → Prop} {s : Shared} {env : Env} {a C t T L : Addr} {Q : Unit → Shared → Prop} (hf : env.frame = some L) (x : HeldX s.heap a C t T L) (q : Q () s) : wpAny M A (noteFrame (.ref a) env) Q E s := by
  obtain ⟨n, oe, vs, oT, ts, e1, e2, e3, e4, e5, e6, e7, e8⟩ := x
  unfold noteFrame
  rw [hf]
  refine wpAny_bind (wpAny_field e1 e4 e5 ?_)
  rw [if_pos (by rfl)]
  refine wpAny_bind (wpAny_field e6 e7 e8 ?_)
  rw [if_pos (by simp)]
  exact wpAny_pure q
section
variable {P : Program} {w : World} {K : PySem.W.Frag} {mg : Str → Option Value} {base : Heap} {N : List Str} {qual : Str} {scope : Scope} {f : Addr} {cd : Value} {A : Around} {outer : List Env} {s₀ : Shared} {H₀ : Hp} {E : XK}
theorem passHeld_cx : PassHeld (cxOf (CX2 P w) P w K mg base N qual scope f cd A outer s₀ H₀ E) E := by
  intro pins σ H s a C t T dd I hx hdd hHa hHT h0a h0T hE
  let env := envOfC qual scope s₀.heap.objs.size f cd
  have hf : env.frame = some s₀.heap.objs.size := rfl
  have hst := I.stack
  let hid := a :: T :: frs (env :: outer)
  have hin : ∀ v ∈ (env :: outer), ∀ b, v.frame = some b → b ∈ hid := fun v hv b hb => List.mem_cons_of_mem _ (List.mem_cons_of_mem _ (List.mem_filterMap.mpr ⟨v, hv, hb⟩))
  have held : (hideAll s.heap hid).HeldW (env :: outer) a (.ref C) (.ref t) s₀.heap.objs.size s.heap := hx.held hst List.mem_cons_self (List.mem_cons_of_mem _ List.mem_cons_self) hin
  show wpAny _ _ (leaving env (.ref a)) _ _ _
  have lib : wpAny (model P w) (cxOf (CX2 P w) P w K mg base N qual scope f cd A outer s₀ H₀ E).A (leaving env (.ref a)) (fun _ s' => ∃ h', s' = { s with heap := h' } ∧ (hideAll s.heap hid).FlyingW (env :: outer) a (.ref C) (.ref t) h' ∧ s.heap.UpToSlots h') (fun _ _ => False) s := by
    unfold leaving
    refine wpAny_bind (note_held hf hx ?_)
    exact wpAny_landsW held fun h' x1 x2 => ⟨h', rfl, x1, x2⟩
  refine wpAny_mono (wpAny_kd (kd_leaving env (.ref a)) lib) (fun _ s' z => ?_) fun _ _ z => z.elim
  obtain ⟨⟨h2, rfl, k1, x4⟩, dk⟩ := z
  have fl : (hideAll s.heap hid).FlyingW outer a (.ref C) (.ref t) h2 := by
    obtain ⟨y1, y2, y3, y4⟩ := k1
    rw [Heap.FunFrames.eq_2] at y3
    exact ⟨y1, y2, y3.2.2, y4⟩
  have ni : ∀ b o, s₀.heap.get? b = some o → b ∉ frs outer → b ∉ hid := fun b o q nb hb => by
    rcases List.mem_cons.mp hb with z | hb
    · rw [z] at q
      have z := h0a.symm.trans q
      cases z
    rcases List.mem_cons.mp hb with z | z
    · rw [z] at q
      have z := h0T.symm.trans q
      cases z
    · rcases (mem_frs_cons hf).mp z with z | z
      · exact absurd (Heap.lt_size q) (by rw [z]; exact Nat.lt_irrefl _)
      · exact nb z
  refine ⟨a, C, t, H, _, dd, rfl, I.os, I.bare, ⟨fun b o q n nb => ?_, fun b o q nb => ?_, fun b o q hb => ?_, fun b o q n => I.base.free b o q n (by intro z; cases z), I.base.tups, I.base.frzs, I.base.tbls, fun b u q => ?_, fl⟩, hdd.dk dk, hE⟩
  · exact hideAll_get _ (I.base.keep b o q n nb (by intro z; cases z)) (ni b o q nb)
  · obtain ⟨o', q'⟩ := I.base.there b o q (by intro z; cases z)
    exact ⟨o', hideAll_get _ q' (ni b o q nb)⟩
  · obtain ⟨sl, q'⟩ := I.base.slot b o q (I.ok.frf b hb) hb (by intro z; cases z)
    obtain ⟨_, o', ho', hn⟩ := hst.mem ((mem_frs_cons hf).mpr (.inr hb))
    rw [q'] at ho'
    have e1 := Option.some.inj ho'
    obtain ⟨sl', q2⟩ := x4 b _ q' (by rw [e1]; exact hn)
    exact ⟨sl', q2⟩
  · have nf : ∀ c v, H c = some v → c ∉ hid := fun c v q hb => by
      rcases List.mem_cons.mp hb with z | hb
      · rw [z, hHa] at q; cases q
      rcases List.mem_cons.mp hb with z | z
      · rw [z, hHT] at q; cases q
      · have := I.stkFree c z
        rw [this] at q
        cases q
    refine (I.hok b u q).stay (fun c v hc q' => hideAll_get _ q' ?_) (fun _ q' => q') fun _ _ q' => q'
    rcases hc with z | z
    · rw [z]; exact nf b u q
    · exact nf c _ z
end
theorem passOn_held {M : Model} {A : Around} {E : Value → Shared → Prop} {s : Shared} {env : Env} {a C t T L : Addr} {what : String} {Q : Value → Shared → Prop} (hf : env.frame = some L) (x : HeldX s.heap a C t T L)
    (q : ∀ h', (∀ b, h'.get? b = s.heap.get? b) → E (.ref a) { s with heap := h' }) : wpAny M A (PySem.passOn what (.ref a) env : Sem Value) Q E s := by
  obtain ⟨n, oe, vs, oT, ts, e1, e2, e3, e4, e5, e6, e7, e8⟩ := x
  unfold PySem.passOn
  refine wpAny_bind (wpAny_field e1 e4 e5 ?_)
  rw [if_neg (by intro z; cases z)]
  unfold setFlight
  refine wpAny_bind (wpAny_bind (wpAny_field e1 e4 e5 ?_))
  rw [if_pos (by rfl), hf]
  have hs : 3 < ts.size := by
    rcases Nat.lt_or_ge 3 ts.size with z | z
    · exact z
    · rw [Array.getElem?_eq_none z] at e8; cases e8
  refine wpAny_setField e6 e7 hs ?_
  refine wpAny_throw (q _ fun b => ?_)
  exact congrArg (fun h => Heap.get? h b) (Heap.update_setField_same _ _ _ _ _ _ e6 e7 e8)
theorem HOk.has {P : Program} {w : World} {H : Hp} {B : Heap} {a : Addr} (k : HOk P w H B) (z : B.get? a = none) : H a = none := by
  cases q : H a with
  | none => rfl
  | some u =>
    have e : ∃ o, B.get? a = some o := by
      have ok := k a u q
      cases u with
      | lst xs => obtain ⟨_, _, _, _, e⟩ := ok; exact ⟨_, e⟩
      | tup xs => obtain ⟨_, _, _, o, e, _⟩ := ok; exact ⟨_, e⟩
      | dK kvs => obtain ⟨_, _, _, _, o, _, _, e, _⟩ := ok; exact ⟨_, e⟩
      | dT kvs => obtain ⟨_, _, _, _, o, _, _, e, _⟩ := ok; exact ⟨_, e⟩
      | set S n => obtain ⟨o, _, _, _, e, _⟩ := ok; exact ⟨_, e⟩
      | ins C dx fs => obtain ⟨_, _, _, e, _⟩ := ok; exact ⟨_, e⟩
      | own y => exact ok
      | xd fs => obtain ⟨_, ⟨o, _, _, e, _⟩, _⟩ := ok; exact ⟨_, e⟩
      | rng lo hi => obtain ⟨_, _, _, e⟩ := ok; exact ⟨_, e⟩
      | frz ob u => obtain ⟨e, _⟩ := ok; exact ⟨_, e⟩
      | tbl ps => exact ⟨_, ok⟩
      | met f y => exact ⟨_, ok⟩
      | ext φ => obtain ⟨_, e, _⟩ := ok; exact e
    obtain ⟨o, e⟩ := e
    rw [z] at e
    cases e
theorem Fly.unS {P : Program} {w : World} {fs : List Env} {H H' : Hp} {h0 B h h' : Heap} {a : Addr} {cls a0 : Value} (F : Fly P w fs H H' h0 B a cls a0 h) (st : B.StaysIn h') (u : h.UpToSlots h') : Un (frs fs) [] H H' h0 h' where
  keep := fun b o e n hb _ => st b o (F.keep b o e n hb)
  slot := fun b o e _ hb _ => by
    obtain ⟨sl, q⟩ := F.slot b o e hb
    obtain ⟨_, o', ho', hn⟩ := F.fly.2.2.1.mem hb
    rw [q] at ho'
    have e1 := Option.some.inj ho'
    obtain ⟨sl', q'⟩ := u b _ q (by rw [e1]; exact hn)
    exact ⟨sl', q'⟩
  free := fun b o e n _ => F.free b o e n
  there := fun b o e _ => by
    by_cases hb : b ∈ frs fs
    · obtain ⟨sl, q⟩ := F.slot b o e hb
      obtain ⟨_, o', ho', hn⟩ := F.fly.2.2.1.mem hb
      rw [q] at ho'
      have e1 := Option.some.inj ho'
      obtain ⟨sl', q'⟩ := u b _ q (by rw [e1]; exact hn)
      exact ⟨_, q'⟩
    · obtain ⟨o', q⟩ := F.there b o e hb
      exact ⟨o', st b o' q⟩
  tups := F.tups
  frzs := F.frzs
  tbls := F.tbls
section
variable {X : Cx} {pins : List (Addr × Obj)} {σ : St} {H : Hp} {s : Shared} {own : Nat} {N : List Str} {ix : List Nat} {scope : Scope} {E : XK}
theorem blk_pass {C : Addr} {fp : List Addr} {Q : Value → Shared → Prop} {acc : Value} {cl : List (Str × Addr)} (I : Inv X pins σ H s) (hx : ∀ b ∈ fp, FpOk X pins H b) (hst : X.stack = X.env :: X.outer) (hf : X.env.frame = some X.env.locals) (hex : X.ex = []) (hp : PassHeld X E)
    (hL : C ≠ X.env.locals) (hsz : X.s₀.heap.objs.size ≤ C) (hce : ∀ x c, X.env.cells.lookup x = some c → c ≠ C) (hpi : ∀ p ∈ X.pn ++ pins, p.1 ≠ C) (hnf : C ∉ frs X.stack)
    {pinsb : List (Addr × Obj)} {σb : St} {Hb : Hp} {sb s1 : Shared} {e : Value} (Ib : Inv (X.blk N scope C fp s H) pinsb σb Hb sb) (hc : CX2 X.prog X.w X.stack Hb sb E e s1) :
    notedBy (model X.prog X.w) X.A (compEnvC scope cl C X.env) (fun x s' => compPostP (model X.prog X.w) X.A X.xe Q acc (compEnvC scope cl C X.env) (.error x) s') e s1 := by
  obtain ⟨a, Cc, t, H', B, dd, rfl, ho, hb, F, hdd, hE⟩ := hc
  have hfr : X.A.frames = some (X.env :: X.outer) := by rw [← hst]; exact I.ok.frames
  rw [hst] at F
  have hnf' : C ∉ frs (X.env :: X.outer) := by rw [← hst]; exact hnf
  unfold notedBy
  show wpAny _ X.A (noteFrame (.ref a) X.env) _ _ s1
  have lib := wpAny_looks_onW (M := model X.prog X.w) (A := X.A) (E := fun x s' => compPostP (model X.prog X.w) X.A X.xe Q acc (compEnvC scope cl C X.env) (.error x) s') (s := s1) (Q := fun _ s' => ∃ h4, s' = { s1 with heap := h4 } ∧ Heap.HeldW B (X.env :: X.outer) a (.ref Cc) (.ref t) X.env.locals h4 ∧ s1.heap.UpToSlots h4) hfr hf F.fly fun h4 held4 sm4 => ⟨h4, rfl, held4, sm4⟩
  refine wpAny_mono (wpAny_kd (kd_note (.ref a) X.env) lib) (fun _ s4 z4 => ?_) fun _ _ z => z
  obtain ⟨⟨h4, rfl, held4, sm4⟩, dk4⟩ := z4
  have hdd4 : DictIs h4 a dd := hdd.dk dk4
  have Ib4 : Inv (X.blk N scope C fp s H) pinsb σb H' { s1 with heap := h4 } := by
    refine Ib.call' (ch := []) ho ?_ (F.hok.kept held4.1) hb (fun b z => nomatch z)
    show Un (frs X.stack) [] Hb H' sb.heap h4
    rw [hst]
    exact F.unS held4.1 sm4
  have I4 : Inv X pins σ H' { s1 with heap := h4 } := I.call' (ch := fp) Ib4.os Ib4.base Ib4.hok Ib4.bare fun b hb => ⟨(hx b hb).2.2.2.1, (hx b hb).2.1, (hx b hb).2.2.2.2.1, (hx b hb).2.2.2.2.2⟩
  obtain ⟨m, hm, _⟩ := Ib.loc
  have hm : sb.heap.Ns C m := hm
  obtain ⟨oC, es, ep, hgC, hdC, hr⟩ := hm
  have hHC : Hb C = none := Ib.free
  have hBC : B.get? C = some oC := F.keep C oC hgC hHC hnf'
  have hm4 : h4.Ns C m := ⟨oC, es, ep, held4.1 C oC hBC, hdC, hr⟩
  have hC' : H' C = none := F.free C oC hgC hHC
  obtain ⟨T, hX, hBT⟩ := HeldX.of held4
  have hBa : B.get? a = none := held4.2.1
  have haC : a ≠ C := fun z => by rw [z, hBC] at hBa; cases hBa
  have hTC : T ≠ C := fun z => by rw [z, hBC] at hBT; cases hBT
  have old0 : ∀ b, B.get? b = none → b ∉ frs (X.env :: X.outer) → X.s₀.heap.get? b = none := fun b hB hn => by
    cases e : X.s₀.heap.get? b with
    | none => rfl
    | some o =>
      obtain ⟨o1, e1⟩ := I.base.there b o e (by rw [hex]; exact fun z => nomatch z)
      obtain ⟨o2, e2⟩ := Ib.base.there b o1 e1 (fun z => by
        rcases (hx b z).2.2.2.1 with y | y
        · rw [hex] at y; exact nomatch y
        · exact absurd (Heap.lt_size e) (Nat.not_lt.mpr y))
      obtain ⟨o3, e3⟩ := F.there b o2 e2 hn
      rw [hB] at e3
      cases e3
  have nfr : ∀ b o vs, h4.get? b = some o → o.data = .fields vs → b ∉ frs (X.env :: X.outer) := fun b o vs e1 e2 hm => by
    obtain ⟨_, o', ho', hn'⟩ := held4.2.2.1.mem hm
    rw [e1] at ho'
    cases ho'
    exact hn' _ e2
  obtain ⟨oe, vs, oT, ts, x1, x2, x3, x4, x5, x6, x7, x8⟩ := hX.ex
  refine ⟨m, hm4, fun h' sb' => ?_⟩
  have sb' : Heap.SameBut C h4 h' := sb'
  have I5 : Inv X pins σ H' { s1 with heap := h' } := I4.turned (t' := s1.toks) (fun b o hb e => (sb'.2 b hb).trans e) hC' hL (.inr hsz) hce hpi
  have hX5 : HeldX h' a Cc t T X.env.locals := hX.eq (sb'.2 a haC) (sb'.2 T hTC)
  refine passOn_held (L := X.env.locals) hf hX5 fun h6 eq6 => ?_
  have I6 : Inv X pins σ H' { s1 with heap := h6 } := I5.kept (t' := s1.toks) fun b o e => (eq6 b).trans e
  obtain ⟨od, gd, qd⟩ := hdd4
  exact hp pins σ H' _ a Cc t T dd I6 (hX5.eq (eq6 a) (eq6 T)) ⟨od, (eq6 a).trans ((sb'.2 a haC).trans gd), qd⟩ F.new (HOk.has F.hok hBT) (old0 a hBa (nfr a oe vs x1 x4)) (old0 T hBT (nfr T oT ts x6 x7)) hE
end
theorem compLoop_goE {prog : Program} {w : World} {A : Around} {R : Result → Shared → Prop} {s : Shared} {elt target iter : Expr} {ifs : List Expr} {scope : Scope} {pos : Pos} {it acc : Value} {env : Env} (I : Nat → Shared → Prop)
    (turn : ∀ n s, I n s → wpAny (model prog w) A (pyNext it) (fun r s1 => match r with
      | none => R (.ok .next) s1
      | some v => wpAny (model prog w) A (letOwnedTupleGo target it v) (fun _ s1' => wpAny (model prog w) A (assign target env v) (fun _ s2 =>
          wpAny (model prog w) A (forIn ifs true fun c r => if r = true then do let ok ← isTrue c env (eval c env); pure (ForInStep.yield ok) else pure (ForInStep.yield r)) (fun ok s3 =>
            if ok = true then wpAny (model prog w) A (eval elt env) (fun x s4 => wpAny (model prog w) A (call (.builtin "list.append") [acc, x]) (fun _ s5 => ∃ m, m < n ∧ I m s5) (notedBy (model prog w) A env fun x s' => R (.error x) s') s4) (notedBy (model prog w) A env fun x s' => R (.error x) s') s3
            else ∃ m, m < n ∧ I m s3) (notedBy (model prog w) A env fun x s' => R (.error x) s') s2) (notedBy (model prog w) A env fun x s' => R (.error x) s') s1') (notedBy (model prog w) A env fun x s' => R (.error x) s') s1) (notedBy (model prog w) A env fun x s' => R (.error x) s') s)
    (n : Nat) (h : I n s) : codeAny (model prog w) A (.compLoop (.ListComp elt [⟨target, iter, ifs, 0⟩] scope pos) 0 it acc env) R s := by
  refine codeAny_loop rfl I (fun n s hI => ?_) n h
  show wpAny _ A ((compTurn (.ListComp elt [⟨target, iter, ifs, 0⟩] scope pos) 0 it acc env).onRaise (fun x => do noteFrame x env; theTreesLotGoes x)) _ _ s
  refine wpAny_noted ?_
  rw [compTurn_list]
  refine wpAny_bind (wpAny_standAt (wpAny_bind (wpAny_mono (turn n s hI) (fun r s1 h1 => ?_) fun _ _ z => z)))
  cases r with
  | none => exact wpAny_pure h1
  | some v =>
    refine wpAny_bind (wpAny_mono h1 (fun _ s1' h1' => ?_) fun _ _ z => z)
    refine wpAny_bind (wpAny_mono h1' (fun _ s2 h2 => wpAny_bind (wpAny_mono h2 (fun ok s3 h3 => ?_) fun _ _ z => z)) fun _ _ z => z)
    cases ok with
    | false => exact wpAny_pure ⟨rfl, h3⟩
    | true => exact wpAny_bind (wpAny_bind (wpAny_mono h3 (fun x s4 h4 => wpAny_bind (wpAny_mono h4 (fun _ s5 h5 => wpAny_pure (wpAny_pure ⟨rfl, h5⟩)) fun _ _ z => z)) fun _ _ z => z))
section
variable {X : Cx} {pins : List (Addr × Obj)} {σ : St} {H : Hp} {s : Shared} {own : Nat} {N : List Str} {ix : List Nat} {scope : Scope} {E : XK}
theorem blk_runE {elt tg iter : Expr} {ifs : List Expr} {pos : Pos} {g : TG} {tt : TT} {te : TE} {it : Addr} {fp : List Addr} {tn : Nat → Heap → Prop} {J : It} {Q : VK} {E' : Value → Shared → Prop} {Qv : Value → Shared → Prop} (B : BlkOk X own N ix scope)
    (hin : ∀ (C : Addr) (s : Shared) (H : Hp) (XE : Value → Shared → Prop), Passes (CX2 X.prog X.w) ((X.blk N scope C fp s H).wish XE) E → PG ((X.blk N scope C fp s H).wish XE) tg g ∧ PIf ((X.blk N scope C fp s H).wish XE) ifs tt ∧ PE ((X.blk N scope C fp s H).wish XE) elt te)
    (hst : X.stack = X.env :: X.outer) (hfm : X.env.frame = some X.env.locals) (hex : X.ex = []) (hp : PassHeld X E)
    (I : Inv X pins σ H s) (T : Turn X.prog X.w X.K tg J fp it tn) (st : tn 0 s.heap) (hf : ∀ b ∈ fp, FpOk X pins H b)
    (h : ∀ D, H D = none → LcW J own ix σ g tt te D H Q)
    (fin : ∀ (D : Addr) (H' : Hp) (s' : Shared), Inv X pins σ H' s' → Q (.ref D) H' → Qv (.ref D) s') :
    wpAny (model X.prog X.w) X.A (newList []) (fun acc s3 => wpAny (model X.prog X.w) X.A (newFunctionEnv scope X.env.globals (clGo X.env.cells scope.names []) [] X.env.qual none .none (some X.env)) (fun cenv s4 =>
      codeAny (model X.prog X.w) X.A (.compStart (.ListComp elt [⟨tg, iter, ifs, 0⟩] scope pos) 0 (.ref it) acc { cenv with scope := relabel scope X.env }) (compPostP (model X.prog X.w) X.A X.xe Qv acc { cenv with scope := relabel scope X.env }) s4) E' s3) E' s := by
  obtain ⟨W, ⟨m0, w0⟩, turn⟩ := h s.heap.objs.size I.fresh
  refine wpAny_newObj_type ?_
  have I3 := I.lnew (its := []) (ys := []) (t' := s.toks) .nil (Nat.zero_le _)
  have hcell : ∀ y ∈ scope.names, y.2 ≠ NameKind.cell := fun y hy e => by
    have := List.all_eq_true.mp B.cell y hy
    rw [e] at this
    exact absurd this (by decide)
  refine wpAny_newFunctionEnv hcell (by intro y hy; simp at hy) (fun h1 hns1 hsb1 => ?_) B.kind
  dsimp only at hns1 hsb1 ⊢
  generalize hH2 : s.heap.push { cls := .type "list", dict := none, data := .seq ([] : List Value).toArray } = h2 at hns1 hsb1 ⊢
  have I3' : Inv X pins σ (upd H s.heap.objs.size (.lst [])) { s with heap := h2 } := by
    have z : ({ s with heap := s.heap.push { cls := .type "list", data := .seq ([] : List Value).toArray }, toks := s.toks } : Shared) = { s with heap := h2 } := by rw [← hH2]
    rw [← z]
    exact I3
  have sz : h2.objs.size = s.heap.objs.size + 1 := by rw [← hH2, Heap.size_push]
  have old2 : ∀ b o, s.heap.get? b = some o → h2.get? b = some o := fun b o e => by rw [← hH2]; exact Heap.get?_push_of_some _ e
  have keep1 : ∀ b o, h2.get? b = some o → h1.get? b = some o := fun b o e => hsb1.extBut b o (Nat.ne_of_lt (Heap.lt_size e)) (Heap.get?_push_of_some _ e)
  have there : ∀ b ∈ fp, b < s.heap.objs.size := fun b hb => by obtain ⟨o, e, _⟩ := T.obj _ _ st b hb; exact Heap.lt_size e
  have hf3 : ∀ b ∈ fp, FpOk X pins (upd H s.heap.objs.size (.lst [])) b := fun b hb => ⟨by rw [upd_ne (Nat.ne_of_lt (there b hb))]; exact (hf b hb).1, (hf b hb).2⟩
  have hn1 : h1.Ns h2.objs.size (fun _ => none) := by simpa using hns1
  have I4' := blk_start (tk := s.toks + ([] : List (Str × Value)).length) (own := own) (N := N) (ix := ix) B I3' rfl hf3 (fun b hb => Nat.lt_of_lt_of_le (there b hb) (by show s.heap.objs.size ≤ h2.objs.size; rw [sz]; exact Nat.le_succ _)) hn1 keep1
  have st4 : tn 0 h1 := T.keep _ _ _ st fun b _ o e => keep1 b o (old2 b o e)
  have cL : h2.objs.size ≠ X.env.locals := Nat.ne_of_gt I3'.lt
  have cS : X.s₀.heap.objs.size ≤ h2.objs.size := I3'.sz
  have cC : ∀ x c, X.env.cells.lookup x = some c → c ≠ h2.objs.size := fun x c e z => by
    obtain ⟨v, q⟩ := I3'.cell x c e
    have := q.lt
    rw [z] at this
    exact absurd this (Nat.lt_irrefl _)
  have cP : ∀ p ∈ X.pn ++ pins, p.1 ≠ h2.objs.size := fun p hp z => by
    have := Heap.lt_size (I3'.pin p hp).1
    rw [z] at this
    exact absurd this (Nat.lt_irrefl _)
  have cF : h2.objs.size ∉ frs X.stack := fun z => by
    obtain ⟨_, o, ho, _⟩ := I3'.stack.mem z
    exact absurd (Heap.lt_size ho) (Nat.lt_irrefl _)
  let cenv := compEnvC scope (clGo X.env.cells scope.names []) h2.objs.size X.env
  let XE : Value → Shared → Prop := notedBy (model X.prog X.w) X.A cenv fun x s' => compPostP (model X.prog X.w) X.A X.xe Qv (.ref s.heap.objs.size) cenv (.error x) s'
  let Xb := (X.blk N scope h2.objs.size fp { s with heap := h2 } (upd H s.heap.objs.size (.lst []))).wish XE
  have I4 : Inv Xb [] (blkSt own ix σ) (upd H s.heap.objs.size (.lst [])) { s with heap := h1, toks := s.toks + ([] : List (Str × Value)).length } := I4'.wish XE
  have Bc : Xb.calm = true := B.calm
  have pas : Passes (CX2 X.prog X.w) Xb E := fun pb σb Hb sb e s1 Ib hc => blk_pass (cl := clGo X.env.cells scope.names []) I3' hf3 hst hfm hex hp cL cS cC cP cF Ib.unwish hc
  obtain ⟨pg, pif, pe⟩ := hin h2.objs.size { s with heap := h2 } (upd H s.heap.objs.size (.lst [])) XE pas
  have fpb : ∀ {H' : Hp}, (∀ b ∈ fp, H' b = none) → ∀ b ∈ fp, FpOk Xb [] H' b := fun hz b hb =>
    ⟨hz b hb, Nat.ne_of_lt (Nat.lt_of_lt_of_le (there b hb) (by show s.heap.objs.size ≤ h2.objs.size; rw [sz]; exact Nat.le_succ _)), I4.ok.exfs b hb, .inl hb, fun x c e => (I4.ok.exf b hb).2 x c e, (fun p hp => nomatch hp)⟩
  have loop : ∀ s3 : Shared, s3 = { s with heap := h1, toks := s.toks + ([] : List (Str × Value)).length } →
      codeAny (model X.prog X.w) X.A (.compLoop (.ListComp elt [⟨tg, iter, ifs, 0⟩] scope pos) 0 (.ref it) (.ref s.heap.objs.size) cenv) (compPostP (model X.prog X.w) X.A X.xe Qv (.ref s.heap.objs.size) cenv) s3 := by
    rintro s3 rfl
    refine compLoop_goE (fun n s' => ∃ i ys H', Inv Xb [] (blkSt own ix σ) H' s' ∧ tn i s'.heap ∧ (∀ b ∈ fp, H' b = none) ∧ W i n ys H') ?_ m0
      ⟨0, [], _, I4, st4, fun b hb => (hf3 b hb).1, w0⟩
    rintro n s5 ⟨i, ys, H5, I5, st5, fr5, w5⟩
    obtain ⟨hD, t5⟩ := turn i n ys H5 w5
    rcases t5 with ⟨stop, qn⟩ | ⟨go, hz, Nx, hNx, step⟩
    · refine thn (T.done Xb rfl rfl rfl Bc i [] s5 _ H5 XE I5 (fpb fr5) st5 stop) fun r s6 ⟨hr, I6⟩ => ?_
      subst hr
      obtain ⟨m, hm, _⟩ := I6.loc
      have I6' := blk_end I3' hf3 I6.unwish
      exact ⟨m, hm, fun h' sb => fin _ H5 _ (I6'.turned (t' := s6.toks) (fun b o hb e => (sb.2 b hb).trans e) I6.free cL (.inr cS) cC cP) qn⟩
    · refine thn (T.item Xb rfl rfl rfl Bc i [] s5 _ H5 XE I5 (fpb fr5) st5 go) fun r s6 ⟨u, hr, h6⟩ => ?_
      subst hr
      refine thn h6 fun _ s7 ⟨x, H7, I7, r7, y7, st7, fr7⟩ => ?_
      have I7' := I7.pinned (fpb fr7) (T.obj _ _ st7)
      refine thn (pg _ s7 _ H7 x u _ I7' r7 (step x H7 y7)) fun _ s8 ⟨σ8, H8, I8, hd8, q8⟩ => ?_
      refine thn (pif _ s8 σ8 H8 _ I8 q8) fun b s9 ⟨H9, I9, q9⟩ => ?_
      have again : ∀ {ys' : List V} {H' : Hp} {s' : Shared}, Inv Xb ([] ++ pinsAt fp s7.heap) σ8 H' s' → Nx ys' H' →
          ∃ m, m < n ∧ ∃ i ys H', Inv Xb [] (blkSt own ix σ) H' s' ∧ tn i s'.heap ∧ (∀ b ∈ fp, H' b = none) ∧ W i m ys H' := by
        intro ys' H' s' I' w'
        obtain ⟨m', hm, w'⟩ := hNx _ _ w'
        refine ⟨m', hm, i + 1, ys', H', (I'.unpinned).weak ?_ (blkSt_weak hd8), T.keep _ _ _ st7 fun b hb o e => (I'.pin (b, o) (List.mem_append_right _ (List.mem_append_right _ (mem_pinsAt hb e)))).1, fun b hb => ?_, w'⟩
        · rw [I'.len, ← I4.len]
        · obtain ⟨o, e, d⟩ := T.obj _ _ st7 b hb
          exact (I'.pin (b, o) (List.mem_append_right _ (List.mem_append_right _ (mem_pinsAt hb e)))).2.1
      cases b with
      | true =>
        simp only [if_true] at q9 ⊢
        refine thn (pe _ s9 σ8 H9 _ I9 q9) fun v s10 ⟨y, H10, I10, r10, hD10, q10⟩ => ?_
        refine thn (mt_append _ s10 σ8 H10 (.ref _) [y] (.ref _) [v] (fun _ H' => Nx (ys ++ [y]) H') I10 rfl (.cons r10 .nil) ⟨_, ys, y, rfl, rfl, hD10, hz, q10⟩) fun _ s11 ⟨_, H11, I11, _, q11⟩ => ?_
        exact again I11 q11
      | false =>
        simp only [Bool.false_eq_true, if_false] at q9 ⊢
        exact again I9 q9
  exact codeAny_compStart_list (loop _ rfl) (T.self _ 0 _ _ _ st4 (loop _ rfl))
theorem pe_lcE {elt tg iter : Expr} {ifs : List Expr} {pos : Pos} {wi : TI} {g : TG} {tt : TT} {te : TE} (own : Nat) (N : List Str) (ix : List Nat) (B : BlkOk X own N ix scope) (hi : PI X tg iter wi)
    (hin : ∀ (C : Addr) (fp : List Addr) (s : Shared) (H : Hp) (XE : Value → Shared → Prop), Passes (CX2 X.prog X.w) ((X.blk N scope C fp s H).wish XE) E → PG ((X.blk N scope C fp s H).wish XE) tg g ∧ PIf ((X.blk N scope C fp s H).wish XE) ifs tt ∧ PE ((X.blk N scope C fp s H).wish XE) elt te)
    (hp : PassHeld X E) (hst : X.stack = X.env :: X.outer := by rfl) (hfm : X.env.frame = some X.env.locals := by rfl) (hex : X.ex = [] := by rfl)
    (hs : ∀ x, foldedSetIterable iter X.env x = pure x := by intro _; rfl) : PE X (.ListComp elt [⟨tg, iter, ifs, 0⟩] scope pos) (tLc own ix wi g tt te) := by
  intro pins s σ H Q I h
  have hnames : ∀ y ∈ scope.names, y.2 = NameKind.local → scope.names.lookup y.1 = some .local := fun y hy e => by
    have := List.all_eq_true.mp B.loc y hy
    rw [e] at this
    simpa using this
  rw [eval_ListComp]
  refine comp_free rfl hs (closureFor_go fun y hy e => (B.has I y hy e).2) B.kind hnames (thn (hi pins s σ H _ I h) fun v s1 h1 => thn h1 fun itv s2 h2 => ?_)
  obtain ⟨it, fp, tn, J, H2, e, I2, T, st2, f2, rd⟩ := h2
  subst e
  exact blk_runE (Q := Q) B (fun C s H => hin C fp s H) hst hfm hex hp I2 T st2 f2 rd fun D H' s' I' q => ⟨.ref D, H', I', rfl, q⟩
end
end L2
namespace L2
open PySem PySem.Spec PyProof.Rows
section
variable {κ : Type} [DecidableEq κ]
def valV (kvs : List (κ × V)) (k : κ) : Option V := (kvs.find? fun kv => decide (kv.1 = k)).map (·.2)
def putK (kvs : List (κ × V)) (k : κ) (v : V) : List (κ × V) :=
  if (kvs.any fun kv => decide (kv.1 = k)) = true then kvs.map (fun kv => if kv.1 = k then (kv.1, v) else kv) else kvs ++ [(k, v)]
def dropK (kvs : List (κ × V)) (k : κ) : List (κ × V) := kvs.filter fun kv => decide (kv.1 ≠ k)
theorem valV_pos {p : κ × V} {r : List (κ × V)} {k : κ} (e : p.1 = k) : valV (p :: r) k = some p.2 := by simp [valV, List.find?_cons, e]
theorem valV_neg {p : κ × V} {r : List (κ × V)} {k : κ} (e : ¬ p.1 = k) : valV (p :: r) k = valV r k := by simp [valV, List.find?_cons, e]
theorem valV_any (k : κ) : ∀ kvs : List (κ × V), (kvs.any fun kv => decide (kv.1 = k)) = (valV kvs k).isSome
  | [] => rfl
  | p :: r => by
    rw [List.any_cons]
    by_cases e : p.1 = k
    · simp only [valV_pos e, decide_eq_true e, Bool.true_or, Option.isSome_some]
    · rw [valV_neg e, decide_eq_false e, Bool.false_or]; exact valV_any k r
theorem length_putK (kvs : List (κ × V)) (k : κ) (v : V) : (putK kvs k v).length ≤ kvs.length + 1 := by
  unfold putK
  split
  · rw [List.length_map]; omega
  · rw [List.length_append, List.length_cons, List.length_nil]; omega
theorem RelO.isSome_eq {o : Option V} {u : Option Value} (r : RelO o u) : o.isSome = u.isSome := by
  cases o with
  | none => cases u with
    | none => rfl
    | some _ => exact (show False from r).elim
  | some _ => cases u with
    | none => exact (show False from r).elim
    | some _ => rfl
theorem RelO.getD {o : Option V} {u : Option Value} {d : V} {d' : Value} (r : RelO o u) (rd : RelV d d') : RelV (o.getD d) (u.getD d') := by
  cases o with
  | none => cases u with
    | none => exact rd
    | some _ => exact (show False from r).elim
  | some _ => cases u with
    | none => exact (show False from r).elim
    | some _ => exact r
theorem KV.val {kvs : List (κ × V)} {vs : List (κ × Value)} (r : KV kvs vs) (k : κ) : RelO (valV kvs k) (valueAt vs k) := by
  unfold KV at r
  induction r with
  | nil => exact True.intro
  | @cons p q ps qs h t ih =>
    obtain ⟨h1, h2⟩ := h
    by_cases e : p.1 = k
    · have e' : q.1 = k := h1.symm.trans e
      have b : valueAt (q :: qs) k = some q.2 := by simp [valueAt, List.find?_cons, e']
      rw [valV_pos e, b]; exact h2
    · have e' : ¬ q.1 = k := fun z => e (h1.trans z)
      have b : valueAt (q :: qs) k = valueAt qs k := by simp [valueAt, List.find?_cons, e']
      rw [valV_neg e, b]; exact ih
theorem KV.any {kvs : List (κ × V)} {vs : List (κ × Value)} (r : KV kvs vs) (k : κ) : (kvs.any fun kv => decide (kv.1 = k)) = vs.any fun kv => decide (kv.1 = k) := by
  unfold KV at r
  induction r with
  | nil => rfl
  | cons h t ih => rw [List.any_cons, List.any_cons, ih, h.1]
theorem KV.repl {kvs : List (κ × V)} {vs : List (κ × Value)} (r : KV kvs vs) (k : κ) {y : V} {u : Value} (ry : RelV y u) :
    KV (kvs.map fun kv => if kv.1 = k then (kv.1, y) else kv) (vs.map fun kv => if kv.1 = k then (kv.1, u) else kv) := by
  unfold KV at r ⊢
  induction r with
  | nil => exact .nil
  | @cons p q ps qs h t ih =>
    rw [List.map_cons, List.map_cons]
    refine .cons ?_ ih
    obtain ⟨h1, h2⟩ := h
    by_cases e : p.1 = k
    · rw [if_pos e, if_pos (h1.symm.trans e)]; exact ⟨h1, ry⟩
    · rw [if_neg e, if_neg (fun z => e (h1.trans z))]; exact ⟨h1, h2⟩
theorem KV.put {kvs : List (κ × V)} {vs : List (κ × Value)} (r : KV kvs vs) (k : κ) {y : V} {u : Value} (ry : RelV y u) : KV (putK kvs k y) (stored vs k u) := by
  unfold putK stored
  rw [r.any k]
  by_cases e : (vs.any fun kv => decide (kv.1 = k)) = true
  · rw [if_pos e, if_pos e]; exact r.repl k ry
  · rw [if_neg e, if_neg e]; exact Paired.snoc r ⟨rfl, ry⟩
theorem KV.drop {kvs : List (κ × V)} {vs : List (κ × Value)} (r : KV kvs vs) (k : κ) : KV (dropK kvs k) (without vs k) := by
  unfold KV at r ⊢
  unfold dropK without
  induction r with
  | nil => exact .nil
  | @cons p q ps qs h t ih =>
    obtain ⟨h1, h2⟩ := h
    rw [List.filter_cons, List.filter_cons]
    by_cases e : p.1 = k
    · have a : ¬ decide (p.1 ≠ k) = true := by simp [e]
      have b : ¬ decide (q.1 ≠ k) = true := by simp [h1.symm.trans e]
      rw [if_neg a, if_neg b]; exact ih
    · have e' : ¬ q.1 = k := fun z => e (h1.trans z)
      have a : decide (p.1 ≠ k) = true := by simp [e]
      have b : decide (q.1 ≠ k) = true := by simp [e']
      rw [if_pos a, if_pos b]; exact .cons ⟨h1, h2⟩ ih
theorem KV.keys {kvs : List (κ × V)} {vs : List (κ × Value)} (r : KV kvs vs) : kvs.map (·.1) = vs.map (·.1) := by
  unfold KV at r
  induction r with
  | nil => rfl
  | cons h t ih => rw [List.map_cons, List.map_cons, ih, h.1]
theorem KV.length {kvs : List (κ × V)} {vs : List (κ × Value)} (r : KV kvs vs) : kvs.length = vs.length := Paired.length r
end
theorem kV_is {P : Program} {w : World} {k : Key} {u : Value} (r : RelV (kV k) u) : (mixKind P w).is k u = true := by
  cases k with
  | inl i => obtain ⟨t, e⟩ := (show ∃ t, u = Value.int i t from r); subst e; exact mixKind_int P w i t
  | inr x => obtain ⟨t, e⟩ := (show ∃ t, u = Value.str x t from r); subst e; exact mixKind_str P w x t
theorem items_are {P : Program} {w : World} : ∀ {ks : List Key} {us : List Value}, Vals (ks.map kV) us → ItemsAre (mixKind P w) ks us
  | [], _, r => by rw [List.map_nil] at r; cases r; exact .nil
  | k :: ks, _, r => by
    rw [List.map_cons] at r
    cases r with
    | cons h t => exact .cons (kV_is h) (items_are t)
abbrev KT (H : Hp) : List (List Key × V) → List (List Key × Addr × Value) → Prop := Paired fun p q => p.1 = q.1 ∧ H q.2.1 = some (.tup (p.1.map kV)) ∧ RelV p.2 q.2.2
theorem KT.val {H : Hp} {kvs : List (List Key × V)} {xs : List (List Key × Addr × Value)} (r : KT H kvs xs) (k : List Key) : RelO (valV kvs k) ((atKey xs k).map (·.2)) := by
  induction r with
  | nil => exact True.intro
  | @cons p q ps qs h t ih =>
    obtain ⟨h1, _, h2⟩ := h
    by_cases e : p.1 = k
    · have e' : q.1 = k := h1.symm.trans e
      have b : atKey (q :: qs) k = some q.2 := by simp [atKey, List.find?_cons, e']
      rw [valV_pos e, b]; exact h2
    · have e' : ¬ q.1 = k := fun z => e (h1.trans z)
      have b : atKey (q :: qs) k = atKey qs k := by simp [atKey, List.find?_cons, e']
      rw [valV_neg e, b]; exact ih
theorem KT.repl {H : Hp} {kvs : List (List Key × V)} {xs : List (List Key × Addr × Value)} (r : KT H kvs xs) (k : List Key) {y : V} {u : Value} (ry : RelV y u) :
    KT H (kvs.map fun kv => if kv.1 = k then (kv.1, y) else kv) (xs.map (putAt k u)) := by
  induction r with
  | nil => exact .nil
  | @cons p q ps qs h t ih =>
    rw [List.map_cons, List.map_cons]
    refine .cons ?_ ih
    obtain ⟨h1, h2, h3⟩ := h
    unfold putAt
    by_cases e : p.1 = k
    · rw [if_pos e, if_pos (h1.symm.trans e)]; exact ⟨h1, h2, ry⟩
    · rw [if_neg e, if_neg (fun z => e (h1.trans z))]; exact ⟨h1, h2, h3⟩
theorem KT.put {H : Hp} {kvs : List (List Key × V)} {xs : List (List Key × Addr × Value)} (r : KT H kvs xs) (k : List Key) {b : Addr} {y : V} {u : Value} (hb : H b = some (.tup (k.map kV))) (ry : RelV y u) :
    KT H (putK kvs k y) (storedH xs k b u) := by
  have e : (kvs.any fun kv => decide (kv.1 = k)) = (atKey xs k).isSome := by
    rw [valV_any, (r.val k).isSome_eq, Option.isSome_map]
  unfold putK storedH
  rw [e]
  by_cases q : (atKey xs k).isSome = true
  · rw [if_pos q, if_pos q]; exact r.repl k ry
  · rw [if_neg q, if_neg q]; exact Paired.snoc r ⟨rfl, hb, ry⟩
theorem KT.keeps {H H' : Hp} {kvs : List (List Key × V)} {xs : List (List Key × Addr × Value)} (r : KT H kvs xs) (ht : ∀ b ys, H b = some (.tup ys) → H' b = some (.tup ys)) : KT H' kvs xs :=
  Paired.mapP r fun _ _ z => ⟨z.1, ht _ _ z.2.1, z.2.2⟩
section
variable {P : Program} {w : World} {H : Hp} {h : Heap} {a : Addr}
theorem rd_of {u : HO} (ok : HOk P w H h) (e : Rd H a u) : ObjOk P w H h a u := e.ok ok
theorem dk_rd {kvs : List (Key × V)} (ok : HOk P w H h) (e : Rd H a (.dK kvs)) : kvs.length ≤ sizeLine ∧ (a == sysModules) = false ∧ ∃ vs, KV kvs vs ∧ h.DictOf (mixKind P w) a vs :=
  show ObjOk P w H h a (.dK kvs) from rd_of ok e
theorem dk_of {kvs : List (Key × V)} (ok : HOk P w H h) (e : H a = some (.dK kvs)) : kvs.length ≤ sizeLine ∧ (a == sysModules) = false ∧ ∃ vs, KV kvs vs ∧ h.DictOf (mixKind P w) a vs := dk_rd ok (.inl e)
theorem key_of {ks : List Key} (ok : HOk P w H h) (e : H a = some (.tup (ks.map kV))) : (tupleKind (mixKind P w)).is h ks a := by
  obtain ⟨_, its, r, o, h1, h2, n, h3⟩ := (show ObjOk P w H h a (.tup (ks.map kV)) from ok a _ e)
  exact ⟨o, its.toArray, n, h1, h2, h3, by simpa using items_are r⟩
theorem dt_rd {kvs : List (List Key × V)} (ok : HOk P w H h) (e : Rd H a (.dT kvs)) : kvs.length ≤ sizeLine ∧ (a == sysModules) = false ∧
    ∃ xs, KT H kvs xs ∧ h.DictOfH (tupleKind (mixKind P w)) a xs := by
  obtain ⟨z, y, xs, r, o, es, ep, h1, h2, h3, h4, h5⟩ := (show ObjOk P w H h a (.dT kvs) from rd_of ok e)
  refine ⟨z, y, xs, r, o, es, ep, h1, h2, h3, h4, fun x hx => ?_, h5⟩
  have all : ∀ {l : List (List Key × V)} {m : List (List Key × Addr × Value)}, KT H l m → ∀ x ∈ m, (tupleKind (mixKind P w)).is h x.1 x.2.1 := by
    intro l m q
    induction q with
    | nil => intro x hx; exact nomatch hx
    | @cons p q ps qs hq t ih =>
      intro x hx
      rcases List.mem_cons.mp hx with e | hx
      · subst e
        exact key_of ok (by rw [← hq.1]; exact hq.2.1)
      · exact ih x hx
  exact all r x hx
theorem dt_of {kvs : List (List Key × V)} (ok : HOk P w H h) (e : H a = some (.dT kvs)) : kvs.length ≤ sizeLine ∧ (a == sysModules) = false ∧
    ∃ xs, KT H kvs xs ∧ h.DictOfH (tupleKind (mixKind P w)) a xs := dt_rd ok (.inl e)
end
def DGet (H : Hp) (a : Addr) (y : V) (r : Option V) : Prop :=
  (∃ kvs k, Rd H a (.dK kvs) ∧ y = kV k ∧ r = valV kvs k) ∨ ∃ kvs k b, Rd H a (.dT kvs) ∧ y = .ref b ∧ H b = some (.tup (k.map kV)) ∧ r = valV kvs k
def DPut (H : Hp) (a : Addr) (y v : V) (H' : Hp) : Prop :=
  (∃ kvs k, H a = some (.dK kvs) ∧ y = kV k ∧ kvs.length < sizeLine ∧ H' = upd H a (.dK (putK kvs k v))) ∨
  ∃ kvs k b, H a = some (.dT kvs) ∧ y = .ref b ∧ H b = some (.tup (k.map kV)) ∧ kvs.length < sizeLine ∧ H' = upd H a (.dT (putK kvs k v))
theorem DGet.k {H : Hp} {a : Addr} {kvs : List (Key × V)} {k : Key} (e : H a = some (.dK kvs)) : DGet H a (kV k) (valV kvs k) := .inl ⟨kvs, k, .inl e, rfl, rfl⟩
theorem DGet.t {H : Hp} {a b : Addr} {kvs : List (List Key × V)} {k : List Key} (e : H a = some (.dT kvs)) (eb : H b = some (.tup (k.map kV))) : DGet H a (.ref b) (valV kvs k) := .inr ⟨kvs, k, b, .inl e, rfl, eb, rfl⟩
theorem DPut.k {H : Hp} {a : Addr} {kvs : List (Key × V)} {k : Key} {v : V} (e : H a = some (.dK kvs)) (hl : kvs.length < sizeLine) : DPut H a (kV k) v (upd H a (.dK (putK kvs k v))) := .inl ⟨kvs, k, e, rfl, hl, rfl⟩
theorem DPut.t {H : Hp} {a b : Addr} {kvs : List (List Key × V)} {k : List Key} {v : V} (e : H a = some (.dT kvs)) (eb : H b = some (.tup (k.map kV))) (hl : kvs.length < sizeLine) :
    DPut H a (.ref b) v (upd H a (.dT (putK kvs k v))) := .inr ⟨kvs, k, b, e, rfl, eb, hl, rfl⟩
section
variable {X : Cx} {pins : List (Addr × Obj)} {σ : St} {H : Hp} {s : Shared} {a : Addr} {y v : V} {u r : Value} {o : Option V} {A : Around} {E : Value → Shared → Prop}
theorem Inv.big (I : Inv X pins σ H s) : sysModules < s.heap.objs.size := by
  have h : mainGlobals < s.heap.objs.size := (I.mod.glob.keeps I.bk).lt
  exact Nat.lt_trans (by decide) h
theorem d_getItem {Q : Value → Shared → Prop} (hu : A.units + 1 < cLine) (I : Inv X pins σ H s) (g : DGet H a y (some v)) (ry : RelV y u) (h : ∀ w' s', Inv X pins σ H s' → RelV v w' → Q w' s') :
    wpAny (model X.prog X.w) A (getItem (.ref a) u) Q E s := by
  rcases g with ⟨kvs, k, e, ey, l⟩ | ⟨kvs, k, b, e, ey, eb, l⟩
  · subst ey
    obtain ⟨z, hd, vs, rel, dd⟩ := dk_rd I.hok e
    obtain ⟨w', hw, rw'⟩ := RelO.some_of (v := v) (o := valueAt vs k) (by rw [l]; exact rel.val k)
    exact wpAny_getItem_of (kV_is ry) dd.mapOf hw (h w' _ (I.tok _) rw')
  · subst ey
    cases (show u = Value.ref b from ry)
    obtain ⟨z, hd, xs, rel, dd⟩ := dt_rd I.hok e
    obtain ⟨w', hw, rw'⟩ := RelO.some_of (v := v) (o := (atKey xs k).map (·.2)) (by rw [l]; exact rel.val k)
    obtain ⟨p, hp, hp2⟩ := Option.map_eq_some_iff.mp hw
    refine wpAny_getItem_heap (tupleKind_room_in1 hu) (key_of I.hok eb) dd hp ?_
    rw [hp2]
    exact h w' _ (I.tok _) rw'
theorem d_notIn {Q : Value → Shared → Prop} (hu : A.units + 1 < cLine) (I : Inv X pins σ H s) (g : DGet H a y o) (ry : RelV y u) (h : ∀ s', Inv X pins σ H s' → Q (.bool (!o.isSome)) s') :
    wpAny (model X.prog X.w) A (compareOp .NotIn u (.ref a)) Q E s := by
  rcases g with ⟨kvs, k, e, ey, l⟩ | ⟨kvs, k, b, e, ey, eb, l⟩
  · subst ey
    obtain ⟨z, hd, vs, rel, dd⟩ := dk_rd I.hok e
    refine wpAny_notIn_of (kV_is ry) hd dd.mapOf ?_
    rw [← (rel.val k).isSome_eq, ← l]
    exact h _ (I.tok _)
  · subst ey
    cases (show u = Value.ref b from ry)
    obtain ⟨z, hd, xs, rel, dd⟩ := dt_rd I.hok e
    refine wpAny_notIn_heap (tupleKind_room_in1 hu) (key_of I.hok eb) hd dd ?_
    have q := (rel.val k).isSome_eq
    rw [Option.isSome_map] at q
    rw [← q, ← l]
    exact h _ (I.tok _)
theorem d_write {h' : Heap} {t' : Nat} {ob : HO} (I : Inv X pins σ H s) (mu : Mut (H a)) (hs : Heap.SameBut a s.heap h') (he : ∃ q, h'.get? a = some q) (new : ObjOk X.prog X.w (upd H a ob) h' a ob) :
    Inv X pins σ (upd H a ob) { s with heap := h', toks := t' } :=
  I.write (x := a) (e := a) mu (.inl rfl) (fun b q hb z => (hs.2 b hb).trans z) he new
theorem dk_new {P : Program} {w : World} {H' : Hp} {h' : Heap} {kvs : List (Key × V)} {vs : List (Key × Value)} (z : kvs.length ≤ sizeLine) (hd : (a == sysModules) = false) (rel : KV kvs vs) (dd : h'.DictOf (mixKind P w) a vs) :
    ObjOk P w H' h' a (.dK kvs) := ⟨z, hd, vs, rel, dd⟩
theorem d_setItem {H' : Hp} {Q : Unit → Shared → Prop} (hu : A.units + 1 < cLine) (I : Inv X pins σ H s) (g : DPut H a y v H') (ry : RelV y u) (rv : RelV v r) (h : ∀ s', Inv X pins σ H' s' → Q () s') :
    wpAny (model X.prog X.w) A (setItem (.ref a) u r) Q E s := by
  rcases g with ⟨kvs, k, e, ey, l, eH⟩ | ⟨kvs, k, b, e, ey, eb, l, eH⟩
  · subst ey eH
    obtain ⟨z, hd, vs, rel, dd⟩ := dk_of I.hok e
    have hz : vs.length ≤ sizeLine := by rw [← rel.length]; exact z
    have hl : (putK kvs k v).length ≤ sizeLine := by have := length_putK kvs k v; omega
    refine wpAny_setItem_pairs (hsz := hz) (kV_is ry) dd fun h' dd' hs => h _ ?_
    have he : ∃ q, h'.get? a = some q := let ⟨q, _, _, hq, _⟩ := dd'; ⟨q, hq⟩
    exact d_write I (by rw [e]; exact True.intro) hs he (dk_new hl hd (rel.put k rv) dd')
  · subst ey eH
    cases (show u = Value.ref b from ry)
    obtain ⟨z, hd, xs, rel, dd⟩ := dt_of I.hok e
    have hz : xs.length ≤ sizeLine := by rw [← Paired.length rel]; exact z
    have hl : (putK kvs k v).length ≤ sizeLine := by have := length_putK kvs k v; omega
    refine wpAny_setItem_heap (hsz := hz) (tupleKind_room_in1 hu) (key_of I.hok eb) dd fun h' dd' hs => h _ ?_
    obtain ⟨q, es, ep, hq, h2, h3, h4, _, h5⟩ := dd'
    refine d_write I (by rw [e]; exact True.intro) hs ⟨q, hq⟩ ⟨hl, hd, _, (rel.put k eb rv).keeps fun c ys ec => ?_, q, es, ep, hq, h2, h3, h4, h5⟩
    rw [upd_ne (ne_of ec e (fun z => nomatch z))]
    exact ec
end
section
variable {X : Cx} {pins : List (Addr × Obj)} {σ : St} {H : Hp} {s : Shared} {a : Addr} {kvs : List (Key × V)} {k : Key} {u : Value} {A : Around} {E : Value → Shared → Prop}
end
def NoSl (i : Expr) : Prop := ∀ ov iv, subscripted i false ov iv = operate [ov, iv] (getItem ov iv)
theorem subD_of {prog : Program} {w : World} {A : Around} {E : Value → Shared → Prop} {s : Shared} {env : Env} {value slice : Expr} {pos : Pos} {T id : String} {Q : Value → Shared → Prop}
    (hl : typeLookup (.type T) "__getitem__" = pure (some (.builtin id))) (hs : NoSl slice)
    (h : wpAny (model prog w) A (eval value env) (fun o s₁ => wpAny (model prog w) A (eval slice env) (fun i s₂ => s₂.TypeIs o T ∧ wpAny (model prog w) A (getItem o i) Q E s₂) E s₁) E s) :
    wpAny (model prog w) A (eval (.Subscript value slice pos) env) Q E s := by
  refine Subscript_ (wpAny_mono h (fun o s₁ h₁ => wpAny_mono h₁ (fun i s₂ h₂ => ?_) fun _ _ x => x) fun _ _ x => x)
  obtain ⟨hT, h₂⟩ := h₂
  unfold subscriptTail
  refine wpAny_bind ?_
  rw [getitemInPython_of_ne hT.not_modules]
  refine wpAny_bind (wpAny_specialOf hT hl ?_)
  have fin : wpAny (model prog w) A (subscripted slice false o i) (fun r s₃ => wpAny (model prog w) A (letTemporaryGo value o r >>= fun _ => pure r) Q E s₃) E s₂ := by
    rw [hs o i]
    exact wpAny_operating (wpAny_mono h₂ (fun r s₃ h₃ => wpAny_bind (wpAny_letTemporaryGo (wpAny_pure h₃))) fun _ _ x => x)
  first
    | exact wpAny_pure (wpAny_bind fin)
    | exact wpAny_bind (wpAny_pure (wpAny_bind fin))
    | exact wpAny_bind fin
theorem dict_typeIs {X : Cx} {pins : List (Addr × Obj)} {σ : St} {H : Hp} {s : Shared} {a : Addr} {y : V} {o : Option V} (I : Inv X pins σ H s) (g : DGet H a y o) : s.TypeIs (.ref a) "dict" := by
  rcases g with ⟨kvs, k, e, _, _⟩ | ⟨kvs, k, b, e, _, _, _⟩
  · obtain ⟨_, _, vs, _, dd⟩ := dk_rd I.hok e
    exact dd.typeIs
  · obtain ⟨_, _, xs, _, dd⟩ := dt_rd I.hok e
    exact dd.typeIs
def tDGet (td ty : TE) : TE := fun σ H Q => td σ H fun x H1 => ty σ H1 fun y H2 => ∃ a v, x = .ref a ∧ DGet H2 a y (some v) ∧ Q v H2
def tDNotIn (ty td : TE) : TE := fun σ H Q => ty σ H fun y H1 => td σ H1 fun x H2 => ∃ a o, x = .ref a ∧ DGet H2 a y o ∧ Q (.bl (!o.isSome)) H2
def sDPut (td ty tv : TE) : TS := fun D σ H => tv σ H fun v H1 => td σ H1 fun x H2 => ty σ H2 fun y H3 => ∃ a H4, x = .ref a ∧ DPut H3 a y v H4 ∧ D.nx σ H4
section
variable {X : Cx} {o i e value : Expr} {pos pos' tpos : Pos} {td ty tv : TE}
theorem pe_dget (hu : X.A.units + 1 < cLine) (ho : PE X o td) (hi : PE X i ty) (hs : NoSl i) : PE X (.Subscript o i pos) (tDGet td ty) := by
  intro pins s σ H Q I h
  refine subD_of PySem.F.slot_dict_getitem.lookup hs (thn (ho pins s σ H _ I h) fun u s1 ⟨x, H1, I1, rx, q1⟩ => thn (hi pins s1 σ H1 _ I1 q1) fun iv s2 ⟨y, H2, I2, ry, a, v, ex, g, q2⟩ => ?_)
  subst ex
  obtain rfl : u = Value.ref a := rx
  exact ⟨dict_typeIs I2 g, d_getItem hu I2 g ry fun w' s3 I3 rw' => ⟨v, H2, I3, rw', q2⟩⟩
theorem pc_dnotin (hu : X.A.units + 1 < cLine) (hi : PE X i ty) (ho : PE X o td) : PC X .NotIn i o (tDNotIn ty td) := by
  intro pins s σ H Q I h
  refine thn (hi pins s σ H _ I h) fun iv s1 ⟨y, H1, I1, ry, q1⟩ => thn (ho pins s1 σ H1 _ I1 q1) fun u s2 ⟨x, H2, I2, rx, a, ov, ex, g, q2⟩ => ?_
  subst ex
  obtain rfl : u = Value.ref a := rx
  exact d_notIn hu I2 g ry fun s3 I3 => ⟨.bl (!ov.isSome), H2, I3, rfl, q2⟩
theorem ps_dput (hu : X.A.units + 1 < cLine) (ho : PE X o td) (hi : PE X i ty) (hv : PE X value tv) (hs : swapsWith value (some (.Subscript o i pos')) pos.line X.env = pure false) :
    PS X (.Assign [.Subscript o i pos'] value pos) (sDPut td ty tv) := by
  intro pins s σ H D I h
  refine wpAny_Assign_Subscript (thn (hv pins s σ H _ I h) fun r s1 ⟨v, H1, I1, rv, q1⟩ => thn (ho pins s1 σ H1 _ I1 q1) fun u s2 ⟨x, H2, I2, rx, q2⟩ => thn (hi pins s2 σ H2 _ I2 q2) fun iv s3 ⟨y, H3, I3, ry, a, H4, ex, g, q3⟩ => ?_) hs
  subst ex
  obtain rfl : u = Value.ref a := rx
  exact d_setItem hu I3 g ry rv fun s4 I4 => ⟨σ, H4, I4, q3⟩
end
theorem dk_empty {P : Program} {w : World} {H : Hp} (h : Heap) (hb : sysModules < h.objs.size) : ObjOk P w H (h.push { cls := .type "dict", data := .dict #[] }) h.objs.size (.dK []) :=
  ⟨Nat.zero_le _, beq_eq_false_iff_ne.mpr (Ne.symm (Nat.ne_of_lt hb)), [], .nil, Heap.DictOf.new h⟩
def tDNewK : TE := fun _ H Q => ∀ p, H p = none → Q (.ref p) (upd H p (.dK []))
section
variable {X : Cx} {pos : Pos}
theorem pe_dnewK : PE X (.Dict [] [] pos) tDNewK := fun pins s σ H Q I h =>
  wpAny_Dict_empty ⟨.ref s.heap.objs.size, _, I.laid (a := s.heap.objs.size) (o := .dK []) (t' := s.toks) (fun _ _ q => Heap.get?_push_of_some _ q) (Nat.le_refl _) (dk_empty s.heap I.big), rfl, h _ (I.hok.fresh (Nat.le_refl _))⟩
end
end L2
namespace L2
open PySem PySem.Spec PyProof.Rows
theorem pre_sum (ns : List Int) : ∀ k, k ≤ ns.length → preSum (fun i => (ns[i]?).getD 0) k = (ns.take k).sum
  | 0, _ => rfl
  | k + 1, h => by
    have ih := pre_sum ns k (by omega)
    rw [preSum, ih, List.take_add_one, List.getElem?_eq_getElem (by omega), List.sum_append]
    show _ + ns[k] = _ + (ns[k] + 0)
    rw [Int.add_zero]
section
variable {X : Cx}
def rSumP (K : PySem.W.Frag) : List V → Hp → VK → Prop := fun xs H Q => ∃ (p : Addr) (ns : List Int), xs = [.ref p] ∧ SqL K H p (ns.map V.int) ∧ Q (.int ns.sum) H
theorem call_sumP (hc : X.calm = true) : CallR X (.builtin "sum") (rSumP X.K) := by
  intro pins s σ H xs us Q I r h
  obtain ⟨p, ns, rfl, hS, q⟩ := h
  obtain ⟨u, rfl, ru⟩ := vals1 r
  cases ru
  obtain ⟨its, rv, pl, hz⟩ := I.list hS
  have hlen : its.toArray.size = ns.length := by
    have := rv.length
    simp at this
    simp [this]
  have hlt : p < s.heap.objs.size := by obtain ⟨o, n, e, _⟩ := pl; exact Heap.lt_size e
  refine call_sum_walkG (wpAny_pyIter_list pl.isList ?_)
  refine ⟨s.heap.objs.size, _, _, its.toArray.size, _, _, fun i => (ns[i]?).getD 0, rfl, Walks.list (show X.A.in1.handled = none from I.ok.hd hc) _ _ (Nat.ne_of_lt hlt) its.toArray, ⟨⟨_, Heap.get?_push_size _ rfl, rfl, rfl⟩, pl.isList.push _⟩, ?_, ?_, fun h' tk t' k => ?_⟩
  · intro b hb
    have sz : (s.heap.push { cls := .type "list_iterator", data := .fields #[.ref p, .int 0 0] }).objs.size = s.heap.objs.size + 1 := Heap.size_push ..
    rcases List.mem_cons.mp hb with e | e
    · rw [e]; show _ < (s.heap.push _).objs.size; rw [Heap.size_push]; exact Nat.lt_succ_self _
    · rw [List.mem_singleton.mp e]; show _ < (s.heap.push _).objs.size; rw [Heap.size_push]; exact Nat.lt_succ_of_lt hlt
  · intro i v hv
    have hi : i < ns.length := by
      rw [← hlen]
      exact (Array.getElem?_eq_some_iff.mp hv).1
    obtain ⟨u', hu', t, ru'⟩ := rv.get (i := i) (x := .int ns[i]) (by rw [List.getElem?_map, List.getElem?_eq_getElem hi]; rfl)
    have e : its[i]? = some v := by simpa using hv
    rw [hu'] at e
    cases e
    show ∃ t, v = Value.int ((ns[i]?).getD 0) t
    rw [List.getElem?_eq_getElem hi]
    exact ⟨t, ru'⟩
  · rw [hlen, pre_sum ns _ (Nat.le_refl _), List.take_length]
    exact ⟨.int _, H, I.kept (t' := tk) fun b o e => k b o (by simpa using Nat.ne_of_lt (Heap.lt_size e)) (Heap.get?_push_of_some _ e), ⟨t', rfl⟩, q⟩
def rSumT (K : PySem.W.Frag) : List V → Hp → VK → Prop := fun xs H Q => ∃ (p : Addr) (ns : List Int), xs = [.ref p] ∧ SqT K H p (ns.map V.int) ∧ Q (.int ns.sum) H
theorem call_sumT (hc : X.calm = true) : CallR X (.builtin "sum") (rSumT X.K) := by
  intro pins s σ H xs us Q I r h
  obtain ⟨p, ns, rfl, hS, q⟩ := h
  obtain ⟨u, rfl, ru⟩ := vals1 r
  cases ru
  obtain ⟨its, rv, pl, hz⟩ := I.tuple hS
  have pl : s.heap.IsTuple p its.toArray := pl
  have hlen : its.toArray.size = ns.length := by
    have := rv.length
    simp at this
    simp [this]
  have hlt : p < s.heap.objs.size := by obtain ⟨o, e, _⟩ := pl; exact Heap.lt_size e
  refine call_sum_walkG (wpAny_pyIter_tuple pl ?_)
  refine ⟨s.heap.objs.size, _, _, its.toArray.size, _, _, fun i => (ns[i]?).getD 0, rfl, Walks.tuple (show X.A.in1.handled = none from I.ok.hd hc) _ _ (Nat.ne_of_lt hlt) its.toArray, ⟨⟨_, Heap.get?_push_size _ rfl, rfl, rfl⟩, ?_⟩, ?_, ?_, fun h' tk t' k => ?_⟩
  · obtain ⟨o, e, c⟩ := pl
    exact ⟨o, Heap.get?_push_of_some _ e, c⟩
  · intro b hb
    rcases List.mem_cons.mp hb with e | e
    · rw [e]; show _ < (s.heap.push _).objs.size; rw [Heap.size_push]; exact Nat.lt_succ_self _
    · rw [List.mem_singleton.mp e]; show _ < (s.heap.push _).objs.size; rw [Heap.size_push]; exact Nat.lt_succ_of_lt hlt
  · intro i v hv
    have hi : i < ns.length := by
      rw [← hlen]
      exact (Array.getElem?_eq_some_iff.mp hv).1
    obtain ⟨u', hu', t, ru'⟩ := rv.get (i := i) (x := .int ns[i]) (by rw [List.getElem?_map, List.getElem?_eq_getElem hi]; rfl)
    have e : its[i]? = some v := by simpa using hv
    rw [hu'] at e
    cases e
    show ∃ t, v = Value.int ((ns[i]?).getD 0) t
    rw [List.getElem?_eq_getElem hi]
    exact ⟨t, ru'⟩
  · rw [hlen, pre_sum ns _ (Nat.le_refl _), List.take_length]
    exact ⟨.int _, H, I.kept (t' := tk) fun b o e => k b o (by simpa using Nat.ne_of_lt (Heap.lt_size e)) (Heap.get?_push_of_some _ e), ⟨t', rfl⟩, q⟩
end
end L2
local macro_rules | `(tactic| walk_at "cond") => `(tactic| first | rfl | decide | omega | (show (0 : Int) < _; decide) | (show (0 : Int) < _; omega) | exact ⟨by decide, by decide⟩ | exact ⟨by omega, by omega⟩ | exact Or.inl ⟨by decide, by decide⟩ | exact Or.inr ⟨by decide, by decide⟩ | exact Or.inl ⟨by omega, by omega⟩ | exact Or.inr ⟨by omega, by omega⟩ | assumption)
local macro_rules | `(tactic| walk_at "rd1") => `(tactic| first
  | refine ⟨_, rfl, ?_⟩
  | refine ⟨_, _, rfl, rfl, ?_⟩
  | (refine And.intro ?_ ?_; walk_at "cond"))
local macro_rules | `(tactic| walk_at "rd") => `(tactic| repeat walk_at "rd1")
set_option maxHeartbeats 4000000
namespace Mine
open PySem L2
theorem ln0 {α : Type} {P : List α → Prop} (h : P []) : ∀ us : List α, us.length = 0 → P us := fun us hl => by
  cases us with
  | nil => exact h
  | cons a r => exact absurd hl (Nat.succ_ne_zero _)
theorem ln1 {α : Type} {P : List α → Prop} (h : ∀ a0 : α, P [a0]) : ∀ us : List α, us.length = 1 → P us := fun us hl => by
  cases us with
  | nil => exact absurd hl.symm (Nat.succ_ne_zero _)
  | cons a r => exact ln0 (P := fun r => P (a :: r)) (h a) r (Nat.succ.inj hl)
theorem ln2 {α : Type} {P : List α → Prop} (h : ∀ a0 a1 : α, P [a0, a1]) : ∀ us : List α, us.length = 2 → P us := fun us hl => by
  cases us with
  | nil => exact absurd hl.symm (Nat.succ_ne_zero _)
  | cons a r => exact ln1 (P := fun r => P (a :: r)) (fun a1 => h a a1) r (Nat.succ.inj hl)
theorem ln3 {α : Type} {P : List α → Prop} (h : ∀ a0 a1 a2 : α, P [a0, a1, a2]) : ∀ us : List α, us.length = 3 → P us := fun us hl => by
  cases us with
  | nil => exact absurd hl.symm (Nat.succ_ne_zero _)
  | cons a r => exact ln2 (P := fun r => P (a :: r)) (fun a1 a2 => h a a1 a2) r (Nat.succ.inj hl)
theorem ln4 {α : Type} {P : List α → Prop} (h : ∀ a0 a1 a2 a3 : α, P [a0, a1, a2, a3]) : ∀ us : List α, us.length = 4 → P us := fun us hl => by
  cases us with
  | nil => exact absurd hl.symm (Nat.succ_ne_zero _)
  | cons a r => exact ln3 (P := fun r => P (a :: r)) (fun a1 a2 a3 => h a a1 a2 a3) r (Nat.succ.inj hl)
theorem ex1 {α : Type} {xs : List α} (h : xs.length = 1) : ∃ a0, xs = [a0] := ln1 (P := fun xs => ∃ a0, xs = [a0]) (fun a0 => ⟨a0, rfl⟩) xs h
theorem ex2 {α : Type} {xs : List α} (h : xs.length = 2) : ∃ a0 a1, xs = [a0, a1] := ln2 (P := fun xs => ∃ a0 a1, xs = [a0, a1]) (fun a0 a1 => ⟨a0, a1, rfl⟩) xs h
def tf (p : Program) (i : Nat) : Stmt := p.main.body.getD i (.Pass ⟨0, 0, 0, 0⟩)
def top (i : Nat) : Stmt := tf PySem.Challenge.pw_stackwarden_k16_wrong_bytes i
abbrev s_law_cell : Stmt := top 25
abbrev s_law_ended : Stmt := top 30
abbrev s_law_signs : Stmt := top 27
abbrev s_law_size : Stmt := top 29
abbrev s_law_chunk : Stmt := top 31
abbrev s_law_starts : Stmt := top 32
abbrev s_wants : Stmt := top 9
abbrev s_tail_want : Stmt := top 15
abbrev s_placed : Stmt := top 22
abbrev s_low_want : Stmt := top 14
abbrev s_low_is_right : Stmt := top 17
abbrev s_joined_number : Stmt := top 18
abbrev s_push_size : Stmt := top 13
abbrev s_signed_number : Stmt := top 19
abbrev s_row_of : Stmt := top 21
abbrev s_tail_size : Stmt := top 16
abbrev s_row_at : Stmt := top 20
abbrev s_rows_of : Stmt := top 23
abbrev s_law_told : Stmt := top 38
abbrev s_law_amid : Stmt := top 42
abbrev s_law_bytes : Stmt := top 33
abbrev s_law_word : Stmt := top 26
abbrev s_law_row : Stmt := top 28
abbrev s_law_cut : Stmt := top 40
abbrev s_law_many : Stmt := top 41
abbrev s_law_long : Stmt := top 36
abbrev s_law_low : Stmt := top 35
abbrev s_law_wrong : Stmt := top 37
abbrev s_law_put_in : Stmt := top 39
abbrev s_law_rows : Stmt := top 34
abbrev s_law : Stmt := top 43
def kd_SIGNS : PyData := .tuple [.str "push", .str "load", .str "store", .str "dup", .str "swap", .str "drop", .str "add", .str "sub", .str "mul", .str "div", .str "rem", .str "less", .str "same", .str "jump", .str "zero", .str "kin", .str "make", .str "fill", .str "begin", .str "get", .str "put", .str "call", .str "toss", .str "say", .str "give"]
def kd_WANTS : List (Str × PyData) := [("push", .tuple [.str "word"]), ("load", .tuple [.str "box"]), ("store", .tuple [.str "box"]), ("jump", .tuple [.str "place"]), ("zero", .tuple [.str "place"]), ("kin", .tuple [.str "make", .str "place"]), ("make", .tuple [.str "make"]), ("fill", .tuple [.str "make", .str "field"]), ("begin", .tuple [.str "make"]), ("get", .tuple [.str "make", .str "field"]), ("put", .tuple [.str "make", .str "field"]), ("call", .tuple [.str "part"])]
abbrev i_NoCode : Stmt := inner (top 4)
theorem same_new {H : Hp} {p : Addr} (h : H p = none) (o : HO) : Same H (upd H p o) := fun b u q => by rw [upd_ne (ne_of_none q h)]; exact q
theorem RdV.tupInv {K : PySem.W.Frag} {H : Hp} {v : V} {ds : List PyData} (h : RdV K H v (.tuple ds)) : ∃ (a : Addr) (xs : List V), v = .ref a ∧ SqT K H a xs ∧ RdAll K H xs ds := by
  cases h with
  | tup h hl hi => exact ⟨_, _, rfl, h, hl, hi⟩
theorem rd_strs {K : PySem.W.Frag} {H : Hp} {ss : List Str} {xs : List V} (h : RdAll K H xs (ss.map PyData.str)) : xs = ss.map V.str := by
  have hl := h.1
  rw [List.length_map] at hl
  apply List.ext_getElem?
  intro i
  by_cases hi : i < xs.length
  · have z := h.2 i xs[i] (.str (ss[i]'(by omega))) (List.getElem?_eq_getElem hi) (by rw [List.getElem?_map, List.getElem?_eq_getElem (by omega)]; rfl)
    have e : xs[i] = .str (ss[i]'(by omega)) := by
      generalize xs[i] = y at z ⊢
      cases z
      rfl
    rw [List.getElem?_eq_getElem hi, e, List.getElem?_map, List.getElem?_eq_getElem (by omega)]
    rfl
  · rw [List.getElem?_eq_none (by omega), List.getElem?_eq_none (by simp; omega)]
def signsL : List Str := ["push", "load", "store", "dup", "swap", "drop", "add", "sub", "mul", "div", "rem", "less", "same", "jump", "zero", "kin", "make", "fill", "begin", "get", "put", "call", "toss", "say", "give"]
def convT : PyData → List Str
  | .tuple ds => ds.map fun d => match d with | .str s => s | _ => ""
  | _ => []
def wantsL (x : Str) : List Str := ((getP kd_WANTS x).map convT).getD []
theorem wants_some {x : Str} {dt : PyData} (h : getP kd_WANTS x = some dt) : dt = .tuple ((wantsL x).map PyData.str) := by
  have e : wantsL x = convT dt := by unfold wantsL; rw [h]; rfl
  rw [e]
  have all : ∀ p ∈ kd_WANTS, p.2 = .tuple ((convT p.2).map PyData.str) := by
    intro p hp
    simp only [kd_WANTS, List.mem_cons, List.not_mem_nil, or_false] at hp
    repeat' (rcases hp with rfl | hp)
    all_goals first | rfl | (subst hp; rfl)
  unfold getP at h
  cases q : kd_WANTS.find? fun kv => decide (kv.1 = x) with
  | none => rw [q] at h; cases h
  | some kv =>
    rw [q] at h
    cases h
    exact all kv (List.mem_of_find?_eq_some q)
theorem wants_none {x : Str} (h : getP kd_WANTS x = none) : wantsL x = [] := by unfold wantsL; rw [h]; rfl
theorem signs_at {j : Nat} {x : Str} (h : signsL[j]? = some x) : ∀ m, m < j → signsL[m]? ≠ some x := by
  intro m hm e
  have nd : signsL.Nodup := by decide +kernel
  have h1 := (List.getElem?_eq_some_iff.mp h)
  have h2 := (List.getElem?_eq_some_iff.mp e)
  obtain ⟨l1, e1⟩ := h1
  obtain ⟨l2, e2⟩ := h2
  have := (List.getElem_inj nd (h₀ := l1) (h₁ := l2)).mp (e1.trans e2.symm)
  omega
theorem signs_tup {K : PySem.W.Frag} {d : Addr} (c : ∀ H : Hp, RdV K H (.ref d) kd_SIGNS) (H : Hp) : SqT K H d (signsL.map V.str) := by
  obtain ⟨a, xs, e, h1, h2⟩ := RdV.tupInv (c H)
  cases e
  have z := rd_strs (ss := signsL) h2
  rw [← z]
  exact h1
theorem inV_strs (n : Str) : ∀ l : List Str, inV (.str n) (l.map V.str) = decide (n ∈ l)
  | [] => by simp [inV]
  | x :: r => by
    have ih := inV_strs n r
    show (eqV (.str x) (.str n) || inV (.str n) (r.map V.str)) = decide (n ∈ x :: r)
    rw [ih]
    by_cases h : x = n
    · subst h; simp [eqV]
    · have h' : ¬ n = x := fun e => h e.symm
      simp [eqV, h, h', List.mem_cons]
theorem tup_updL {K : PySem.W.Frag} {H : Hp} {t r : Addr} {xs ys : List V} {o : HO} (h : SqT K H t xs) (hr : H r = some (.lst ys)) : SqT K (upd H r o) t xs := by
  rcases h with (h | ⟨u, h⟩) | h
  · exact .inl (.inl (by rw [upd_ne (ne_of h hr (by intro z; cases z))]; exact h))
  · exact .inl (.inr ⟨u, by rw [upd_ne (ne_of h hr (by intro z; cases z))]; exact h⟩)
  · exact .inr h
theorem small1000 {n : Nat} (h : n ≤ 1000) : n < sizeLine := Nat.lt_of_le_of_lt h (by decide)
theorem Same_upd {H H' : Hp} {r : Addr} (e : Same H H') (h : H r = none) (o : HO) : Same H (upd H' r o) := fun c u q => by rw [upd_ne (ne_of_none q h)]; exact e c u q
def inW (n : Int) : Prop := -2147483648 ≤ n ∧ n ≤ 2147483647
theorem same_fresh {H : Hp} {p : Addr} (h : H p = none) (o : HO) : Same H (upd H p o) := same_new h o
inductive Ro where
  | push (w : Int)
  | low (s : Str) (n : Nat)
  | pla (s : Str) (p : Nat)
  | kin (c p : Nat)
  | fld (s : Str) (c f : Nat)
  | bare (s : Str)
def lowL : List Str := ["load", "store", "make", "begin", "call"]
def plaL : List Str := ["jump", "zero"]
def fldL : List Str := ["fill", "get", "put"]
def baL : List Str := ["dup", "swap", "drop", "add", "sub", "mul", "div", "rem", "less", "same", "toss", "say", "give"]
def roS : Ro → Str
  | .push _ => "push"
  | .low s _ => s
  | .pla s _ => s
  | .kin _ _ => "kin"
  | .fld s _ _ => s
  | .bare s => s
def roN : Ro → List Int
  | .push w => [w]
  | .low _ n => [(n : Int)]
  | .pla _ p => [(p : Int)]
  | .kin c p => [(c : Int), (p : Int)]
  | .fld _ c f => [(c : Int), (f : Int)]
  | .bare _ => []
def roV (r : Ro) : List V := .str (roS r) :: (roN r).map V.int
def Ro.Ok (many : Nat) : Ro → Prop
  | .push w => inW w
  | .low s n => s ∈ lowL ∧ n < 8
  | .pla s p => s ∈ plaL ∧ p < many
  | .kin c p => c < 8 ∧ p < many
  | .fld s c f => s ∈ fldL ∧ c < 8 ∧ f < 8
  | .bare s => s ∈ baL
theorem Ro.Ok.mono {r : Ro} {n m : Nat} (h : r.Ok n) (le : n ≤ m) : r.Ok m := by
  cases r with
  | push w => exact h
  | low s n => exact h
  | pla s p => exact ⟨h.1, Nat.lt_of_lt_of_le h.2 le⟩
  | kin c p => exact ⟨h.1, Nat.lt_of_lt_of_le h.2 le⟩
  | fld s c f => exact h
  | bare s => exact h
theorem Ro.Ok.sign {r : Ro} {n : Nat} (h : r.Ok n) : roS r ∈ signsL := by
  cases r with
  | push w => exact (by decide +kernel : ("push" : Str) ∈ signsL)
  | low s n => exact (by decide +kernel : ∀ s ∈ lowL, s ∈ signsL) s h.1
  | pla s p => exact (by decide +kernel : ∀ s ∈ plaL, s ∈ signsL) s h.1
  | kin c p => exact (by decide +kernel : ("kin" : Str) ∈ signsL)
  | fld s c f => exact (by decide +kernel : ∀ s ∈ fldL, s ∈ signsL) s h.1
  | bare s => exact (by decide +kernel : ∀ s ∈ baL, s ∈ signsL) s h
def signNo (s : Str) : Nat := signsL.idxOf s
theorem sign_no : ∀ s ∈ signsL, signsL[signNo s]? = some s ∧ signNo s < 25 := by decide +kernel
def psz (w : Int) : Nat := if w = 0 then 0 else if -128 ≤ w ∧ w < 128 then 1 else if -32768 ≤ w ∧ w < 32768 then 2 else if -8388608 ≤ w ∧ w < 8388608 then 3 else 4
theorem psz_le (w : Int) : psz w ≤ 4 := by
  unfold psz
  split
  · omega
  · split
    · omega
    · split
      · omega
      · split <;> omega
def lowK : Ro → Nat
  | .push w => psz w
  | .low _ n => n
  | .pla _ _ => 0
  | .kin c _ => c
  | .fld _ c _ => c
  | .bare _ => 0
def tlK : Ro → Nat
  | .push w => psz w
  | .low _ _ => 0
  | .pla _ _ => 2
  | .kin _ _ => 2
  | .fld _ _ _ => 1
  | .bare _ => 0
theorem tl_le (r : Ro) : tlK r ≤ 4 := by
  cases r with
  | push w => exact psz_le w
  | low s n => exact Nat.zero_le _
  | pla s p => exact (by decide : 2 ≤ 4)
  | kin c p => exact (by decide : 2 ≤ 4)
  | fld s c f => exact (by decide : 1 ≤ 4)
  | bare s => exact Nat.zero_le _
theorem low_le {r : Ro} {n : Nat} (h : r.Ok n) : lowK r < 8 := by
  cases r with
  | push w => have := psz_le w; show psz w < 8; omega
  | low s n => exact h.2
  | pla s p => exact (by decide : 0 < 8)
  | kin c p => exact h.1
  | fld s c f => exact h.2.1
  | bare s => exact (by decide : 0 < 8)
def lowW (s : Str) : Option Str := match wantsL s with | [] => none | x :: _ => if x = "place" then none else some x
def tailW (s : Str) : Option Str := match (wantsL s).getLast? with | none => none | some x => if x ∈ (["word", "field", "place"] : List Str) then some x else none
def optS : Option Str → V
  | none => .non
  | some x => .str x
def tszK (s : Str) (l : Int) : Int := if tailW s = some ("word" : Str) then l else if tailW s = some ("field" : Str) then 1 else if tailW s = some ("place" : Str) then 2 else 0
theorem tsz_row {r : Ro} {n : Nat} (h : r.Ok n) : tszK (roS r) (lowK r : Int) = (tlK r : Int) := by
  unfold tszK
  cases r with
  | push w => rw [show tailW (roS (.push w)) = some ("word" : Str) from (by decide +kernel : tailW "push" = some ("word" : Str))]; rfl
  | low s n => have z := (by decide +kernel : ∀ s ∈ lowL, tailW s = none) s h.1; rw [show tailW (roS (.low s n)) = none from z]; rfl
  | pla s p => have z := (by decide +kernel : ∀ s ∈ plaL, tailW s = some ("place" : Str)) s h.1; rw [show tailW (roS (.pla s p)) = some ("place" : Str) from z]; rfl
  | kin c p => rw [show tailW (roS (.kin c p)) = some ("place" : Str) from (by decide +kernel : tailW "kin" = some ("place" : Str))]; rfl
  | fld s c f => have z := (by decide +kernel : ∀ s ∈ fldL, tailW s = some ("field" : Str)) s h.1; rw [show tailW (roS (.fld s c f)) = some ("field" : Str) from z]; rfl
  | bare s => have z := (by decide +kernel : ∀ s ∈ baL, tailW s = none) s h; rw [show tailW (roS (.bare s)) = none from z]; rfl
def splitK (n : Int) (k : Nat) : List Int := (List.range k).map fun i => n / 2 ^ (8 * (k - 1 - i)) % 256
theorem split_len (n : Int) (k : Nat) : (splitK n k).length = k := by simp [splitK]
def atK (rs : List Ro) (i : Nat) : Nat := ((rs.take i).map fun r => 1 + tlK r).sum
theorem at_zero (rs : List Ro) : atK rs 0 = 0 := by simp [atK]
theorem at_succ {rs : List Ro} {i : Nat} {r : Ro} (h : rs[i]? = some r) : atK rs (i + 1) = atK rs i + (1 + tlK r) := by
  unfold atK
  rw [List.take_add_one, h]
  simp
theorem at_le (rs : List Ro) (i : Nat) (h : i ≤ rs.length) : atK rs i ≤ 5 * i := by
  induction i with
  | zero => rw [at_zero]; omega
  | succ i ih =>
    have hi : i < rs.length := by omega
    rw [at_succ (List.getElem?_eq_getElem hi)]
    have := ih (by omega)
    have := tl_le rs[i]
    omega
def startsK (rs : List Ro) : List Int := (List.range rs.length).map fun i => (atK rs i : Int)
def numK (rs : List Ro) : Ro → Int
  | .push w => w
  | .low _ n => (n : Int)
  | .pla _ p => (atK rs p : Int)
  | .kin _ p => (atK rs p : Int)
  | .fld _ _ f => (f : Int)
  | .bare _ => 0
def rowBy (rs : List Ro) (r : Ro) : List Int := ((8 * signNo (roS r) + lowK r : Nat) : Int) :: splitK (numK rs r) (tlK r)
def byK (rs : List Ro) (i : Nat) : List Int := ((rs.take i).map (rowBy rs)).flatten
def bytesK (rs : List Ro) : List Int := byK rs rs.length
theorem row_len (rs : List Ro) (r : Ro) : (rowBy rs r).length = 1 + tlK r := by
  show (splitK (numK rs r) (tlK r)).length + 1 = _
  rw [split_len]
  omega
theorem by_zero (rs : List Ro) : byK rs 0 = [] := by simp [byK]
theorem by_succ {rs : List Ro} {i : Nat} {r : Ro} (h : rs[i]? = some r) : byK rs (i + 1) = byK rs i ++ rowBy rs r := by
  unfold byK
  rw [List.take_add_one, h]
  simp
theorem by_len (rs : List Ro) : ∀ i, i ≤ rs.length → (byK rs i).length = atK rs i
  | 0, _ => by rw [by_zero, at_zero]; rfl
  | i + 1, h => by
    have hi : i < rs.length := by omega
    rw [by_succ (List.getElem?_eq_getElem hi), at_succ (List.getElem?_eq_getElem hi), List.length_append, by_len rs i (by omega), row_len]
theorem by_split (rs : List Ro) (i : Nat) (h : i ≤ rs.length) : ∃ t, bytesK rs = byK rs i ++ t := by
  refine ⟨((rs.drop i).map (rowBy rs)).flatten, ?_⟩
  unfold bytesK byK
  rw [List.take_length, ← List.flatten_append, ← List.map_append, List.take_append_drop]
theorem bytes_at {rs : List Ro} {i : Nat} {r : Ro} (h : rs[i]? = some r) : ∃ t, (bytesK rs).drop (atK rs i) = rowBy rs r ++ t := by
  have hi := (List.getElem?_eq_some_iff.mp h).1
  obtain ⟨t, e⟩ := by_split rs (i + 1) hi
  rw [by_succ h, List.append_assoc] at e
  refine ⟨t, ?_⟩
  rw [e, ← by_len rs i (by omega)]
  exact List.drop_left' rfl
theorem bytes_len (rs : List Ro) : (bytesK rs).length = atK rs rs.length := by_len rs _ (Nat.le_refl _)
theorem split_in (n : Int) (k : Nat) : ∀ x ∈ splitK n k, 0 ≤ x ∧ x ≤ 255 := by
  intro x hx
  obtain ⟨i, _, rfl⟩ := List.mem_map.mp hx
  omega
theorem bytes_in {rs : List Ro} (h : ∀ r ∈ rs, r.Ok rs.length) : ∀ x ∈ bytesK rs, 0 ≤ x ∧ x ≤ 255 := by
  intro x hx
  unfold bytesK byK at hx
  rw [List.take_length] at hx
  obtain ⟨l, hl, hxl⟩ := List.mem_flatten.mp hx
  obtain ⟨r, hr, rfl⟩ := List.mem_map.mp hl
  rcases List.mem_cons.mp hxl with rfl | hx'
  · have h1 := (sign_no _ (h r hr).sign).2
    have h2 := low_le (h r hr)
    omega
  · exact split_in _ _ x hx'
def numI (ns : List Int) : Int := ns.foldl (fun a x => 256 * a + x) 0
def sgnI (ns : List Int) : Int := if 0 < ns.length ∧ (ns[0]?).getD 0 > 127 then numI ns - 2 ^ (8 * ns.length) else numI ns
theorem split1 (n : Int) : splitK n 1 = [n / 1 % 256] := rfl
theorem split2 (n : Int) : splitK n 2 = [n / 256 % 256, n / 1 % 256] := rfl
theorem split3 (n : Int) : splitK n 3 = [n / 65536 % 256, n / 256 % 256, n / 1 % 256] := rfl
theorem split4 (n : Int) : splitK n 4 = [n / 16777216 % 256, n / 65536 % 256, n / 256 % 256, n / 1 % 256] := rfl
theorem num_split {n : Int} (h0 : 0 ≤ n) (h1 : n < 65536) : numI (splitK n 2) = n := by
  rw [split2]
  show 256 * (256 * 0 + n / 256 % 256) + n / 1 % 256 = n
  omega
theorem sgn_split {w : Int} (h : inW w) : sgnI (splitK w (psz w)) = w := by
  unfold inW at h
  unfold psz
  split
  · next e => subst e; rfl
  · split
    · rw [split1]
      show (if 0 < 1 ∧ w / 1 % 256 > 127 then (256 * 0 + w / 1 % 256) - 2 ^ 8 else (256 * 0 + w / 1 % 256)) = w
      split <;> omega
    · split
      · rw [split2]
        show (if 0 < 2 ∧ w / 256 % 256 > 127 then (256 * (256 * 0 + w / 256 % 256) + w / 1 % 256) - 2 ^ 16 else (256 * (256 * 0 + w / 256 % 256) + w / 1 % 256)) = w
        split <;> omega
      · split
        · rw [split3]
          show (if 0 < 3 ∧ w / 65536 % 256 > 127 then (256 * (256 * (256 * 0 + w / 65536 % 256) + w / 256 % 256) + w / 1 % 256) - 2 ^ 24 else (256 * (256 * (256 * 0 + w / 65536 % 256) + w / 256 % 256) + w / 1 % 256)) = w
          split <;> omega
        · rw [split4]
          show (if 0 < 4 ∧ w / 16777216 % 256 > 127 then (256 * (256 * (256 * (256 * 0 + w / 16777216 % 256) + w / 65536 % 256) + w / 256 % 256) + w / 1 % 256) - 2 ^ 32 else (256 * (256 * (256 * (256 * 0 + w / 16777216 % 256) + w / 65536 % 256) + w / 256 % 256) + w / 1 % 256)) = w
          split <;> omega
def RosAt (K : PySem.W.Frag) (H : Hp) (vs : List V) (rs : List Ro) : Prop := vs.length = rs.length ∧ ∀ (i : Nat) (r : Ro), rs[i]? = some r → ∃ t, vs[i]? = some (.ref t) ∧ SqT K H t (roV r)
theorem RosAt.same {K : PySem.W.Frag} {H H' : Hp} {vs : List V} {rs : List Ro} (e : Same H H') (h : RosAt K H vs rs) : RosAt K H' vs rs := ⟨h.1, fun i r hr => by
  obtain ⟨t, h1, h2⟩ := h.2 i r hr
  exact ⟨t, h1, e.tup h2⟩⟩
theorem RosAt.updL {K : PySem.W.Frag} {H : Hp} {p : Addr} {ys : List V} {o : HO} {vs : List V} {rs : List Ro} (g : H p = some (.lst ys)) (h : RosAt K H vs rs) : RosAt K (upd H p o) vs rs := ⟨h.1, fun i r hr => by
  obtain ⟨t, h1, h2⟩ := h.2 i r hr
  exact ⟨t, h1, tup_updL h2 g⟩⟩
theorem RosAt.nil {K : PySem.W.Frag} {H : Hp} : RosAt K H [] [] := ⟨rfl, fun i r h => by simp at h⟩
theorem RosAt.snoc {K : PySem.W.Frag} {H : Hp} {vs : List V} {rs : List Ro} {t : Addr} {r : Ro} (h : RosAt K H vs rs) (hr : SqT K H t (roV r)) : RosAt K H (vs ++ [.ref t]) (rs ++ [r]) := by
  refine ⟨by rw [List.length_append, List.length_append, h.1]; rfl, fun i q hq => ?_⟩
  by_cases hi : i < rs.length
  · rw [List.getElem?_append_left hi] at hq
    obtain ⟨t', h1, h2⟩ := h.2 i q hq
    exact ⟨t', by rw [List.getElem?_append_left (by rw [h.1]; exact hi)]; exact h1, h2⟩
  · have hl := (List.getElem?_eq_some_iff.mp hq).1
    rw [List.length_append, List.length_singleton] at hl
    have e : i = rs.length := by omega
    subst e
    rw [List.getElem?_append_right (Nat.le_refl _), Nat.sub_self] at hq
    cases hq
    exact ⟨t, by rw [← h.1, List.getElem?_append_right (Nat.le_refl _), Nat.sub_self]; rfl, hr⟩
theorem RosAt.item {K : PySem.W.Frag} {H : Hp} {vs : List V} {rs : List Ro} {i : Nat} {v : V} (h : RosAt K H vs rs) (hv : vs[i]? = some v) : ∃ r t, rs[i]? = some r ∧ v = .ref t ∧ SqT K H t (roV r) := by
  have hi := (List.getElem?_eq_some_iff.mp hv).1
  rw [h.1] at hi
  obtain ⟨t, h1, h2⟩ := h.2 i _ (List.getElem?_eq_getElem hi)
  rw [hv] at h1
  exact ⟨_, t, List.getElem?_eq_getElem hi, Option.some.inj h1, h2⟩
theorem cut_nn {xs : List V} {a b : Nat} (h : a ≤ b) (hb : b ≤ xs.length) : cutV xs (some (a : Int)) (some (b : Int)) = (xs.drop a).take (b - a) := by
  unfold cutV
  rw [HT.sIx_nat, HT.sIx_nat]
  have e1 : min a xs.length = a := by omega
  have e2 : min b xs.length = b := by omega
  rw [e1, e2]
theorem cut_two {xs : List V} : cutV xs (some 2) none = xs.drop 2 := by
  unfold cutV
  rw [HT.sIx_none, show (some (2 : Int)) = some ((2 : Nat) : Int) from rfl, HT.sIx_nat]
  by_cases h : 2 ≤ xs.length
  · rw [show min 2 xs.length = 2 by omega, List.take_of_length_le (by simp)]
  · rw [List.drop_eq_nil_of_le (as := xs) (i := 2) (by omega), List.drop_eq_nil_of_le (by omega)]
    exact List.take_nil
theorem stepS {x y : Str} {A B : Prop} (h1 : x = y → A) (h2 : ¬ x = y → B) : if decide (V.str x = V.str y) = true then A else B := by
  by_cases e : x = y
  · rw [if_pos (decide_eq_true (congrArg V.str e))]; exact h1 e
  · rw [if_neg (fun z => e (V.str.inj (of_decide_eq_true z)))]; exact h2 e
theorem stepL {x : Str} {l : List Str} {A B : Prop} (h1 : x ∈ l → A) (h2 : ¬ x ∈ l → B) : if inV (.str x) (l.map V.str) = true then A else B := by
  rw [inV_strs]
  by_cases e : x ∈ l
  · rw [if_pos (decide_eq_true e)]; exact h1 e
  · rw [if_neg (fun z => e (of_decide_eq_true z))]; exact h2 e
theorem atI_last {α : Type} {xs : List α} {v : α} (h : xs.getLast? = some v) : atI xs (-1) = some v := by
  rw [List.getLast?_eq_getElem?] at h
  have hl := (List.getElem?_eq_some_iff.mp h).1
  unfold atI ixN
  rw [if_neg (by decide), if_pos (by omega)]
  show xs[(-1 + (xs.length : Int)).toNat]? = some v
  rw [show (-1 + (xs.length : Int)).toNat = xs.length - 1 by omega]
  exact h
theorem low_row {r : Ro} {n : Nat} (h : r.Ok n) : (lowW (roS r) = none ∧ lowK r = 0) ∨ (lowW (roS r) = some ("word" : Str) ∧ ∃ w, r = .push w) ∨ (∃ x, lowW (roS r) = some x ∧ ¬ x = "word" ∧ ∃ l, roN r = (lowK r : Int) :: l) := by
  cases r with
  | push w => exact .inr (.inl ⟨(by decide +kernel : lowW "push" = some ("word" : Str)), w, rfl⟩)
  | low s k =>
    have z := (by decide +kernel : ∀ s ∈ lowL, (lowW s).isSome = true ∧ ¬ lowW s = some ("word" : Str)) s h.1
    obtain ⟨x, e⟩ := Option.isSome_iff_exists.mp z.1
    exact .inr (.inr ⟨x, e, fun y => z.2 (by rw [e, y]), [], rfl⟩)
  | pla s k => exact .inl ⟨(by decide +kernel : ∀ s ∈ plaL, lowW s = none) s h.1, rfl⟩
  | kin c k => exact .inr (.inr ⟨"make", (by decide +kernel : lowW "kin" = some ("make" : Str)), (by decide +kernel), [(k : Int)], rfl⟩)
  | fld s c f => exact .inr (.inr ⟨"make", (by decide +kernel : ∀ s ∈ fldL, lowW s = some ("make" : Str)) s h.1, (by decide +kernel), [(f : Int)], rfl⟩)
  | bare s => exact .inl ⟨(by decide +kernel : ∀ s ∈ baL, lowW s = none) s h, rfl⟩
theorem low_cons {s x : Str} {l : List Str} (h : wantsL s = x :: l) : lowW s = if x = "place" then none else some x := by unfold lowW; rw [h]
theorem low_nil {s : Str} (h : wantsL s = []) : lowW s = none := by unfold lowW; rw [h]
theorem tail_nil {s : Str} (h : wantsL s = []) : tailW s = none := by unfold tailW; rw [h]; rfl
theorem tail_last {s x : Str} (h : (wantsL s).getLast? = some x) : tailW s = if x ∈ (["word", "field", "place"] : List Str) then some x else none := by unfold tailW; rw [h]
theorem split_step (n : Int) (k i : Nat) : (List.range (i + 1)).map (fun i => n / 2 ^ (8 * (k - 1 - i)) % 256) = (List.range i).map (fun i => n / 2 ^ (8 * (k - 1 - i)) % 256) ++ [n / 2 ^ (8 * (k - 1 - i)) % 256] := by
  rw [List.range_succ, List.map_append]
  rfl
theorem modN {e : Int} {n : Nat} (h : 0 < n) : ∃ k : Nat, e % (n : Int) = (k : Int) ∧ k < n := by
  have h1 := Int.emod_nonneg e (show (n : Int) ≠ 0 by omega)
  have h2 := Int.emod_lt_of_pos e (show (0 : Int) < (n : Int) by omega)
  exact ⟨(e % (n : Int)).toNat, by omega, by omega⟩
theorem fresh_of {H H1 : Hp} {p : Addr} (s : Same H H1) (h : H1 p = none) : H p = none := by
  cases e : H p with
  | none => rfl
  | some o => rw [s _ _ e] at h; cases h
theorem starts_at {rs : List Ro} {p : Nat} (h : p < rs.length) : ((startsK rs).map V.int)[p]? = some (.int (atK rs p : Int)) := by
  unfold startsK
  rw [List.getElem?_map, List.getElem?_map, List.getElem?_range h]
  rfl
theorem bare_else : ∀ x ∈ signsL, ¬ x = "push" → ¬ x ∈ (["jump", "zero"] : List Str) → ¬ x = "kin" → ¬ x ∈ (["fill", "get", "put"] : List Str) → ¬ x ∈ (["load", "store", "make", "begin", "call"] : List Str) → x ∈ baL := by decide +kernel
def roD (r : Ro) : PyData := .tuple (.str (roS r) :: (roN r).map PyData.int)
def rosD (rs : List Ro) : PyData := .list (rs.map roD)
theorem ints_lay : ∀ ns : List Int, PyData.canLayAll0 (ns.map PyData.int) = true ∧ PyData.depthAll (ns.map PyData.int) = 0
  | [] => ⟨rfl, rfl⟩
  | x :: r => by
    have ih := ints_lay r
    refine ⟨?_, ?_⟩
    · show (PyData.canLay0 (.int x) && PyData.canLayAll0 (r.map PyData.int)) = true
      rw [ih.1]; rfl
    · show max (PyData.depth (.int x)) (PyData.depthAll (r.map PyData.int)) = 0
      rw [ih.2]; rfl
theorem ro_lay {r : Ro} {n : Nat} (h : r.Ok n) : PyData.canLay0 (roD r) = true ∧ PyData.depth (roD r) ≤ 1 := by
  have i := ints_lay (roN r)
  have s := (by decide +kernel : ∀ s ∈ signsL, PyData.canLay0 (.str s) = true) _ h.sign
  refine ⟨?_, ?_⟩
  · show (PyData.canLay0 (.str (roS r)) && PyData.canLayAll0 ((roN r).map PyData.int)) = true
    rw [i.1, s]; rfl
  · show max (PyData.depth (.str (roS r))) (PyData.depthAll ((roN r).map PyData.int)) + 1 ≤ 1
    rw [i.2]
    exact Nat.le_refl _
theorem ros_lay {n : Nat} : ∀ {rs : List Ro}, (∀ r ∈ rs, r.Ok n) → PyData.canLayAll0 (rs.map roD) = true ∧ PyData.depthAll (rs.map roD) ≤ 1
  | [], _ => ⟨rfl, Nat.zero_le _⟩
  | x :: r, h => by
    have ih := ros_lay (rs := r) (fun y hy => h y (List.mem_cons_of_mem _ hy))
    have hx := ro_lay (h x List.mem_cons_self)
    refine ⟨?_, ?_⟩
    · show (PyData.canLay0 (roD x) && PyData.canLayAll0 (r.map roD)) = true
      rw [ih.1, hx.1]; rfl
    · show max (PyData.depth (roD x)) (PyData.depthAll (r.map roD)) ≤ 1
      exact Nat.max_le.mpr ⟨hx.2, ih.2⟩
theorem ros_ok {n : Nat} {rs : List Ro} (h : ∀ r ∈ rs, r.Ok n) : PySem.SeqAt.shaped (rosD rs) = true := by
  have a := ros_lay h
  show (PyData.canLayAll0 (rs.map roD) && decide (PyData.depthAll (rs.map roD) + 1 ≤ 64)) = true
  rw [a.1]
  have := a.2
  simp only [Bool.true_and, decide_eq_true_eq]
  omega
theorem ros_self {n : Nat} {rs : List Ro} (h : ∀ r ∈ rs, r.Ok n) : PyData.eqv (rosD rs) (rosD rs) = true := PySem.SeqAt.eqv_refl _ (PySem.SeqAt.canLay_of_shaped (ros_ok h))
theorem ints_ok (ns : List Int) : PySem.SeqAt.shaped (.list (ns.map PyData.int)) = true := by
  have a := ints_lay ns
  show (PyData.canLayAll0 (ns.map PyData.int) && decide (PyData.depthAll (ns.map PyData.int) + 1 ≤ 64)) = true
  rw [a.1, a.2]
  rfl
theorem ints_self (ns : List Int) : PyData.eqv (.list (ns.map PyData.int)) (.list (ns.map PyData.int)) = true := PySem.SeqAt.eqv_refl _ (PySem.SeqAt.canLay_of_shaped (ints_ok ns))
theorem rd_ints {K : PySem.W.Frag} {H : Hp} : ∀ ns : List Int, RdAll K H (ns.map V.int) (ns.map PyData.int)
  | [] => .nil
  | x :: r => .cons (.int x) (rd_ints r)
theorem rd_ros {K : PySem.W.Frag} {H : Hp} {a : Addr} {vs : List V} {rs : List Ro} (hS : SqL K H a vs) (h : RosAt K H vs rs) : RdV K H (.ref a) (rosD rs) := by
  refine RdV.lst' hS ⟨by rw [List.length_map, h.1], fun i x d hx hd => ?_⟩
  obtain ⟨r, t, hr, rfl, hT⟩ := h.item hx
  rw [List.getElem?_map, hr] at hd
  cases hd
  exact RdV.tup' hT (.cons (.str _) (rd_ints _))
theorem due_place {r : Ro} {n : Nat} (h : r.Ok n) (h2 : roS r ∈ (["jump", "zero", "kin"] : List Str)) (rs : List Ro) : ∃ p : Nat, atI (roV r) (-1) = some (.int (p : Int)) ∧ p < n ∧ numK rs r = (atK rs p : Int) ∧ tlK r = 2 := by
  cases r with
  | push w => exact absurd h2 (by show ¬ ("push" : Str) ∈ (["jump", "zero", "kin"] : List Str); decide +kernel)
  | low s k => exact absurd h2 ((by decide +kernel : ∀ s ∈ lowL, ¬ s ∈ (["jump", "zero", "kin"] : List Str)) s h.1)
  | pla s k => exact ⟨k, rfl, h.2, rfl, rfl⟩
  | kin c k => exact ⟨k, rfl, h.2, rfl, rfl⟩
  | fld s c f => exact absurd h2 ((by decide +kernel : ∀ s ∈ fldL, ¬ s ∈ (["jump", "zero", "kin"] : List Str)) s h.1)
  | bare s => exact absurd h2 ((by decide +kernel : ∀ s ∈ baL, ¬ s ∈ (["jump", "zero", "kin"] : List Str)) s h)
theorem cutR {G : Prop} {R : St → Hp → Prop} (P : St → Hp → Prop) (main : (∀ σ' H', P σ' H' → R σ' H') → G) (k : ∀ σ' H', P σ' H' → R σ' H') : G := main k
theorem few_sizeLine {n : Nat} (h : n ≤ 1000000) : n ≤ sizeLine := by
  have h3 : sizeLine = 16777216 := by decide
  omega
def rawNum : Ro → Int
  | .push w => w
  | .low _ _ => 0
  | .pla _ p => (p : Int)
  | .kin _ p => (p : Int)
  | .fld _ _ f => (f : Int)
  | .bare _ => 0
def rawBy (r : Ro) : List Int := ((8 * signNo (roS r) + lowK r : Nat) : Int) :: splitK (rawNum r) (tlK r)
def lowB (x : Option Str) (l : Int) : Bool := match x with | none => decide (l = 0) | some x => if x = "word" then decide (l ≤ 4) else true
def lowOk (s : Str) (l : Int) : Bool := lowB (lowW s) l
theorem l2 {a b a' b' : Int} (h1 : a = a') (h2 : b = b') : [a, b] = [a', b'] := by rw [h1, h2]
theorem l3 {a b c a' b' c' : Int} (h1 : a = a') (h2 : b = b') (h3 : c = c') : [a, b, c] = [a', b', c'] := by rw [h1, h2, h3]
theorem l4 {a b c d a' b' c' d' : Int} (h1 : a = a') (h2 : b = b') (h3 : c = c') (h4 : d = d') : [a, b, c, d] = [a', b', c', d'] := by rw [h1, h2, h3, h4]
def roOf (s : Str) (l n : Nat) : Ro := if s ∈ lowL then .low s l else if s ∈ plaL then .pla s n else if s = "kin" then .kin l n else if s ∈ fldL then .fld s l n else .bare s
def rowTl (s : Str) (l : Int) (ns : List Int) : Except Str Ro :=
  if s = "push" then (if ((psz (sgnI ns) : Nat) : Int) < l then .error "long" else .ok (.push (sgnI ns)))
  else if tailW s = some ("field" : Str) ∧ 7 < numI ns then .error "low"
  else .ok (roOf s l.toNat (numI ns).toNat)
def rowHd (bs : List Int) (i : Nat) (b : Int) : Except Str Ro :=
  match signsL[(b / 8).toNat]? with
  | none => .error "word"
  | some s =>
    if lowOk s (b % 8) = false then .error "low"
    else if bs.length < i + 1 + (tszK s (b % 8)).toNat then .error "short"
    else rowTl s (b % 8) ((bs.drop (i + 1)).take (tszK s (b % 8)).toNat)
def rowAt (bs : List Int) (i : Nat) : Except Str Ro := rowHd bs i ((bs[i]?).getD 0)
theorem hd_none {bs : List Int} {i : Nat} {b : Int} (h : signsL[(b / 8).toNat]? = none) : rowHd bs i b = .error "word" := by unfold rowHd; rw [h]
theorem hd_some {bs : List Int} {i : Nat} {b : Int} {s : Str} (h : signsL[(b / 8).toNat]? = some s) : rowHd bs i b = if lowOk s (b % 8) = false then .error "low" else if bs.length < i + 1 + (tszK s (b % 8)).toNat then .error "short" else rowTl s (b % 8) ((bs.drop (i + 1)).take (tszK s (b % 8)).toNat) := by unfold rowHd; rw [h]
def byt (bs : List Int) : Prop := ∀ x ∈ bs, 0 ≤ x ∧ x ≤ 255
theorem kind_of : ∀ s ∈ signsL, (s = "push" ∧ lowW s = some ("word" : Str) ∧ tailW s = some ("word" : Str)) ∨ (s ∈ lowL ∧ lowW s ≠ none ∧ lowW s ≠ some ("word" : Str) ∧ tailW s = none) ∨ (s ∈ plaL ∧ lowW s = none ∧ tailW s = some ("place" : Str)) ∨
    (s = "kin" ∧ lowW s ≠ none ∧ lowW s ≠ some ("word" : Str) ∧ tailW s = some ("place" : Str)) ∨ (s ∈ fldL ∧ lowW s ≠ none ∧ lowW s ≠ some ("word" : Str) ∧ tailW s = some ("field" : Str)) ∨ (s ∈ baL ∧ lowW s = none ∧ tailW s = none) := by decide +kernel
theorem kinds_apart : (∀ s ∈ lowL, ¬ s = "push") ∧ (∀ s ∈ plaL, ¬ s = "push" ∧ s ∉ lowL) ∧ (∀ s ∈ fldL, ¬ s = "push" ∧ s ∉ lowL ∧ s ∉ plaL ∧ ¬ s = "kin") ∧ (∀ s ∈ baL, ¬ s = "push" ∧ s ∉ lowL ∧ s ∉ plaL ∧ ¬ s = "kin" ∧ s ∉ fldL) ∧ ((¬ ("kin" : Str) = "push") ∧ ("kin" : Str) ∉ lowL ∧ ("kin" : Str) ∉ plaL) := by decide +kernel
theorem ro_low {s : Str} (h : s ∈ lowL) (l n : Nat) : roOf s l n = .low s l := by unfold roOf; rw [if_pos h]
theorem ro_pla {s : Str} (h : s ∈ plaL) (l n : Nat) : roOf s l n = .pla s n := by unfold roOf; rw [if_neg (kinds_apart.2.1 s h).2, if_pos h]
theorem ro_kin (l n : Nat) : roOf "kin" l n = .kin l n := by unfold roOf; rw [if_neg kinds_apart.2.2.2.2.2.1, if_neg kinds_apart.2.2.2.2.2.2, if_pos rfl]
theorem ro_fld {s : Str} (h : s ∈ fldL) (l n : Nat) : roOf s l n = .fld s l n := by
  obtain ⟨_, h1, h2, h3⟩ := kinds_apart.2.2.1 s h
  unfold roOf; rw [if_neg h1, if_neg h2, if_neg h3, if_pos h]
theorem ro_bare {s : Str} (h : s ∈ baL) (l n : Nat) : roOf s l n = .bare s := by
  obtain ⟨_, h1, h2, h3, h4⟩ := kinds_apart.2.2.2.1 s h
  unfold roOf; rw [if_neg h1, if_neg h2, if_neg h3, if_neg h4]
theorem tsz_of {s : Str} {x : Option Str} (h : tailW s = x) (l : Int) : tszK s l = if x = some ("word" : Str) then l else if x = some ("field" : Str) then 1 else if x = some ("place" : Str) then 2 else 0 := by unfold tszK; rw [h]
theorem low_of {s : Str} {x : Option Str} (h : lowW s = x) (l : Int) : lowOk s l = lowB x l := by unfold lowOk; rw [h]
theorem low_any {s : Str} (h1 : lowW s ≠ none) (h2 : lowW s ≠ some ("word" : Str)) (l : Int) : lowOk s l = true := by
  cases e : lowW s with
  | none => exact absurd e h1
  | some x =>
    rw [low_of e]
    show (if x = "word" then decide (l ≤ 4) else true) = true
    rw [if_neg (fun z => h2 (by rw [e, z]))]
theorem num1 (a : Int) : numI [a] = 256 * 0 + a := rfl
theorem num2 (a b : Int) : numI [a, b] = 256 * (256 * 0 + a) + b := rfl
theorem num3 (a b c : Int) : numI [a, b, c] = 256 * (256 * (256 * 0 + a) + b) + c := rfl
theorem num4 (a b c d : Int) : numI [a, b, c, d] = 256 * (256 * (256 * (256 * 0 + a) + b) + c) + d := rfl
theorem sgn_bytes {ns : List Int} (h : byt ns) (h4 : ns.length ≤ 4) : inW (sgnI ns) ∧ psz (sgnI ns) ≤ ns.length ∧ splitK (sgnI ns) ns.length = ns := by
  have pz : ∀ w : Int, psz w = if w = 0 then 0 else if -128 ≤ w ∧ w < 128 then 1 else if -32768 ≤ w ∧ w < 32768 then 2 else if -8388608 ≤ w ∧ w < 8388608 then 3 else 4 := fun w => rfl
  match ns, h, h4 with
  | [], _, _ => exact ⟨⟨by decide, by decide⟩, by decide, rfl⟩
  | [a], h, _ =>
    have ha := h a (by simp)
    have e : sgnI [a] = if a > 127 then a - 256 else a := by
      unfold sgnI
      rw [num1]
      show (if 0 < 1 ∧ a > 127 then 256 * 0 + a - 2 ^ (8 * 1) else 256 * 0 + a) = _
      by_cases z : a > 127
      · rw [if_pos ⟨by decide, z⟩, if_pos z]; omega
      · rw [if_neg (fun y => z y.2), if_neg z]; omega
    rw [e]
    refine ⟨?_, ?_, ?_⟩
    · unfold inW; split <;> omega
    · rw [pz]; show _ ≤ 1; repeat' split
      all_goals omega
    · show splitK _ 1 = _
      rw [split1]; split <;> (congr 1; omega)
  | [a, b], h, _ =>
    have ha := h a (by simp)
    have hb := h b (by simp)
    have e : sgnI [a, b] = if a > 127 then 256 * a + b - 65536 else 256 * a + b := by
      unfold sgnI
      rw [num2]
      show (if 0 < 2 ∧ a > 127 then 256 * (256 * 0 + a) + b - 2 ^ (8 * 2) else 256 * (256 * 0 + a) + b) = _
      by_cases z : a > 127
      · rw [if_pos ⟨by decide, z⟩, if_pos z]; omega
      · rw [if_neg (fun y => z y.2), if_neg z]; omega
    rw [e]
    refine ⟨?_, ?_, ?_⟩
    · unfold inW; split <;> omega
    · rw [pz]; show _ ≤ 2; repeat' split
      all_goals omega
    · show splitK _ 2 = _
      rw [split2]; split <;> exact l2 (by omega) (by omega)
  | [a, b, c], h, _ =>
    have ha := h a (by simp)
    have hb := h b (by simp)
    have hc := h c (by simp)
    have e : sgnI [a, b, c] = if a > 127 then 65536 * a + 256 * b + c - 16777216 else 65536 * a + 256 * b + c := by
      unfold sgnI
      rw [num3]
      show (if 0 < 3 ∧ a > 127 then 256 * (256 * (256 * 0 + a) + b) + c - 2 ^ (8 * 3) else 256 * (256 * (256 * 0 + a) + b) + c) = _
      by_cases z : a > 127
      · rw [if_pos ⟨by decide, z⟩, if_pos z]; omega
      · rw [if_neg (fun y => z y.2), if_neg z]; omega
    rw [e]
    refine ⟨?_, ?_, ?_⟩
    · unfold inW; split <;> omega
    · rw [pz]; show _ ≤ 3; repeat' split
      all_goals omega
    · show splitK _ 3 = _
      rw [split3]; split <;> exact l3 (by omega) (by omega) (by omega)
  | [a, b, c, d], h, _ =>
    have ha := h a (by simp)
    have hb := h b (by simp)
    have hc := h c (by simp)
    have hd := h d (by simp)
    have e : sgnI [a, b, c, d] = if a > 127 then 16777216 * a + 65536 * b + 256 * c + d - 4294967296 else 16777216 * a + 65536 * b + 256 * c + d := by
      unfold sgnI
      rw [num4]
      show (if 0 < 4 ∧ a > 127 then 256 * (256 * (256 * (256 * 0 + a) + b) + c) + d - 2 ^ (8 * 4) else 256 * (256 * (256 * (256 * 0 + a) + b) + c) + d) = _
      by_cases z : a > 127
      · rw [if_pos ⟨by decide, z⟩, if_pos z]; omega
      · rw [if_neg (fun y => z y.2), if_neg z]; omega
    rw [e]
    refine ⟨?_, psz_le _, ?_⟩
    · unfold inW; split <;> omega
    · show splitK _ 4 = _
      rw [split4]; split <;> exact l4 (by omega) (by omega) (by omega) (by omega)
theorem two_of {ns : List Int} (h : ns.length = 2) : ∃ a b, ns = [a, b] := ex2 h
theorem tl_ok {s : Str} (hs : s ∈ signsL) {l : Int} (hl0 : 0 ≤ l) (hl8 : l < 8) (hlo : lowOk s l = true) {ns : List Int} (hb : byt ns) (hn : (ns.length : Int) = tszK s l) {r : Ro} (h : rowTl s l ns = .ok r) :
    r.Ok 65536 ∧ roS r = s ∧ (lowK r : Int) = l ∧ tlK r = ns.length ∧ splitK (rawNum r) ns.length = ns := by
  rcases kind_of s hs with ⟨e1, e2, e3⟩ | ⟨e1, e2, e3, e4⟩ | ⟨e1, e2, e3⟩ | ⟨e1, e2, e3, e4⟩ | ⟨e1, e2, e3, e4⟩ | ⟨e1, e2, e3⟩
  · rw [low_of e2] at hlo
    have hl4 : l ≤ 4 := of_decide_eq_true hlo
    rw [tsz_of e3, if_pos rfl] at hn
    unfold rowTl at h
    rw [if_pos e1] at h
    obtain ⟨b1, b2, b3⟩ := sgn_bytes hb (by omega)
    by_cases z : ((psz (sgnI ns) : Nat) : Int) < l
    · rw [if_pos z] at h; cases h
    · rw [if_neg z] at h
      cases h
      have ep : psz (sgnI ns) = ns.length := by omega
      exact ⟨b1, e1.symm, by show ((psz (sgnI ns) : Nat) : Int) = l; omega, ep, b3⟩
  · have ne := kinds_apart.1 s e1
    rw [tsz_of e4, if_neg (by simp), if_neg (by simp), if_neg (by simp)] at hn
    have hz : ns = [] := List.length_eq_zero_iff.mp (by omega)
    subst hz
    unfold rowTl at h
    rw [if_neg ne, if_neg (by rw [e4]; simp), ro_low e1] at h
    cases h
    exact ⟨⟨e1, by omega⟩, rfl, by show ((l.toNat : Nat) : Int) = l; omega, rfl, rfl⟩
  · obtain ⟨ne, _⟩ := kinds_apart.2.1 s e1
    rw [low_of e2] at hlo
    have hl : l = 0 := of_decide_eq_true hlo
    rw [tsz_of e3, if_neg (by decide +kernel), if_neg (by decide +kernel), if_pos rfl] at hn
    obtain ⟨a, b, rfl⟩ := two_of (show ns.length = 2 by omega)
    have ha := hb a (by simp)
    have hb' := hb b (by simp)
    unfold rowTl at h
    rw [if_neg ne, if_neg (by rw [e3]; exact fun z => absurd z.1 (by decide +kernel)), ro_pla e1, num2] at h
    cases h
    have hp : (((256 * (256 * 0 + a) + b).toNat : Nat) : Int) = 256 * a + b := by omega
    refine ⟨⟨e1, by omega⟩, rfl, by rw [hl]; rfl, rfl, ?_⟩
    show splitK (((256 * (256 * 0 + a) + b).toNat : Nat) : Int) 2 = [a, b]
    rw [hp, split2]
    exact l2 (by omega) (by omega)
  · subst e1
    rw [tsz_of e4, if_neg (by decide +kernel), if_neg (by decide +kernel), if_pos rfl] at hn
    obtain ⟨a, b, rfl⟩ := two_of (show ns.length = 2 by omega)
    have ha := hb a (by simp)
    have hb' := hb b (by simp)
    unfold rowTl at h
    rw [if_neg kinds_apart.2.2.2.2.1, if_neg (by rw [e4]; exact fun z => absurd z.1 (by decide +kernel)), ro_kin, num2] at h
    cases h
    have hp : (((256 * (256 * 0 + a) + b).toNat : Nat) : Int) = 256 * a + b := by omega
    refine ⟨⟨by omega, by omega⟩, rfl, by show ((l.toNat : Nat) : Int) = l; omega, rfl, ?_⟩
    show splitK (((256 * (256 * 0 + a) + b).toNat : Nat) : Int) 2 = [a, b]
    rw [hp, split2]
    exact l2 (by omega) (by omega)
  · obtain ⟨ne, _⟩ := kinds_apart.2.2.1 s e1
    rw [tsz_of e4, if_neg (by decide +kernel), if_pos rfl] at hn
    obtain ⟨a, rfl⟩ := ex1 (show ns.length = 1 by omega)
    have ha := hb a (by simp)
    unfold rowTl at h
    rw [if_neg ne, num1] at h
    by_cases z : tailW s = some ("field" : Str) ∧ 7 < 256 * 0 + a
    · rw [if_pos z] at h; cases h
    · rw [if_neg z, ro_fld e1] at h
      cases h
      have h7 : ¬ 7 < 256 * 0 + a := fun y => z ⟨e4, y⟩
      refine ⟨⟨e1, by omega, by omega⟩, rfl, by show ((l.toNat : Nat) : Int) = l; omega, rfl, ?_⟩
      show splitK (((256 * 0 + a).toNat : Nat) : Int) 1 = [a]
      rw [split1]
      congr 1
      omega
  · obtain ⟨ne, _⟩ := kinds_apart.2.2.2.1 s e1
    rw [low_of e2] at hlo
    have hl : l = 0 := of_decide_eq_true hlo
    rw [tsz_of e3, if_neg (by simp), if_neg (by simp), if_neg (by simp)] at hn
    have hz : ns = [] := List.length_eq_zero_iff.mp (by omega)
    subst hz
    unfold rowTl at h
    rw [if_neg ne, if_neg (by rw [e3]; simp), ro_bare e1] at h
    cases h
    exact ⟨e1, rfl, by rw [hl]; rfl, rfl, rfl⟩
theorem sign_un {s : Str} {j : Nat} (h : signsL[j]? = some s) : signNo s = j := by
  have hs := List.mem_of_getElem? h
  obtain ⟨e, _⟩ := sign_no s hs
  rcases Nat.lt_trichotomy (signNo s) j with z | z | z
  · exact absurd e (signs_at h _ z)
  · exact z
  · exact absurd h (signs_at e _ z)
theorem raw_ok {r : Ro} (h : r.Ok 65536) : rowTl (roS r) (lowK r : Int) (splitK (rawNum r) (tlK r)) = .ok r := by
  unfold rowTl
  cases r with
  | push w =>
    rw [if_pos (show roS (.push w) = "push" from rfl)]
    show (if ((psz (sgnI (splitK w (psz w))) : Nat) : Int) < ((psz w : Nat) : Int) then (Except.error ("long" : Str) : Except Str Ro) else Except.ok (.push (sgnI (splitK w (psz w))))) = _
    rw [sgn_split h, if_neg (by omega)]
  | low s k =>
    have ek : ((lowK (.low s k) : Nat) : Int).toNat = k := by show ((k : Nat) : Int).toNat = k; omega
    rw [show roS (.low s k) = s from rfl, if_neg (kinds_apart.1 s h.1), ro_low h.1, ek]
    rcases kind_of s (by exact (Ro.Ok.sign (r := .low s k) (n := 65536) h)) with ⟨e1, _⟩ | ⟨_, _, _, e4⟩ | ⟨e1, _⟩ | ⟨e1, _⟩ | ⟨e1, _⟩ | ⟨e1, _⟩
    · exact absurd e1 (kinds_apart.1 s h.1)
    · rw [if_neg (by rw [e4]; simp)]
    · exact absurd h.1 (kinds_apart.2.1 s e1).2
    · exact absurd h.1 (by rw [e1]; exact kinds_apart.2.2.2.2.2.1)
    · exact absurd h.1 (kinds_apart.2.2.1 s e1).2.1
    · exact absurd h.1 (kinds_apart.2.2.2.1 s e1).2.1
  | pla s p =>
    have hp := h.2
    have e : numI (splitK (rawNum (.pla s p)) (tlK (.pla s p))) = (p : Int) := num_split (n := (p : Int)) (by omega) (by omega)
    rw [show roS (.pla s p) = s from rfl, if_neg (kinds_apart.2.1 s h.1).1, ro_pla h.1, e]
    rw [if_neg (by
      intro z
      have := (by decide +kernel : ∀ s ∈ plaL, ¬ tailW s = some ("field" : Str)) s h.1
      exact this z.1)]
    rw [Int.toNat_natCast]
  | kin c p =>
    have hp := h.2
    have e : numI (splitK (rawNum (.kin c p)) (tlK (.kin c p))) = (p : Int) := num_split (n := (p : Int)) (by omega) (by omega)
    have ek : ((lowK (.kin c p) : Nat) : Int).toNat = c := by show ((c : Nat) : Int).toNat = c; omega
    rw [show roS (.kin c p) = "kin" from rfl, if_neg kinds_apart.2.2.2.2.1, ro_kin, e, ek]
    rw [if_neg (fun z => absurd z.1 (by decide +kernel)), Int.toNat_natCast]
  | fld s c f =>
    have hf := h.2.2
    have e : numI (splitK (rawNum (.fld s c f)) (tlK (.fld s c f))) = (f : Int) := by
      show numI (splitK (f : Int) 1) = _
      rw [split1, num1]
      omega
    have ek : ((lowK (.fld s c f) : Nat) : Int).toNat = c := by show ((c : Nat) : Int).toNat = c; omega
    rw [show roS (.fld s c f) = s from rfl, if_neg (kinds_apart.2.2.1 s h.1).1, ro_fld h.1, e, ek]
    rw [if_neg (fun z => by have := z.2; omega), Int.toNat_natCast]
  | bare s =>
    rw [show roS (.bare s) = s from rfl, if_neg (kinds_apart.2.2.2.1 s h).1, ro_bare h]
    rw [if_neg (by
      intro z
      have := (by decide +kernel : ∀ s ∈ baL, ¬ tailW s = some ("field" : Str)) s h
      exact this z.1)]
theorem low_right {r : Ro} {n : Nat} (h : r.Ok n) : lowOk (roS r) (lowK r : Int) = true := by
  rcases low_row h with ⟨e1, e2⟩ | ⟨e1, w, rfl⟩ | ⟨x, e1, e2, _⟩
  · rw [low_of e1, e2]; rfl
  · rw [low_of e1]
    have := psz_le w
    exact decide_eq_true (by show ((psz w : Nat) : Int) ≤ 4; omega)
  · rw [low_of e1]
    show (if x = "word" then _ else true) = true
    rw [if_neg e2]
theorem rowAt_of {r : Ro} (h : r.Ok 65536) {bs : List Int} {i : Nat} {t : List Int} (e : bs.drop i = rawBy r ++ t) : rowAt bs i = .ok r := by
  have hl := low_le h
  obtain ⟨sn, sl⟩ := sign_no _ h.sign
  have hb : bs[i]? = some (((8 * signNo (roS r) + lowK r : Nat)) : Int) := by
    have : (bs.drop i)[0]? = some (((8 * signNo (roS r) + lowK r : Nat)) : Int) := by rw [e]; rfl
    rw [List.getElem?_drop] at this
    exact this
  have hd : bs.drop (i + 1) = splitK (rawNum r) (tlK r) ++ t := by
    have : (bs.drop i).drop 1 = splitK (rawNum r) (tlK r) ++ t := by rw [e]; rfl
    rw [List.drop_drop] at this
    exact this
  have hlen : i + 1 + tlK r ≤ bs.length := by
    have h1 := congrArg List.length hd
    rw [List.length_drop, List.length_append, split_len] at h1
    have h2 := (List.getElem?_eq_some_iff.mp hb).1
    omega
  unfold rowAt
  rw [hb]
  show rowHd bs i (((8 * signNo (roS r) + lowK r : Nat)) : Int) = _
  rw [hd_some (s := roS r) (by rw [show ((((8 * signNo (roS r) + lowK r : Nat)) : Int) / 8).toNat = signNo (roS r) by omega]; exact sn), show (((8 * signNo (roS r) + lowK r : Nat)) : Int) % 8 = (lowK r : Int) by omega, low_right h, if_neg (by simp), tsz_row h, Int.toNat_natCast, if_neg (by omega), hd, List.take_append_of_le_length (by rw [split_len]; exact Nat.le_refl _), List.take_of_length_le (by rw [split_len]; exact Nat.le_refl _)]
  exact raw_ok h
theorem rowAt_ok {bs : List Int} (hb : byt bs) {i : Nat} (hi : i < bs.length) {r : Ro} (h : rowAt bs i = .ok r) : r.Ok 65536 ∧ ∃ t, bs.drop i = rawBy r ++ t := by
  have eb := List.getElem?_eq_getElem hi
  have hm := hb _ (List.getElem_mem hi)
  have ed : bs.drop i = bs[i] :: bs.drop (i + 1) := List.drop_eq_getElem_cons hi
  generalize bs[i] = b at eb hm ed
  unfold rowAt at h
  rw [eb] at h
  have h : rowHd bs i b = Except.ok r := h
  cases es : signsL[(b / 8).toNat]? with
  | none => rw [hd_none es] at h; cases h
  | some s =>
    rw [hd_some es] at h
    cases lo : lowOk s (b % 8) with
    | false => rw [lo, if_pos rfl] at h; cases h
    | true =>
      rw [lo, if_neg (by simp)] at h
      by_cases z : bs.length < i + 1 + (tszK s (b % 8)).toNat
      · rw [if_pos z] at h; cases h
      · rw [if_neg z] at h
        have hs := List.mem_of_getElem? es
        have tn : 0 ≤ tszK s (b % 8) := by unfold tszK; repeat' split; all_goals omega
        have ln : ((bs.drop (i + 1)).take (tszK s (b % 8)).toNat).length = (tszK s (b % 8)).toNat := by rw [List.length_take, List.length_drop]; omega
        obtain ⟨k1, k2, k3, k4, k5⟩ := tl_ok hs (l := b % 8) (by omega) (by omega) lo (ns := (bs.drop (i + 1)).take (tszK s (b % 8)).toNat) (fun x hx => hb x (List.mem_of_mem_drop (List.mem_of_mem_take hx))) (by rw [ln]; omega) h
        refine ⟨k1, (bs.drop (i + 1)).drop (tszK s (b % 8)).toNat, ?_⟩
        rw [ed]
        unfold rawBy
        rw [k2, sign_un es, k4, k5, List.cons_append, List.take_append_drop]
        congr 1
        omega
def goR (bs : List Int) : Nat → List Ro → Except (Nat × Str) (List Ro)
  | 0, rr => .ok rr
  | k + 1, rr => if atK rr rr.length < bs.length then (if rr.length = 100 then .error (atK rr rr.length, "many") else match rowAt bs (atK rr rr.length) with | .error w => .error (atK rr rr.length, w) | .ok r => goR bs k (rr ++ [r])) else .ok rr
def posOf (rr : List Ro) (v : Nat) : Option Nat := (List.range rr.length).find? fun j => decide (atK rr j = v)
def plc (rr : List Ro) : Ro → Option Ro
  | .pla s v => (posOf rr v).map (.pla s)
  | .kin c v => (posOf rr v).map (.kin c)
  | .push w => some (.push w)
  | .low s n => some (.low s n)
  | .fld s c f => some (.fld s c f)
  | .bare s => some (.bare s)
def plcGo (rr : List Ro) : Nat → List Ro → Except (Nat × Str) (List Ro)
  | _, [] => .ok []
  | i, r :: l => match plc rr r with | none => .error (atK rr i, "amid") | some q => match plcGo rr (i + 1) l with | .error e => .error e | .ok qs => .ok (q :: qs)
def rowsOf (bs : List Int) : Except (Nat × Str) (List Ro) := match goR bs 102 [] with | .error e => .error e | .ok rr => plcGo rr 0 rr
theorem at_app (rr l : List Ro) {i : Nat} (h : i ≤ rr.length) : atK (rr ++ l) i = atK rr i := by
  unfold atK
  rw [List.take_append_of_le_length h]
theorem at_mono (rr : List Ro) : ∀ {i j : Nat}, i < j → j ≤ rr.length → atK rr i < atK rr j := by
  intro i j
  induction j with
  | zero => intro h _; omega
  | succ j ih =>
    intro h hl
    have e := at_succ (List.getElem?_eq_getElem (l := rr) (i := j) (by omega))
    rcases Nat.lt_or_ge i j with z | z
    · have := ih z (by omega)
      omega
    · have : i = j := by omega
      subst this
      omega
theorem at_inj (rr : List Ro) {i j : Nat} (hi : i ≤ rr.length) (hj : j ≤ rr.length) (e : atK rr i = atK rr j) : i = j := by
  rcases Nat.lt_trichotomy i j with z | z | z
  · have := at_mono rr z hj; omega
  · exact z
  · have := at_mono rr z hi; omega
theorem pos_at {rr : List Ro} {p : Nat} (h : p < rr.length) : posOf rr (atK rr p) = some p := by
  unfold posOf
  cases e : (List.range rr.length).find? fun j => decide (atK rr j = atK rr p) with
  | none =>
    have := List.find?_eq_none.mp e p (List.mem_range.mpr h)
    simp at this
  | some j =>
    have h1 := List.find?_some e
    have h2 := List.mem_range.mp (List.mem_of_find?_eq_some e)
    rw [at_inj rr (Nat.le_of_lt h2) (Nat.le_of_lt h) (of_decide_eq_true h1)]
theorem pos_some {rr : List Ro} {v j : Nat} (h : posOf rr v = some j) : j < rr.length ∧ atK rr j = v := ⟨List.mem_range.mp (List.mem_of_find?_eq_some h), of_decide_eq_true (List.find?_some (p := fun j => decide (atK rr j = v)) h)⟩
theorem pos_none {rr : List Ro} {v : Nat} (h : posOf rr v = none) : ∀ j, j < rr.length → atK rr j ≠ v := fun j hj e => by
  have := List.find?_eq_none.mp h j (List.mem_range.mpr hj)
  exact this (decide_eq_true e)
def rawOf (rs : List Ro) : Ro → Ro
  | .pla s p => .pla s (atK rs p)
  | .kin c p => .kin c (atK rs p)
  | .push w => .push w
  | .low s n => .low s n
  | .fld s c f => .fld s c f
  | .bare s => .bare s
theorem raw_by (rs : List Ro) (r : Ro) : rowBy rs r = rawBy (rawOf rs r) := by cases r <;> rfl
theorem raw_tl (rs : List Ro) (r : Ro) : tlK (rawOf rs r) = tlK r := by cases r <;> rfl
theorem raw_fine {rs : List Ro} (hl : rs.length ≤ 100) {r : Ro} (h : r.Ok rs.length) : (rawOf rs r).Ok 65536 := by
  have le : ∀ p, p < rs.length → atK rs p < 65536 := fun p hp => by
    have := at_le rs p (by omega)
    omega
  cases r with
  | pla s p => exact ⟨h.1, le p h.2⟩
  | kin c p => exact ⟨h.1, le p h.2⟩
  | push w => exact h
  | low s n => exact h
  | fld s c f => exact h
  | bare s => exact h
theorem at_map (f : Ro → Ro) (hf : ∀ r, tlK (f r) = tlK r) (rs : List Ro) (i : Nat) : atK (rs.map f) i = atK rs i := by
  unfold atK
  rw [← List.map_take, List.map_map]
  congr 1
  exact List.map_congr_left fun r _ => by show 1 + tlK (f r) = 1 + tlK r; rw [hf]
theorem go_bytes {rs : List Ro} (hok : ∀ r ∈ rs, r.Ok rs.length) (hl : rs.length ≤ 100) : ∀ (n i k : Nat), i + n = rs.length → n < k → goR (bytesK rs) k ((rs.map (rawOf rs)).take i) = .ok (rs.map (rawOf rs))
  | n, i, 0, _, hk => absurd hk (Nat.not_lt_zero _)
  | n, i, k + 1, hi, hk => by
    have tl : ((rs.map (rawOf rs)).take i).length = i := by rw [List.length_take, List.length_map]; omega
    have ea : atK ((rs.map (rawOf rs)).take i) i = atK rs i := by
      rw [← at_map (rawOf rs) (raw_tl rs) rs i]
      conv => rhs; rw [← List.take_append_drop i (rs.map (rawOf rs))]
      rw [at_app _ _ (by omega)]
    rw [goR, tl, ea, bytes_len]
    cases n with
    | zero =>
      have e : i = rs.length := by omega
      rw [e, if_neg (Nat.lt_irrefl _), List.take_of_length_le (by rw [List.length_map]; exact Nat.le_refl _)]
    | succ n =>
      have hi' : i < rs.length := by omega
      have er := List.getElem?_eq_getElem hi'
      have hr := hok _ (List.getElem_mem hi')
      generalize rs[i] = r at er hr
      rw [if_pos (at_mono rs hi' (Nat.le_refl _)), if_neg (by omega)]
      obtain ⟨t, ht⟩ := bytes_at er
      rw [raw_by] at ht
      rw [rowAt_of (raw_fine hl hr) ht]
      show goR (bytesK rs) k ((rs.map (rawOf rs)).take i ++ [rawOf rs r]) = _
      have e2 : (rs.map (rawOf rs)).take i ++ [rawOf rs r] = (rs.map (rawOf rs)).take (i + 1) := by
        rw [List.take_add_one, List.getElem?_map, er]
        rfl
      rw [e2]
      exact go_bytes hok hl n (i + 1) k (by omega) (by omega)
theorem plc_raw {rs : List Ro} {r : Ro} (h : r.Ok rs.length) : plc (rs.map (rawOf rs)) (rawOf rs r) = some r := by
  have pp : ∀ p, p < rs.length → posOf (rs.map (rawOf rs)) (atK rs p) = some p := fun p hp => by
    rw [← at_map (rawOf rs) (raw_tl rs) rs p]
    exact pos_at (by rw [List.length_map]; exact hp)
  cases r with
  | pla s p => show (posOf _ (atK rs p)).map _ = _; rw [pp p h.2]; rfl
  | kin c p => show (posOf _ (atK rs p)).map _ = _; rw [pp p h.2]; rfl
  | push w => rfl
  | low s n => rfl
  | fld s c f => rfl
  | bare s => rfl
theorem plc_all {rr : List Ro} {f : Ro → Ro} : ∀ {l : List Ro} {i : Nat}, (∀ r ∈ l, plc rr (f r) = some r) → plcGo rr i (l.map f) = .ok l
  | [], _, _ => rfl
  | r :: l, i, h => by
    rw [List.map_cons, plcGo, h r List.mem_cons_self, plc_all (i := i + 1) fun x hx => h x (List.mem_cons_of_mem _ hx)]
theorem rows_bytes {rs : List Ro} (hok : ∀ r ∈ rs, r.Ok rs.length) (hl : rs.length ≤ 100) : rowsOf (bytesK rs) = .ok rs := by
  unfold rowsOf
  have z := go_bytes hok hl rs.length 0 102 (by omega) (by omega)
  rw [List.take_zero] at z
  rw [z]
  exact plc_all fun r hr => plc_raw (hok r hr)
structure Dec (bs : List Int) (rr : List Ro) : Prop where
  few : rr.length ≤ 100
  row : ∀ (i : Nat) (r : Ro), rr[i]? = some r → r.Ok 65536 ∧ rowAt bs (atK rr i) = .ok r ∧ ∃ t, bs.drop (atK rr i) = rawBy r ++ t
theorem Dec.nil {bs : List Int} : Dec bs [] := ⟨Nat.zero_le _, fun i r h => by simp at h⟩
theorem Dec.snoc {bs : List Int} {rr : List Ro} {r : Ro} (hb : byt bs) (d : Dec bs rr) (hl : atK rr rr.length < bs.length) (h100 : rr.length ≠ 100) (h : rowAt bs (atK rr rr.length) = .ok r) : Dec bs (rr ++ [r]) := by
  have hf := d.few
  refine ⟨by rw [List.length_append, List.length_singleton]; omega, fun i q hq => ?_⟩
  by_cases hi : i < rr.length
  · rw [List.getElem?_append_left hi] at hq
    rw [at_app _ _ (Nat.le_of_lt hi)]
    exact d.row i q hq
  · have hl' := (List.getElem?_eq_some_iff.mp hq).1
    rw [List.length_append, List.length_singleton] at hl'
    have e : i = rr.length := by omega
    subst e
    rw [List.getElem?_append_right (Nat.le_refl _), Nat.sub_self] at hq
    cases hq
    rw [at_app _ _ (Nat.le_refl _)]
    obtain ⟨h1, h2⟩ := rowAt_ok hb hl h
    exact ⟨h1, h, h2⟩
theorem raw_len (r : Ro) : (rawBy r).length = 1 + tlK r := by
  show (splitK _ _).length + 1 = _
  rw [split_len]
  omega
theorem Dec.at_le {bs : List Int} {rr : List Ro} (d : Dec bs rr) : atK rr rr.length ≤ bs.length := by
  by_cases h0 : rr.length = 0
  · rw [h0, at_zero]; exact Nat.zero_le _
  · have er := List.getElem?_eq_getElem (l := rr) (i := rr.length - 1) (by omega)
    obtain ⟨_, _, t, ht⟩ := d.row _ _ er
    have e := at_succ er
    rw [show rr.length - 1 + 1 = rr.length by omega] at e
    have := congrArg List.length ht
    rw [List.length_drop, List.length_append, raw_len] at this
    omega
def chunkK (r : Ro) : List Int := ((8 * signNo (roS r) + lowK r : Nat) : Int) :: (if roS r ∈ (["jump", "zero", "kin"] : List Str) then [0, 0] else splitK (rawNum r) (tlK r))
theorem chunk_len {r : Ro} {n : Nat} (h : r.Ok n) : (chunkK r).length = 1 + tlK r := by
  show (if roS r ∈ (["jump", "zero", "kin"] : List Str) then [0, 0] else splitK (rawNum r) (tlK r) : List Int).length + 1 = _
  by_cases z : roS r ∈ (["jump", "zero", "kin"] : List Str)
  · obtain ⟨p, _, _, _, e⟩ := due_place h z []
    rw [if_pos z, e]
    rfl
  · rw [if_neg z, split_len]; omega
theorem chunk_cases {r : Ro} {n : Nat} (h : r.Ok n) : (∃ w, r = .push w ∧ inW w) ∨ (¬ roS r = "push" ∧ roS r ∈ plaL ∧ chunkK r = [((8 * signNo (roS r) : Nat) : Int), 0, 0]) ∨ (¬ roS r = "push" ∧ roS r ∉ plaL ∧ roS r = "kin" ∧ ∃ c p : Nat, roV r = [.str "kin", .int (c : Int), .int (p : Int)] ∧ chunkK r = [((8 * signNo (roS r) : Nat) : Int) + (c : Int), 0, 0]) ∨
    (¬ roS r = "push" ∧ roS r ∉ plaL ∧ ¬ roS r = "kin" ∧ ∃ as bs : List Int, roV r = .str (roS r) :: (as ++ bs).map V.int ∧ ((as = [] ∧ bs = []) ∨ as.length = 1) ∧ chunkK r = (((8 * signNo (roS r) : Nat) : Int) + as.sum) :: bs) := by
  cases r with
  | push w => exact .inl ⟨w, rfl, h⟩
  | pla s p =>
    refine .inr (.inl ⟨(kinds_apart.2.1 s h.1).1, h.1, ?_⟩)
    unfold chunkK
    rw [if_pos (show roS (.pla s p) ∈ (["jump", "zero", "kin"] : List Str) from (by decide +kernel : ∀ s ∈ plaL, s ∈ (["jump", "zero", "kin"] : List Str)) s h.1)]
    rfl
  | kin c p =>
    refine .inr (.inr (.inl ⟨by show ¬ ("kin" : Str) = "push"; exact kinds_apart.2.2.2.2.1, by show ("kin" : Str) ∉ plaL; exact kinds_apart.2.2.2.2.2.2, rfl, c, p, rfl, ?_⟩))
    unfold chunkK
    rw [if_pos (show roS (.kin c p) ∈ (["jump", "zero", "kin"] : List Str) from (by decide +kernel : ("kin" : Str) ∈ (["jump", "zero", "kin"] : List Str)))]
    show [(((8 * signNo "kin" + c : Nat)) : Int), 0, 0] = [((8 * signNo "kin" : Nat) : Int) + (c : Int), 0, 0]
    rw [Int.natCast_add]
  | low s k =>
    refine .inr (.inr (.inr ⟨kinds_apart.1 s h.1, fun z => (kinds_apart.2.1 s z).2 h.1, fun z => kinds_apart.2.2.2.2.2.1 (by have z : s = "kin" := z; rw [← z]; exact h.1), [(k : Int)], [], rfl, .inr rfl, ?_⟩))
    unfold chunkK
    rw [if_neg (show roS (.low s k) ∉ (["jump", "zero", "kin"] : List Str) from (by decide +kernel : ∀ s ∈ lowL, s ∉ (["jump", "zero", "kin"] : List Str)) s h.1)]
    show [(((8 * signNo s + k : Nat)) : Int)] = [((8 * signNo s : Nat) : Int) + ((k : Int) + 0)]
    rw [Int.natCast_add, Int.add_zero]
  | fld s c f =>
    obtain ⟨k1, k2, k3, k4⟩ := kinds_apart.2.2.1 s h.1
    refine .inr (.inr (.inr ⟨k1, k3, k4, [(c : Int)], [(f : Int)], rfl, .inr rfl, ?_⟩))
    unfold chunkK
    rw [if_neg (show roS (.fld s c f) ∉ (["jump", "zero", "kin"] : List Str) from (by decide +kernel : ∀ s ∈ fldL, s ∉ (["jump", "zero", "kin"] : List Str)) s h.1)]
    show (((8 * signNo s + c : Nat)) : Int) :: splitK (f : Int) 1 = [((8 * signNo s : Nat) : Int) + ((c : Int) + 0), (f : Int)]
    have := h.2.2
    rw [split1, Int.natCast_add, Int.add_zero, show (f : Int) / 1 % 256 = (f : Int) by omega]
  | bare s =>
    obtain ⟨k1, k2, k3, k4, _⟩ := kinds_apart.2.2.2.1 s h
    refine .inr (.inr (.inr ⟨k1, k3, k4, [], [], rfl, .inl ⟨rfl, rfl⟩, ?_⟩))
    unfold chunkK
    rw [if_neg (show roS (.bare s) ∉ (["jump", "zero", "kin"] : List Str) from (by decide +kernel : ∀ s ∈ baL, s ∉ (["jump", "zero", "kin"] : List Str)) s h)]
    show [(((8 * signNo s + 0 : Nat)) : Int)] = [((8 * signNo s : Nat) : Int) + 0]
    rw [Int.add_zero, Nat.add_zero]
theorem chunk_push (w : Int) : chunkK (.push w) = (((8 * signNo "push" : Nat) : Int) + ((psz w : Nat) : Int)) :: splitK w (psz w) := by
  unfold chunkK
  rw [if_neg (show roS (.push w) ∉ (["jump", "zero", "kin"] : List Str) from (by decide +kernel : ("push" : Str) ∉ (["jump", "zero", "kin"] : List Str)))]
  show (((8 * signNo "push" + psz w : Nat)) : Int) :: _ = _
  rw [Int.natCast_add]
  rfl
theorem cut12 (s : V) (as bs : List Int) (h : (as = [] ∧ bs = []) ∨ as.length = 1) : cutV (s :: (as ++ bs).map V.int) (some 1) (some 2) = as.map V.int ∧ cutV (s :: (as ++ bs).map V.int) (some 2) none = bs.map V.int := by
  rcases h with ⟨rfl, rfl⟩ | h
  · exact ⟨rfl, rfl⟩
  · obtain ⟨x, rfl⟩ := ex1 h
    refine ⟨?_, ?_⟩
    · have z := cut_nn (xs := s :: ([x] ++ bs).map V.int) (a := 1) (b := 2) (by omega) (by simp)
      exact z.trans (by simp)
    · rw [cut_two]
      simp
def ChAt (K : PySem.W.Frag) (H : Hp) (us : List V) (rs : List Ro) : Prop := us.length = rs.length ∧ ∀ (i : Nat) (r : Ro), rs[i]? = some r → ∃ p, us[i]? = some (.ref p) ∧ SqL K H p ((chunkK r).map V.int)
theorem ChAt.same {K : PySem.W.Frag} {H H' : Hp} {us : List V} {rs : List Ro} (e : Same H H') (h : ChAt K H us rs) : ChAt K H' us rs := ⟨h.1, fun i r hr => by
  obtain ⟨t, h1, h2⟩ := h.2 i r hr
  exact ⟨t, h1, e.seq h2⟩⟩
theorem ChAt.item {K : PySem.W.Frag} {H : Hp} {us : List V} {rs : List Ro} {i : Nat} {v : V} (h : ChAt K H us rs) (hv : us[i]? = some v) : ∃ r p, rs[i]? = some r ∧ v = .ref p ∧ SqL K H p ((chunkK r).map V.int) := by
  have hi := (List.getElem?_eq_some_iff.mp hv).1
  rw [h.1] at hi
  obtain ⟨t, h1, h2⟩ := h.2 i _ (List.getElem?_eq_getElem hi)
  rw [hv] at h1
  exact ⟨_, t, List.getElem?_eq_getElem hi, Option.some.inj h1, h2⟩
theorem ChAt.nil {K : PySem.W.Frag} {H : Hp} : ChAt K H [] [] := ⟨rfl, fun i r h => by simp at h⟩
theorem ChAt.snoc {K : PySem.W.Frag} {H : Hp} {vs : List V} {rs : List Ro} {t : Addr} {r : Ro} (h : ChAt K H vs rs) (hr : SqL K H t ((chunkK r).map V.int)) : ChAt K H (vs ++ [.ref t]) (rs ++ [r]) := by
  refine ⟨by rw [List.length_append, List.length_append, h.1]; rfl, fun i q hq => ?_⟩
  by_cases hi : i < rs.length
  · rw [List.getElem?_append_left hi] at hq
    obtain ⟨t', h1, h2⟩ := h.2 i q hq
    exact ⟨t', by rw [List.getElem?_append_left (by rw [h.1]; exact hi)]; exact h1, h2⟩
  · have hl := (List.getElem?_eq_some_iff.mp hq).1
    rw [List.length_append, List.length_singleton] at hl
    have e : i = rs.length := by omega
    subst e
    rw [List.getElem?_append_right (Nat.le_refl _), Nat.sub_self] at hq
    cases hq
    exact ⟨t, by rw [← h.1, List.getElem?_append_right (Nat.le_refl _), Nat.sub_self]; rfl, hr⟩
theorem starts_take (rs : List Ro) {i : Nat} (h : i < rs.length) : (startsK rs).take (i + 1) = (startsK rs).take i ++ [(atK rs i : Int)] := by
  rw [List.take_add_one]
  unfold startsK
  rw [List.getElem?_map, List.getElem?_range h]
  rfl
def ChX (H : Hp) (D : Addr) (us : List V) (rs : List Ro) : Prop := us.length = rs.length ∧ ∀ (i : Nat) (r : Ro), rs[i]? = some r → ∃ p, us[i]? = some (.ref p) ∧ p ≠ D ∧ H p = some (.lst ((chunkK r).map V.int))
theorem ChX.nil {H : Hp} {D : Addr} : ChX H D [] [] := ⟨rfl, fun i r h => by simp at h⟩
theorem ChX.at_ {K : PySem.W.Frag} {H : Hp} {D : Addr} {us : List V} {rs : List Ro} (h : ChX H D us rs) : ChAt K H us rs := ⟨h.1, fun i r hr => by
  obtain ⟨p, h1, _, h2⟩ := h.2 i r hr
  exact ⟨p, h1, SqL.of h2⟩⟩
theorem ChX.step {H2 H3 : Hp} {D c : Addr} {us : List V} {rs : List Ro} {r : Ro} {ys : List V} {o : HO} (h : ChX H2 D us rs) (g2 : H2 D = some (.lst ys)) (s3 : Same H2 H3) (n3 : H2 c = none) (g3 : H3 c = some (.lst ((chunkK r).map V.int))) : ChX (upd H3 D o) D (us ++ [.ref c]) (rs ++ [r]) := by
  have hcD : c ≠ D := fun e => by rw [e, g2] at n3; cases n3
  refine ⟨by rw [List.length_append, List.length_append, h.1]; rfl, fun i q hq => ?_⟩
  by_cases hi : i < rs.length
  · rw [List.getElem?_append_left hi] at hq
    obtain ⟨p, h1, h2, h3⟩ := h.2 i q hq
    exact ⟨p, by rw [List.getElem?_append_left (by rw [h.1]; exact hi)]; exact h1, h2, by rw [upd_ne h2]; exact s3 _ _ h3⟩
  · have hl := (List.getElem?_eq_some_iff.mp hq).1
    rw [List.length_append, List.length_singleton] at hl
    have e : i = rs.length := by omega
    subst e
    rw [List.getElem?_append_right (Nat.le_refl _), Nat.sub_self] at hq
    cases hq
    exact ⟨c, by rw [← h.1, List.getElem?_append_right (Nat.le_refl _), Nat.sub_self]; rfl, hcD, by rw [upd_ne hcD]; exact g3⟩
def rowVs (s : Str) (l : Int) (ns : List Int) : List V := .str s :: ((if lowW s = none then [] else [.int l]) ++ if ns = [] then [] else [.int (numI ns)])
theorem tl_vs {s : Str} (hs : s ∈ signsL) (hp : ¬ s = "push") {l : Int} (hl0 : 0 ≤ l) {ns : List Int} (hb : byt ns) (hn : (ns.length : Int) = tszK s l) : roV (roOf s l.toNat (numI ns).toNat) = rowVs s l ns ∧ (tailW s = some ("field" : Str) → ∃ a, ns = [a]) := by
  unfold rowVs
  rcases kind_of s hs with ⟨e1, _⟩ | ⟨e1, e2, e3, e4⟩ | ⟨e1, e2, e3⟩ | ⟨e1, e2, e3, e4⟩ | ⟨e1, e2, e3, e4⟩ | ⟨e1, e2, e3⟩
  · exact absurd e1 hp
  · rw [tsz_of e4, if_neg (by simp), if_neg (by simp), if_neg (by simp)] at hn
    have hz : ns = [] := List.length_eq_zero_iff.mp (by omega)
    rw [hz, ro_low e1, if_neg e2, if_pos rfl]
    refine ⟨?_, fun z => by rw [e4] at z; cases z⟩
    show [V.str s, .int ((l.toNat : Nat) : Int)] = [V.str s, .int l]
    rw [Int.toNat_of_nonneg hl0]
  · rw [tsz_of e3, if_neg (by decide +kernel), if_neg (by decide +kernel), if_pos rfl] at hn
    obtain ⟨x, y, rfl⟩ := two_of (show ns.length = 2 by omega)
    have hx := hb x (by simp)
    have hy := hb y (by simp)
    rw [ro_pla e1, if_pos e2, if_neg (by simp), num2]
    refine ⟨?_, fun z => by rw [e3] at z; exact absurd z (by decide +kernel)⟩
    show [V.str s, .int (((256 * (256 * 0 + x) + y).toNat : Nat) : Int)] = [V.str s, .int (256 * (256 * 0 + x) + y)]
    rw [Int.toNat_of_nonneg (by omega)]
  · rw [tsz_of e4, if_neg (by decide +kernel), if_neg (by decide +kernel), if_pos rfl] at hn
    obtain ⟨x, y, rfl⟩ := two_of (show ns.length = 2 by omega)
    have hx := hb x (by simp)
    have hy := hb y (by simp)
    subst e1
    rw [ro_kin, if_neg e2, if_neg (by simp), num2]
    refine ⟨?_, fun z => by rw [e4] at z; exact absurd z (by decide +kernel)⟩
    show [V.str "kin", .int ((l.toNat : Nat) : Int), .int (((256 * (256 * 0 + x) + y).toNat : Nat) : Int)] = [V.str "kin", .int l, .int (256 * (256 * 0 + x) + y)]
    rw [Int.toNat_of_nonneg hl0, Int.toNat_of_nonneg (by omega)]
  · rw [tsz_of e4, if_neg (by decide +kernel), if_pos rfl] at hn
    obtain ⟨x, rfl⟩ := ex1 (show ns.length = 1 by omega)
    have hx := hb x (by simp)
    rw [ro_fld e1, if_neg e2, if_neg (by simp), num1]
    refine ⟨?_, fun _ => ⟨x, rfl⟩⟩
    show [V.str s, .int ((l.toNat : Nat) : Int), .int (((256 * 0 + x).toNat : Nat) : Int)] = [V.str s, .int l, .int (256 * 0 + x)]
    rw [Int.toNat_of_nonneg hl0, Int.toNat_of_nonneg (by omega)]
  · rw [tsz_of e3, if_neg (by simp), if_neg (by simp), if_neg (by simp)] at hn
    have hz : ns = [] := List.length_eq_zero_iff.mp (by omega)
    rw [hz, ro_bare e1, if_pos e2, if_pos rfl]
    exact ⟨rfl, fun z => by rw [e3] at z; cases z⟩
theorem tl_push {l : Int} {ns : List Int} : rowTl "push" l ns = if ((psz (sgnI ns) : Nat) : Int) < l then .error "long" else .ok (.push (sgnI ns)) := by unfold rowTl; rw [if_pos rfl]
theorem tl_else {s : Str} (h : ¬ s = "push") {l : Int} {ns : List Int} : rowTl s l ns = if tailW s = some ("field" : Str) ∧ 7 < numI ns then .error "low" else .ok (roOf s l.toNat (numI ns).toNat) := by unfold rowTl; rw [if_neg h]
theorem tsz_le {s : Str} {l : Int} (h : lowOk s l = true) (hs : s ∈ signsL) (h0 : 0 ≤ l) : 0 ≤ tszK s l ∧ tszK s l ≤ 4 := by
  rcases kind_of s hs with ⟨e1, e2, e3⟩ | ⟨e1, e2, e3, e4⟩ | ⟨e1, e2, e3⟩ | ⟨e1, e2, e3, e4⟩ | ⟨e1, e2, e3, e4⟩ | ⟨e1, e2, e3⟩
  · rw [low_of e2] at h
    have hl4 : l ≤ 4 := of_decide_eq_true h
    rw [tsz_of e3, if_pos rfl]; omega
  · rw [tsz_of e4, if_neg (by simp), if_neg (by simp), if_neg (by simp)]; omega
  · rw [tsz_of e3, if_neg (by decide +kernel), if_neg (by decide +kernel), if_pos rfl]; omega
  · rw [tsz_of e4, if_neg (by decide +kernel), if_neg (by decide +kernel), if_pos rfl]; omega
  · rw [tsz_of e4, if_neg (by decide +kernel), if_pos rfl]; omega
  · rw [tsz_of e3, if_neg (by simp), if_neg (by simp), if_neg (by simp)]; omega
theorem vs_last {s : Str} {l x : Int} : atI (rowVs s l [x]) (-1) = some (.int (numI [x])) := by
  refine atI_last ?_
  unfold rowVs
  by_cases h : lowW s = none
  · rw [if_pos h, if_neg (show ¬ [x] = [] by simp)]; rfl
  · rw [if_neg h, if_neg (show ¬ [x] = [] by simp)]; rfl
def rawsBy (rr : List Ro) : List Int := (rr.map rawBy).flatten
theorem raws_app (a b : List Ro) : rawsBy (a ++ b) = rawsBy a ++ rawsBy b := by unfold rawsBy; rw [List.map_append, List.flatten_append]
theorem raws_one (r : Ro) : rawsBy [r] = rawBy r := by unfold rawsBy; simp
theorem raws_len : ∀ rr : List Ro, (rawsBy rr).length = atK rr rr.length := by
  intro rr
  unfold rawsBy atK
  rw [List.take_length, List.length_flatten, List.map_map]
  congr 1
  exact List.map_congr_left fun r _ => raw_len r
theorem raws_take (rr : List Ro) {i : Nat} (h : i ≤ rr.length) : (rawsBy (rr.take i)).length = atK rr i := by
  rw [raws_len, List.length_take, Nat.min_eq_left h]
  conv => rhs; rw [← List.take_append_drop i rr]
  rw [at_app _ _ (by rw [List.length_take, Nat.min_eq_left h]; exact Nat.le_refl _)]
theorem raws_at {rr : List Ro} {i : Nat} {r : Ro} (h : rr[i]? = some r) : rawsBy rr = rawsBy (rr.take i) ++ (rawBy r ++ rawsBy (rr.drop (i + 1))) := by
  obtain ⟨hi, e⟩ := List.getElem?_eq_some_iff.mp h
  conv => lhs; rw [← List.take_append_drop i rr, List.drop_eq_getElem_cons hi, e]
  rw [raws_app, show r :: rr.drop (i + 1) = [r] ++ rr.drop (i + 1) from rfl, raws_app, raws_one]
theorem go_raws {rr : List Ro} {t : List Int} (hok : ∀ r ∈ rr, r.Ok 65536) (hl : rr.length ≤ 100) : ∀ n i, i + n = rr.length → goR (rawsBy rr ++ t) (102 - i) (rr.take i) = goR (rawsBy rr ++ t) (102 - rr.length) rr := by
  intro n
  induction n with
  | zero =>
    intro i hi
    have e : i = rr.length := by omega
    rw [e, List.take_length]
  | succ n ih =>
    intro i hi
    have hi' : i < rr.length := by omega
    have er := List.getElem?_eq_getElem hi'
    have hr := hok _ (List.getElem_mem hi')
    generalize rr[i] = r at er hr
    obtain ⟨k, hk⟩ : ∃ k, 102 - i = k + 1 := ⟨101 - i, by omega⟩
    have tl : (rr.take i).length = i := by rw [List.length_take]; omega
    have ea : atK (rr.take i) i = atK rr i := by
      conv => rhs; rw [← List.take_append_drop i rr]
      rw [at_app _ _ (by omega)]
    have el := raws_take rr (Nat.le_of_lt hi')
    have eq := raws_at er
    have ed : (rawsBy rr ++ t).drop (atK rr i) = rawBy r ++ (rawsBy (rr.drop (i + 1)) ++ t) := by
      rw [eq, ← el, List.append_assoc, List.drop_left', List.append_assoc]
      rfl
    rw [hk, goR, tl, ea, if_pos, if_neg (by omega), rowAt_of hr ed]
    · show goR (rawsBy rr ++ t) k (rr.take i ++ [r]) = _
      have e2 : rr.take i ++ [r] = rr.take (i + 1) := by rw [List.take_add_one, er]; rfl
      rw [e2, show k = 102 - (i + 1) by omega]
      exact ih (i + 1) (by omega)
    · have := congrArg List.length ed
      rw [List.length_drop, List.length_append, List.length_append, raw_len] at this
      rw [List.length_append]
      omega
theorem go_from {rr : List Ro} {t : List Int} (hok : ∀ r ∈ rr, r.Ok 65536) (hl : rr.length ≤ 100) : goR (rawsBy rr ++ t) 102 [] = goR (rawsBy rr ++ t) (102 - rr.length) rr := by
  have := go_raws (t := t) hok hl rr.length 0 (by omega)
  rw [List.take_zero] at this
  exact this
theorem rowAt_app (A t : List Int) : rowAt (A ++ t) A.length = rowAt t 0 := by
  have e1 : (A ++ t)[A.length]? = t[0]? := by rw [List.getElem?_append_right (Nat.le_refl _), Nat.sub_self]
  unfold rowAt
  rw [e1]
  cases es : signsL[((t[0]?).getD 0 / 8).toNat]? with
  | none => rw [hd_none es, hd_none es]
  | some s =>
    rw [hd_some es, hd_some es]
    have e2 : (A ++ t).drop (A.length + 1) = t.drop (0 + 1) := by
      rw [← List.drop_drop, List.drop_left' rfl]
    rw [e2, List.length_append]
    have e3 : ∀ n : Nat, (A.length + t.length < A.length + 1 + n) = (t.length < 0 + 1 + n) := fun n => propext (by omega)
    simp only [e3]
theorem wrong_at {rr : List Ro} (hok : ∀ r ∈ rr, r.Ok 65536) (hl : rr.length < 100) {t : List Int} (ht : t ≠ []) {w : Str} (hw : rowAt t 0 = .error w) : rowsOf (rawsBy rr ++ t) = .error (atK rr rr.length, w) := by
  unfold rowsOf
  rw [go_from hok (by omega)]
  obtain ⟨k, hk⟩ : ∃ k, 102 - rr.length = k + 1 := ⟨101 - rr.length, by omega⟩
  have tl : 0 < t.length := List.length_pos_iff.mpr ht
  rw [hk, goR, if_pos (by rw [List.length_append, raws_len]; omega), if_neg (by omega)]
  have := rowAt_app (rawsBy rr) t
  rw [raws_len, hw] at this
  rw [this]
theorem many_at {rr : List Ro} (hok : ∀ r ∈ rr, r.Ok 65536) (hl : rr.length = 100) {t : List Int} (ht : t ≠ []) : rowsOf (rawsBy rr ++ t) = .error (atK rr rr.length, "many") := by
  unfold rowsOf
  rw [go_from hok (by omega)]
  have tl : 0 < t.length := List.length_pos_iff.mpr ht
  have z : goR (rawsBy rr ++ t) (102 - rr.length) rr = .error (atK rr rr.length, "many") := by
    rw [show 102 - rr.length = 1 + 1 by omega]
    rw [goR, if_pos (by rw [List.length_append, raws_len]; omega), if_pos hl]
  rw [z]
theorem raw_all {rr : List Ro} (hok : ∀ r ∈ rr, r.Ok 65536) (hl : rr.length ≤ 100) : rowsOf (rawsBy rr) = plcGo rr 0 rr := by
  unfold rowsOf
  have z := go_from (t := []) hok hl
  rw [List.append_nil] at z
  rw [z]
  obtain ⟨k, hk⟩ : ∃ k, 102 - rr.length = k + 1 := ⟨101 - rr.length, by omega⟩
  rw [hk, goR, if_neg (by rw [raws_len]; omega)]
theorem by_raws (rs : List Ro) : ∀ i, i ≤ rs.length → byK rs i = rawsBy ((rs.take i).map (rawOf rs)) := by
  intro i _
  unfold byK rawsBy
  rw [List.map_map]
  congr 1
  exact List.map_congr_left fun r _ => raw_by rs r
theorem bytes_raws (rs : List Ro) : bytesK rs = rawsBy (rs.map (rawOf rs)) := by
  have := by_raws rs rs.length (Nat.le_refl _)
  rw [List.take_length] at this
  exact this
def codeW : List Str := ["word", "low", "long", "short", "many", "amid"]
structure Wr (w : Str) (l : List Int) : Prop where
  ne : l ≠ []
  by_ : byt l
  few : l.length ≤ 5
  err : ∀ t, rowAt (l ++ t) 0 = .error w
  kn : w ∈ codeW
theorem sgn_wide {w : Int} {k : Nat} (hk : 1 ≤ k) (h4 : k ≤ 4) (h : -(2 ^ (8 * k - 1) : Int) ≤ w ∧ w < 2 ^ (8 * k - 1)) : sgnI (splitK w k) = w := by
  rcases (by omega : k = 1 ∨ k = 2 ∨ k = 3 ∨ k = 4) with rfl | rfl | rfl | rfl
  · have h : -128 ≤ w ∧ w < 128 := h
    rw [split1]
    unfold sgnI
    rw [num1]
    show (if 0 < 1 ∧ w / 1 % 256 > 127 then 256 * 0 + w / 1 % 256 - 2 ^ (8 * 1) else 256 * 0 + w / 1 % 256) = w
    split <;> omega
  · have h : -32768 ≤ w ∧ w < 32768 := h
    rw [split2]
    unfold sgnI
    rw [num2]
    show (if 0 < 2 ∧ w / 256 % 256 > 127 then 256 * (256 * 0 + w / 256 % 256) + w / 1 % 256 - 2 ^ (8 * 2) else 256 * (256 * 0 + w / 256 % 256) + w / 1 % 256) = w
    split <;> omega
  · have h : -8388608 ≤ w ∧ w < 8388608 := h
    rw [split3]
    unfold sgnI
    rw [num3]
    show (if 0 < 3 ∧ w / 65536 % 256 > 127 then 256 * (256 * (256 * 0 + w / 65536 % 256) + w / 256 % 256) + w / 1 % 256 - 2 ^ (8 * 3) else 256 * (256 * (256 * 0 + w / 65536 % 256) + w / 256 % 256) + w / 1 % 256) = w
    split <;> omega
  · have h : -2147483648 ≤ w ∧ w < 2147483648 := h
    rw [split4]
    unfold sgnI
    rw [num4]
    show (if 0 < 4 ∧ w / 16777216 % 256 > 127 then 256 * (256 * (256 * (256 * 0 + w / 16777216 % 256) + w / 65536 % 256) + w / 256 % 256) + w / 1 % 256 - 2 ^ (8 * 4) else 256 * (256 * (256 * (256 * 0 + w / 16777216 % 256) + w / 65536 % 256) + w / 256 % 256) + w / 1 % 256) = w
    split <;> omega
theorem at0 (b : Int) (l : List Int) : rowAt (b :: l) 0 = rowHd (b :: l) 0 b := rfl
theorem wr_word {b x : Int} (hb : 200 ≤ b) (hb2 : b ≤ 255) (hx : 0 ≤ x ∧ x ≤ 255) : Wr "word" [b, x] := by
  refine ⟨by simp, fun y hy => ?_, by simp, fun t => ?_, by decide +kernel⟩
  · simp at hy; omega
  · show rowAt (b :: (x :: t)) 0 = _
    rw [at0]
    exact hd_none (List.getElem?_eq_none (by show 25 ≤ _; omega))
theorem wr_low {b : Int} {l : List Int} {s : Str} (hb : 0 ≤ b ∧ b ≤ 255) (hl : byt l) (h5 : l.length ≤ 4) (hs : signsL[(b / 8).toNat]? = some s) (lo : lowOk s (b % 8) = false) : Wr "low" (b :: l) := by
  refine ⟨by simp, fun y hy => ?_, by simp; omega, fun t => ?_, by decide +kernel⟩
  · rcases List.mem_cons.mp hy with e | e
    · rw [e]; exact hb
    · exact hl y e
  · rw [List.cons_append, at0, hd_some hs, lo, if_pos rfl]
theorem wr_long {w : Int} {k : Nat} (hk : 1 ≤ k) (h4 : k ≤ 4) (hp : psz w < k) : Wr "long" ((k : Int) :: splitK w k) := by
  refine ⟨by simp, fun y hy => ?_, by simp [split_len]; omega, fun t => ?_, by decide +kernel⟩
  · rcases List.mem_cons.mp hy with e | e
    · rw [e]; omega
    · exact split_in w k y e
  · have hw : -(2 ^ (8 * k - 1) : Int) ≤ w ∧ w < 2 ^ (8 * k - 1) := by
      unfold psz at hp
      rcases (by omega : k = 1 ∨ k = 2 ∨ k = 3 ∨ k = 4) with rfl | rfl | rfl | rfl
      · show -128 ≤ w ∧ w < 128
        repeat' split at hp
        all_goals omega
      · show -32768 ≤ w ∧ w < 32768
        repeat' split at hp
        all_goals omega
      · show -8388608 ≤ w ∧ w < 8388608
        repeat' split at hp
        all_goals omega
      · show -2147483648 ≤ w ∧ w < 2147483648
        repeat' split at hp
        all_goals omega
    have es : signsL[((k : Int) / 8).toNat]? = some "push" := by rw [show ((k : Int) / 8).toNat = 0 by omega]; rfl
    have e2 : lowW "push" = some ("word" : Str) := by decide +kernel
    have e3 : tailW "push" = some ("word" : Str) := by decide +kernel
    rw [List.cons_append, at0, hd_some es, show (k : Int) % 8 = (k : Int) by omega, low_of e2]
    rw [if_neg (by show ¬ decide ((k : Int) ≤ 4) = false; rw [decide_eq_true (by omega)]; simp), tsz_of e3, if_pos rfl, Int.toNat_natCast, if_neg (by simp [split_len]; omega)]
    show rowTl "push" (k : Int) ((splitK w k ++ t).take k) = _
    rw [List.take_append_of_le_length (by rw [split_len]; exact Nat.le_refl _), List.take_of_length_le (by rw [split_len]; exact Nat.le_refl _), tl_push, sgn_wide hk h4 hw, if_pos (by omega)]
theorem wr_field {b x : Int} {s : Str} (hb : 0 ≤ b ∧ b ≤ 255) (hs : signsL[(b / 8).toNat]? = some s) (hf : s ∈ fldL) (hx : 7 < x ∧ x ≤ 255) : Wr "low" [b, x] := by
  refine ⟨by simp, fun y hy => ?_, by simp, fun t => ?_, by decide +kernel⟩
  · simp at hy; omega
  · have sm := List.mem_of_getElem? hs
    rcases kind_of s sm with ⟨e1, _⟩ | ⟨e1, _⟩ | ⟨e1, _⟩ | ⟨e1, _⟩ | ⟨e1, e2, e3, e4⟩ | ⟨e1, _⟩
    · exact absurd e1 (kinds_apart.2.2.1 s hf).1
    · exact absurd e1 (kinds_apart.2.2.1 s hf).2.1
    · exact absurd e1 (kinds_apart.2.2.1 s hf).2.2.1
    · exact absurd e1 (kinds_apart.2.2.1 s hf).2.2.2
    · show rowAt (b :: (x :: t)) 0 = _
      have e5 : tszK s (b % 8) = 1 := by rw [tsz_of e4, if_neg (by decide +kernel), if_pos rfl]
      rw [at0, hd_some hs, low_any e2 e3, if_neg (by simp), e5, if_neg (by simp)]
      show rowTl s (b % 8) [x] = _
      rw [tl_else (kinds_apart.2.2.1 s hf).1, num1, if_pos ⟨e4, by omega⟩]
    · exact absurd hf (kinds_apart.2.2.2.1 s e1).2.2.2.2
theorem raws_ok {rs : List Ro} (hok : ∀ r ∈ rs, r.Ok rs.length) (hl : rs.length ≤ 100) {k : Nat} : ∀ r ∈ (rs.take k).map (rawOf rs), r.Ok 65536 := by
  intro r hr
  obtain ⟨q, hq, rfl⟩ := List.mem_map.mp hr
  exact raw_fine hl (hok q (List.mem_of_mem_take hq))
theorem raws_atK {rs : List Ro} {k : Nat} (hk : k ≤ rs.length) : atK ((rs.take k).map (rawOf rs)) ((rs.take k).map (rawOf rs)).length = atK rs k := by
  rw [at_map (rawOf rs) (raw_tl rs), List.length_map, List.length_take, Nat.min_eq_left hk]
  conv => rhs; rw [← List.take_append_drop k rs]
  rw [at_app _ _ (by rw [List.length_take, Nat.min_eq_left hk]; exact Nat.le_refl _)]
theorem put_err {rs : List Ro} (hok : ∀ r ∈ rs, r.Ok rs.length) (hl : rs.length ≤ 60) {k : Nat} (hk : k ≤ rs.length) {w : Str} {l : List Int} (hw : Wr w l) (t : List Int) : rowsOf (byK rs k ++ (l ++ t)) = .error (atK rs k, w) := by
  rw [by_raws rs k hk, wrong_at (raws_ok hok (by omega)) (by rw [List.length_map, List.length_take]; omega) (fun e => hw.ne (List.append_eq_nil_iff.mp e).1) (hw.err t), raws_atK hk]
theorem jump_raw {m : Int} (h : 0 ≤ m ∧ m < 7) : ∃ v : Nat, v < 65536 ∧ rawBy (.pla "jump" v) = [8 * 13, 255, 255 - m] := by
  refine ⟨(65535 - m).toNat, by omega, ?_⟩
  show (((8 * signNo "jump" + 0 : Nat)) : Int) :: splitK (((65535 - m).toNat : Nat) : Int) 2 = _
  rw [split2, show (((65535 - m).toNat : Nat) : Int) = 65535 - m by omega, show signNo "jump" = 13 by decide +kernel]
  refine congrArg _ (l2 (by omega) (by omega))
theorem put_err2 {rs : List Ro} (hok : ∀ r ∈ rs, r.Ok rs.length) (hl : rs.length ≤ 60) {k : Nat} (hk : k ≤ rs.length) {w : Str} {l : List Int} (hw : Wr w l) (t : List Int) {m : Int} (hm : 0 ≤ m ∧ m < 7) : rowsOf ([8 * 13, 255, 255 - m] ++ (byK rs k ++ (l ++ t))) = .error (atK rs k + 3, w) := by
  obtain ⟨v, hv, e⟩ := jump_raw hm
  rw [← e, by_raws rs k hk, ← List.append_assoc, ← raws_one, ← raws_app]
  have ok2 : ∀ r ∈ [Ro.pla "jump" v] ++ (rs.take k).map (rawOf rs), r.Ok 65536 := by
    intro r hr
    rcases List.mem_append.mp hr with h | h
    · rw [List.mem_singleton.mp h]
      exact ⟨by decide +kernel, hv⟩
    · exact raws_ok hok (by omega) r h
  rw [wrong_at ok2 (by rw [List.length_append, List.length_singleton, List.length_map, List.length_take]; omega) (fun e => hw.ne (List.append_eq_nil_iff.mp e).1) (hw.err t)]
  have ea : atK ([Ro.pla "jump" v] ++ (rs.take k).map (rawOf rs)) ([Ro.pla "jump" v] ++ (rs.take k).map (rawOf rs)).length = atK rs k + 3 := by
    rw [← raws_len, raws_app, List.length_append, raws_one, raw_len, raws_len, raws_atK hk]
    show 1 + 2 + _ = _
    omega
  rw [ea]
theorem by_take {rs : List Ro} (k : Nat) (hk : k ≤ rs.length) (t : List Int) : (bytesK rs ++ t).take (atK rs k) = byK rs k ∧ ∃ u, (bytesK rs ++ t).drop (atK rs k) = u ∧ bytesK rs ++ t = byK rs k ++ u := by
  obtain ⟨u, hu⟩ := by_split rs k hk
  have el := by_len rs k hk
  refine ⟨?_, u ++ t, ?_, ?_⟩
  · rw [hu, List.append_assoc, ← el, List.take_left']
    rfl
  · rw [hu, List.append_assoc, ← el, List.drop_left']
    rfl
  · rw [hu, List.append_assoc]
theorem byt_app {a b : List Int} (h : byt a) (g : byt b) : byt (a ++ b) := fun x hx => (List.mem_append.mp hx).elim (h x) (g x)
theorem byt_of {a b : List Int} (h : byt (a ++ b)) : byt a ∧ byt b := ⟨fun x hx => h x (List.mem_append_left _ hx), fun x hx => h x (List.mem_append_right _ hx)⟩
theorem code_lay : ∀ w ∈ codeW, PyData.canLay0 (.str w) = true := by decide +kernel
theorem iw_ok (n : Int) {w : Str} (h : w ∈ codeW) : PySem.SeqAt.shaped (.tuple [.int n, .str w]) = true := by
  show (PyData.canLayAll0 [.int n, .str w] && decide (PyData.depthAll [.int n, .str w] + 1 ≤ 64)) = true
  have e1 : PyData.canLayAll0 [.int n, .str w] = true := by
    show (PyData.canLay0 (.int n) && (PyData.canLay0 (.str w) && PyData.canLayAll0 [])) = true
    rw [code_lay w h]
    rfl
  rw [e1]
  rfl
theorem iw_self (n : Int) {w : Str} (h : w ∈ codeW) : PyData.eqv (.tuple [.int n, .str w]) (.tuple [.int n, .str w]) = true := PySem.SeqAt.eqv_refl _ (PySem.SeqAt.canLay_of_shaped (iw_ok n h))
theorem sum_cast (l : List Ro) : (l.map fun r => ((1 + tlK r : Nat) : Int)).sum = (((l.map fun r => 1 + tlK r).sum : Nat) : Int) := by
  induction l with
  | nil => rfl
  | cons x r ih => rw [List.map_cons, List.sum_cons, ih, List.map_cons, List.sum_cons]; omega
theorem cut_take {xs : List V} {k : Nat} : cutV xs none (some (k : Int)) = xs.take k := by
  unfold cutV
  rw [HT.sIx_none, HT.sIx_nat, List.drop_zero, Nat.sub_zero]
  exact List.take_eq_take_iff.mpr (by omega)
theorem cut_drop {xs : List V} {k : Nat} (h : k ≤ xs.length) : cutV xs (some (k : Int)) none = xs.drop k := by
  unfold cutV
  rw [HT.sIx_none, HT.sIx_nat, Nat.min_eq_left h]
  exact List.take_of_length_le (by rw [List.length_drop]; omega)
def shB (t : List Int) : Bool := match t with
  | [] => false
  | b :: l => match signsL[(b / 8).toNat]? with
    | none => false
    | some s => lowOk s (b % 8) && decide (l.length < (tszK s (b % 8)).toNat)
theorem sh_of {t : List Int} (h : shB t = true) : t ≠ [] ∧ rowAt t 0 = .error "short" := by
  cases t with
  | nil => cases h
  | cons b l =>
    refine ⟨by simp, ?_⟩
    rw [at0]
    have h : (match signsL[(b / 8).toNat]? with | none => false | some s => lowOk s (b % 8) && decide (l.length < (tszK s (b % 8)).toNat)) = true := h
    cases es : signsL[(b / 8).toNat]? with
    | none => rw [es] at h; cases h
    | some s =>
      rw [es] at h
      have h : (lowOk s (b % 8) && decide (l.length < (tszK s (b % 8)).toNat)) = true := h
      rw [Bool.and_eq_true] at h
      have h2 : l.length < (tszK s (b % 8)).toNat := of_decide_eq_true h.2
      rw [hd_some es, h.1, if_neg (by simp), if_pos (by rw [List.length_cons]; omega)]
theorem short_err {rs : List Ro} (hok : ∀ r ∈ rs, r.Ok rs.length) (hl : rs.length ≤ 60) {t : List Int} (h : t ≠ [] ∧ rowAt t 0 = .error "short") : rowsOf (bytesK rs ++ t) = .error ((bytesK rs).length, "short") := by
  have ok := raws_ok hok (by omega) (k := rs.length)
  rw [List.take_length] at ok
  rw [bytes_raws rs, wrong_at ok (by rw [List.length_map]; omega) h.1 h.2, raws_len]
theorem chunk_short {r : Ro} {n j : Nat} (h : r.Ok n) (hj : 1 + j ≤ tlK r) : (chunkK r).take (1 + j) ≠ [] ∧ rowAt ((chunkK r).take (1 + j)) 0 = .error "short" := by
  have hl := low_le h
  obtain ⟨sn, sl⟩ := sign_no _ h.sign
  have cl := chunk_len h
  have e : (chunkK r).take (1 + j) = ((8 * signNo (roS r) + lowK r : Nat) : Int) :: ((chunkK r).drop 1).take j := by
    rw [Nat.add_comm]
    rfl
  refine ⟨by rw [e]; simp, ?_⟩
  rw [e, at0, hd_some (s := roS r) (by rw [show ((((8 * signNo (roS r) + lowK r : Nat)) : Int) / 8).toNat = signNo (roS r) by omega]; exact sn), show (((8 * signNo (roS r) + lowK r : Nat)) : Int) % 8 = (lowK r : Int) by omega, low_right h, if_neg (by simp), tsz_row h, Int.toNat_natCast, if_pos]
  rw [List.length_cons, List.length_take]
  omega
theorem chunk_byt {r : Ro} {n : Nat} (h : r.Ok n) : byt (chunkK r) := by
  have hl := low_le h
  obtain ⟨sn, sl⟩ := sign_no _ h.sign
  intro x hx
  rcases List.mem_cons.mp hx with e | e
  · rw [e]; omega
  · by_cases z : roS r ∈ (["jump", "zero", "kin"] : List Str)
    · rw [if_pos z] at e
      simp at e
      omega
    · rw [if_neg z] at e
      exact split_in _ _ x e
def LsAt (K : PySem.W.Frag) (H : Hp) (us : List V) (ls : List (List Int)) : Prop := us.length = ls.length ∧ ∀ (i : Nat) (l : List Int), ls[i]? = some l → ∃ p, us[i]? = some (.ref p) ∧ SqL K H p (l.map V.int)
theorem LsAt.same {K : PySem.W.Frag} {H H' : Hp} {us : List V} {ls : List (List Int)} (e : Same H H') (h : LsAt K H us ls) : LsAt K H' us ls := ⟨h.1, fun i r hr => by
  obtain ⟨t, h1, h2⟩ := h.2 i r hr
  exact ⟨t, h1, e.seq h2⟩⟩
theorem LsAt.nil {K : PySem.W.Frag} {H : Hp} : LsAt K H [] [] := ⟨rfl, fun i r h => by simp at h⟩
theorem LsAt.cons {K : PySem.W.Frag} {H : Hp} {us : List V} {ls : List (List Int)} {p : Addr} {l : List Int} (hp : SqL K H p (l.map V.int)) (h : LsAt K H us ls) : LsAt K H (.ref p :: us) (l :: ls) := ⟨congrArg (· + 1) h.1, fun i q hq => by
  cases i with
  | zero => cases hq; exact ⟨p, rfl, hp⟩
  | succ i => exact h.2 i q hq⟩
theorem LsAt.app {K : PySem.W.Frag} {H : Hp} {us vs : List V} {ls ms : List (List Int)} (h : LsAt K H us ls) (g : LsAt K H vs ms) : LsAt K H (us ++ vs) (ls ++ ms) := by
  refine ⟨by rw [List.length_append, List.length_append, h.1, g.1], fun i q hq => ?_⟩
  by_cases hi : i < ls.length
  · rw [List.getElem?_append_left hi] at hq
    obtain ⟨p, h1, h2⟩ := h.2 i q hq
    exact ⟨p, by rw [List.getElem?_append_left (by rw [h.1]; exact hi)]; exact h1, h2⟩
  · rw [List.getElem?_append_right (by omega)] at hq
    obtain ⟨p, h1, h2⟩ := g.2 _ q hq
    exact ⟨p, by rw [List.getElem?_append_right (by rw [h.1]; omega), h.1]; exact h1, h2⟩
theorem LsAt.pick {K : PySem.W.Frag} {H : Hp} {us : List V} {ls : List (List Int)} (h : LsAt K H us ls) {n : Nat} (h0 : 0 < n) (hn : ls.length = n) (e : Int) : ∃ l ∈ ls, ∃ p, atI us (e % (n : Int)) = some (.ref p) ∧ SqL K H p (l.map V.int) := by
  obtain ⟨j, ej, lj⟩ := modN (e := e) h0
  have hx := List.getElem?_eq_getElem (l := ls) (i := j) (by omega)
  obtain ⟨p, h1, h2⟩ := h.2 j _ hx
  refine ⟨_, List.getElem_mem _, p, ?_, h2⟩
  rw [ej]
  exact atI_nat h1
def lastL : List (List Int) := [[1], [8 * 13], [8 * 15 + 7, 0], [8 * 17]] ++ [[4, 1, 2, 3], [8 * 14, 9], [3, 255], [8 * 20 + 5]] ++ [[2, 0], [4, 0, 0, 0]]
theorem last_sh : ∀ l ∈ lastL, shB l = true ∧ (∀ x ∈ l, 0 ≤ x ∧ x ≤ 255) ∧ l.length ≤ 4 := by decide +kernel
theorem bytes_more {rs : List Ro} (hok : ∀ r ∈ rs, r.Ok rs.length) {q : Ro} (hq : ∀ rs', rowBy rs' q = rawBy q) : bytesK (rs ++ [q]) = bytesK rs ++ rawBy q := by
  unfold bytesK
  rw [List.length_append, List.length_singleton]
  have er : (rs ++ [q])[rs.length]? = some q := by rw [List.getElem?_append_right (Nat.le_refl _), Nat.sub_self]; rfl
  rw [by_succ er, hq]
  congr 1
  have main : ∀ i, i ≤ rs.length → byK (rs ++ [q]) i = byK rs i := by
    intro i
    induction i with
    | zero => intro _; rw [by_zero, by_zero]
    | succ i ih =>
      intro hi
      have er := List.getElem?_eq_getElem (l := rs) (i := i) (by omega)
      have hr := hok _ (List.getElem_mem (l := rs) (n := i) (by omega))
      generalize rs[i] = r at er hr
      have er2 : (rs ++ [q])[i]? = some r := by rw [List.getElem?_append_left (by omega)]; exact er
      rw [by_succ er, by_succ er2, ih (by omega), raw_by, raw_by]
      congr 1
      congr 1
      cases r with
      | pla s p => show Ro.pla s (atK (rs ++ [q]) p) = Ro.pla s (atK rs p); rw [at_app _ _ (Nat.le_of_lt hr.2)]
      | kin c p => show Ro.kin c (atK (rs ++ [q]) p) = Ro.kin c (atK rs p); rw [at_app _ _ (Nat.le_of_lt hr.2)]
      | push w => rfl
      | low s n => rfl
      | fld s c f => rfl
      | bare s => rfl
  exact main _ (Nat.le_refl _)
theorem ok_more {rs : List Ro} (hok : ∀ r ∈ rs, r.Ok rs.length) {s : Str} (hs : s ∈ baL) : ∀ r ∈ rs ++ [Ro.bare s], r.Ok (rs ++ [Ro.bare s]).length := by
  intro r hr
  rw [List.length_append, List.length_singleton]
  rcases List.mem_append.mp hr with h | h
  · exact (hok r h).mono (Nat.le_succ _)
  · rw [List.mem_singleton.mp h]; exact hs
theorem bare_more {s : Str} (hs : s ∈ baL) : ∀ (m : Nat) (rs : List Ro), (∀ r ∈ rs, r.Ok rs.length) → ∃ rs2, rs2.length = rs.length + m ∧ (∀ r ∈ rs2, r.Ok rs2.length) ∧ bytesK rs2 = bytesK rs ++ List.replicate m ((8 * signNo s : Nat) : Int)
  | 0, rs, h => ⟨rs, rfl, h, by simp⟩
  | m + 1, rs, h => by
    obtain ⟨rs2, h1, h2, h3⟩ := bare_more hs m (rs ++ [.bare s]) (ok_more h hs)
    refine ⟨rs2, by rw [h1, List.length_append, List.length_singleton]; omega, h2, ?_⟩
    rw [h3, bytes_more h (q := .bare s) (fun _ => rfl), List.append_assoc, List.replicate_succ]
    rfl
theorem many_err {rs : List Ro} (hok : ∀ r ∈ rs, r.Ok rs.length) (hl : rs.length = 100) {t : List Int} (ht : t ≠ []) : rowsOf (bytesK rs ++ t) = .error ((bytesK rs).length, "many") := by
  have ok := raws_ok hok (by omega) (k := rs.length)
  rw [List.take_length] at ok
  rw [bytes_raws rs, many_at ok (by rw [List.length_map]; exact hl) ht, raws_len]
theorem nine_bare (e : Int) : ∃ s ∈ baL, ((8 * signNo s : Nat) : Int) = 24 + 8 * (e % 9) := by
  obtain ⟨j, ej, lj⟩ := modN (e := e) (n := 9) (by decide)
  have ej : e % 9 = (j : Int) := ej
  obtain ⟨s, hs, h⟩ := (by decide +kernel : ∀ j, j < 9 → ∃ s ∈ baL, 8 * signNo s = 24 + 8 * j) j lj
  refine ⟨s, hs, ?_⟩
  rw [ej, h]
  omega
theorem rep_one (x : V) (m : Nat) : (List.replicate m [x]).flatten = List.replicate m x := by
  induction m with
  | zero => rfl
  | succ m ih => rw [List.replicate_succ, List.flatten_cons, ih, List.replicate_succ]; rfl
structure Goes (X : Nat → Ro) (b : Int) : Prop where
  raw : ∀ v : Nat, rawBy (X v) = b :: splitK (v : Int) 2
  chunk : chunkK (X 0) = [b, 0, 0]
  tl : ∀ v, tlK (X v) = 2
  ok : ∀ v n, v < n → (X v).Ok n
  plc : ∀ rr v, plc rr (X v) = (posOf rr v).map X
  byte : 0 ≤ b ∧ b ≤ 255
theorem goes_at (e m : Int) (hm : 0 ≤ m ∧ m < 8) : ∃ b X, atI [V.int (8 * 13), V.int (8 * 14), V.int (8 * 15 + m)] (e % 3) = some (.int b) ∧ Goes X b := by
  obtain ⟨j, ej, lj⟩ := modN (e := e) (n := 3) (by decide)
  have ej : e % 3 = (j : Int) := ej
  rw [ej]
  rcases (by omega : j = 0 ∨ j = 1 ∨ j = 2) with rfl | rfl | rfl
  · refine ⟨8 * 13, .pla "jump", atI_nat rfl, ⟨fun v => ?_, ?_, fun _ => rfl, fun v n h => ⟨by decide +kernel, h⟩, fun _ _ => rfl, by decide⟩⟩
    · show (((8 * signNo "jump" + 0 : Nat)) : Int) :: splitK (v : Int) 2 = _
      rw [show signNo "jump" = 13 by decide +kernel]
      rfl
    · unfold chunkK
      rw [if_pos (show roS (.pla "jump" 0) ∈ (["jump", "zero", "kin"] : List Str) from (by decide +kernel : ("jump" : Str) ∈ (["jump", "zero", "kin"] : List Str)))]
      show [(((8 * signNo "jump" + 0 : Nat)) : Int), 0, 0] = _
      rw [show signNo "jump" = 13 by decide +kernel]
      rfl
  · refine ⟨8 * 14, .pla "zero", atI_nat rfl, ⟨fun v => ?_, ?_, fun _ => rfl, fun v n h => ⟨by decide +kernel, h⟩, fun _ _ => rfl, by decide⟩⟩
    · show (((8 * signNo "zero" + 0 : Nat)) : Int) :: splitK (v : Int) 2 = _
      rw [show signNo "zero" = 14 by decide +kernel]
      rfl
    · unfold chunkK
      rw [if_pos (show roS (.pla "zero" 0) ∈ (["jump", "zero", "kin"] : List Str) from (by decide +kernel : ("zero" : Str) ∈ (["jump", "zero", "kin"] : List Str)))]
      show [(((8 * signNo "zero" + 0 : Nat)) : Int), 0, 0] = _
      rw [show signNo "zero" = 14 by decide +kernel]
      rfl
  · refine ⟨8 * 15 + m, .kin m.toNat, atI_nat rfl, ⟨fun v => ?_, ?_, fun _ => rfl, fun v n h => ⟨by omega, h⟩, fun _ _ => rfl, by omega⟩⟩
    · show (((8 * signNo "kin" + m.toNat : Nat)) : Int) :: splitK (v : Int) 2 = _
      rw [show signNo "kin" = 15 by decide +kernel]
      congr 1
      omega
    · unfold chunkK
      rw [if_pos (show roS (.kin m.toNat 0) ∈ (["jump", "zero", "kin"] : List Str) from (by decide +kernel : ("kin" : Str) ∈ (["jump", "zero", "kin"] : List Str)))]
      show [(((8 * signNo "kin" + m.toNat : Nat)) : Int), 0, 0] = _
      rw [show signNo "kin" = 15 by decide +kernel]
      congr 1
      omega
def insK (rs : List Ro) (k : Nat) (x : Ro) : List Ro := rs.take k ++ [x] ++ rs.drop k
theorem ins_len {rs : List Ro} {k : Nat} (h : k ≤ rs.length) (x : Ro) : (insK rs k x).length = rs.length + 1 := by
  unfold insK
  simp
  omega
def adjK (k p : Nat) : Nat := p + (if k ≤ p then 1 else 0)
def rawIn (rx : List Ro) (k : Nat) : Ro → Ro
  | .pla s p => .pla s (atK rx (adjK k p))
  | .kin c p => .kin c (atK rx (adjK k p))
  | .push w => .push w
  | .low s n => .low s n
  | .fld s c f => .fld s c f
  | .bare s => .bare s
theorem rin_tl (rx : List Ro) (k : Nat) (r : Ro) : tlK (rawIn rx k r) = tlK r := by cases r <;> rfl
theorem at_sizes {a b : List Ro} (h : a.map tlK = b.map tlK) (i : Nat) : atK a i = atK b i := by
  unfold atK
  have e : ∀ l : List Ro, ((l.take i).map fun r => 1 + tlK r) = ((l.map tlK).take i).map (1 + ·) := fun l => by rw [← List.map_take, List.map_map]; rfl
  rw [e, e, h]
def rawsIn (rs : List Ro) (k : Nat) (X : Nat → Ro) (goal : Nat) (mo : List Ro) : List Ro := (rs.take k).map (rawIn (insK rs k (X 0)) k) ++ [X goal] ++ (rs.drop k).map (rawIn (insK rs k (X 0)) k) ++ mo
theorem rin_at {rs : List Ro} {k : Nat} {X : Nat → Ro} {b : Int} (hX : Goes X b) {goal : Nat} {mo : List Ro} {i : Nat} (hi : i ≤ (insK rs k (X 0)).length) : atK (rawsIn rs k X goal mo) i = atK (insK rs k (X 0)) i := by
  unfold rawsIn
  rw [at_app _ _ (by unfold insK at hi; simp at hi ⊢; omega)]
  refine at_sizes ?_ i
  unfold insK
  simp only [List.map_append, List.map_map, List.map_cons, List.map_nil, hX.tl]
  have e : ∀ rx, (tlK ∘ rawIn rx k) = tlK := fun rx => funext fun r => rin_tl rx k r
  rw [e]
theorem rin_ok {rs : List Ro} (hok : ∀ r ∈ rs, r.Ok rs.length) (hl : rs.length ≤ 60) {k : Nat} (hk : k ≤ rs.length) {X : Nat → Ro} {b : Int} (hX : Goes X b) {goal : Nat} (hg : goal < 65536) {mo : List Ro} (hmo : ∀ r ∈ mo, r.Ok 65536) : ∀ r ∈ rawsIn rs k X goal mo, r.Ok 65536 := by
  have one : ∀ r ∈ rs, (rawIn (insK rs k (X 0)) k r).Ok 65536 := by
    intro r hr
    have ok := hok r hr
    have le : ∀ p, p < rs.length → atK (insK rs k (X 0)) (adjK k p) < 65536 := fun p hp => by
      have ha : adjK k p ≤ rs.length := by unfold adjK; split <;> omega
      have := at_le (insK rs k (X 0)) (adjK k p) (by rw [ins_len hk]; omega)
      omega
    cases r with
    | pla s p => exact ⟨ok.1, le p ok.2⟩
    | kin c p => exact ⟨ok.1, le p ok.2⟩
    | push w => exact ok
    | low s n => exact ok
    | fld s c f => exact ok
    | bare s => exact ok
  intro r hr
  unfold rawsIn at hr
  rcases List.mem_append.mp hr with h | h
  · rcases List.mem_append.mp h with h | h
    · rcases List.mem_append.mp h with h | h
      · obtain ⟨q, hq, rfl⟩ := List.mem_map.mp h
        exact one q (List.mem_of_mem_take hq)
      · rw [List.mem_singleton.mp h]; exact hX.ok _ _ hg
    · obtain ⟨q, hq, rfl⟩ := List.mem_map.mp h
      exact one q (List.mem_of_mem_drop hq)
  · exact hmo r h
theorem plc_err {rr : List Ro} {x : Ro} (hx : plc rr x = none) : ∀ {l m : List Ro} {i : Nat}, (∀ r ∈ l, plc rr r ≠ none) → plcGo rr i (l ++ x :: m) = .error (atK rr (i + l.length), "amid")
  | [], m, i, _ => by
    rw [List.nil_append, plcGo, hx]
    rfl
  | r :: l, m, i, h => by
    rw [List.cons_append, plcGo]
    cases e : plc rr r with
    | none => exact absurd e (h r List.mem_cons_self)
    | some q =>
      show (match plcGo rr (i + 1) (l ++ x :: m) with | .error e => Except.error e | .ok qs => Except.ok (q :: qs)) = _
      rw [plc_err hx (l := l) (m := m) (i := i + 1) fun y hy => h y (List.mem_cons_of_mem _ hy), List.length_cons, show i + 1 + l.length = i + (l.length + 1) by omega]
theorem amid_err {rs : List Ro} (hok : ∀ r ∈ rs, r.Ok rs.length) (hl : rs.length ≤ 60) {k : Nat} (hk : k ≤ rs.length) {X : Nat → Ro} {b : Int} (hX : Goes X b) {goal : Nat} (hg : goal < 65536) {mo : List Ro} (hmo : ∀ r ∈ mo, r.Ok 65536) (lmo : mo.length ≤ 1) (hno : ∀ j, j < (rawsIn rs k X goal mo).length → atK (rawsIn rs k X goal mo) j ≠ goal) :
    rowsOf (rawsBy (rawsIn rs k X goal mo)) = .error (atK (insK rs k (X 0)) k, "amid") := by
  have il := ins_len hk (X 0)
  have rl : (rawsIn rs k X goal mo).length = rs.length + 1 + mo.length := by unfold rawsIn; simp; omega
  rw [raw_all (rin_ok hok hl hk hX hg hmo) (by omega)]
  have hx : plc (rawsIn rs k X goal mo) (X goal) = none := by
    rw [hX.plc]
    cases e : posOf (rawsIn rs k X goal mo) goal with
    | none => rfl
    | some j =>
      obtain ⟨h1, h2⟩ := pos_some e
      exact absurd h2 (hno j h1)
  have hahead : ∀ r ∈ (rs.take k).map (rawIn (insK rs k (X 0)) k), plc (rawsIn rs k X goal mo) r ≠ none := by
    intro r hr
    obtain ⟨q, hq, rfl⟩ := List.mem_map.mp hr
    have ok := hok q (List.mem_of_mem_take hq)
    have there : ∀ p, p < rs.length → posOf (rawsIn rs k X goal mo) (atK (insK rs k (X 0)) (adjK k p)) ≠ none := fun p hp e => by
      have ha : adjK k p ≤ rs.length := by unfold adjK; split <;> omega
      exact pos_none e (adjK k p) (by omega) (rin_at hX (by omega))
    cases q with
    | pla s p => intro e; exact there p ok.2 (Option.map_eq_none_iff.mp e)
    | kin c p => intro e; exact there p ok.2 (Option.map_eq_none_iff.mp e)
    | push w => intro e; cases e
    | low s n => intro e; cases e
    | fld s c f => intro e; cases e
    | bare s => intro e; cases e
  have es : rawsIn rs k X goal mo = (rs.take k).map (rawIn (insK rs k (X 0)) k) ++ X goal :: ((rs.drop k).map (rawIn (insK rs k (X 0)) k) ++ mo) := by
    unfold rawsIn
    simp
  have z := plc_err (rr := rawsIn rs k X goal mo) hx (l := (rs.take k).map (rawIn (insK rs k (X 0)) k)) (m := (rs.drop k).map (rawIn (insK rs k (X 0)) k) ++ mo) (i := 0) hahead
  rw [← es, List.length_map, List.length_take, Nat.min_eq_left hk, Nat.zero_add, rin_at hX (by omega)] at z
  exact z
def Amid (rx : List Ro) (e g : Nat) : Prop := atK rx rx.length + e ≤ g ∨ ∃ j, j < rx.length ∧ atK rx j < g ∧ g < atK rx (j + 1)
theorem amid_no {rs : List Ro} {k : Nat} (hk : k ≤ rs.length) {X : Nat → Ro} {b : Int} (hX : Goes X b) {goal : Nat} {mo : List Ro} (h : Amid (insK rs k (X 0)) (rawsBy mo).length goal) : ∀ j, j < (rawsIn rs k X goal mo).length → atK (rawsIn rs k X goal mo) j ≠ goal := by
  intro j hj
  have il := ins_len hk (X 0)
  have rl : (rawsIn rs k X goal mo).length = rs.length + 1 + mo.length := by unfold rawsIn; simp; omega
  rcases h with h | ⟨i, h1, h2, h3⟩
  · have tot : atK (rawsIn rs k X goal mo) (rawsIn rs k X goal mo).length = atK (insK rs k (X 0)) (insK rs k (X 0)).length + (rawsBy mo).length := by
      have e1 := rin_at hX (goal := goal) (mo := []) (rs := rs) (k := k) (Nat.le_refl _)
      have e2 : rawsIn rs k X goal mo = rawsIn rs k X goal [] ++ mo := by unfold rawsIn; rw [List.append_nil]
      have e3 : (rawsIn rs k X goal []).length = (insK rs k (X 0)).length := by unfold rawsIn insK; simp
      rw [← raws_len, e2, raws_app, List.length_append, raws_len, e3, e1]
    have := at_mono (rawsIn rs k X goal mo) hj (Nat.le_refl _)
    omega
  · have a1 := rin_at hX (goal := goal) (mo := mo) (rs := rs) (k := k) (i := i) (by omega)
    have a2 := rin_at hX (goal := goal) (mo := mo) (rs := rs) (k := k) (i := i + 1) (by omega)
    rcases Nat.lt_or_ge i j with z | z
    · rcases Nat.lt_or_ge (i + 1) j with y | y
      · have := at_mono (rawsIn rs k X goal mo) y (by omega)
        omega
      · have : j = i + 1 := by omega
        subst this
        omega
    · rcases Nat.lt_or_ge j i with y | y
      · have := at_mono (rawsIn rs k X goal mo) y (by omega)
        omega
      · have : j = i := by omega
        subst this
        omega
inductive Rel (rx : List Ro) (k n : Nat) (ra rc rq : Ro) : Prop where
  | go (p : Nat) (hs : roS ra ∈ (["jump", "zero", "kin"] : List Str)) (hl : atI (roV ra) (-1) = some (.int (p : Int))) (hp : p < n) (b : Int) (l : List Int) (hc : chunkK rc = b :: l) (hq : rawBy rq = b :: splitK (atK rx (adjK k p) : Int) 2)
  | st (hs : roS ra ∉ (["jump", "zero", "kin"] : List Str)) (hq : rawBy rq = chunkK rc)
theorem rel_row {r : Ro} {n k : Nat} (rx : List Ro) (h : r.Ok n) : Rel rx k n r r (rawIn rx k r) := by
  by_cases z : roS r ∈ (["jump", "zero", "kin"] : List Str)
  · obtain ⟨p, e1, e2, _, _⟩ := due_place h z []
    refine .go p z e1 e2 _ _ rfl ?_
    cases r with
    | pla s v =>
      have : p = v := by
        have e1 : some (V.int (v : Int)) = some (.int (p : Int)) := e1
        have := V.int.inj (Option.some.inj e1)
        omega
      subst this
      rfl
    | kin c v =>
      have : p = v := by
        have e1 : some (V.int (v : Int)) = some (.int (p : Int)) := e1
        have := V.int.inj (Option.some.inj e1)
        omega
      subst this
      rfl
    | push w => exact absurd z (by show ("push" : Str) ∉ (["jump", "zero", "kin"] : List Str); decide +kernel)
    | low s m => exact absurd z ((by decide +kernel : ∀ s ∈ lowL, s ∉ (["jump", "zero", "kin"] : List Str)) s h.1)
    | fld s c f => exact absurd z ((by decide +kernel : ∀ s ∈ fldL, s ∉ (["jump", "zero", "kin"] : List Str)) s h.1)
    | bare s => exact absurd z ((by decide +kernel : ∀ s ∈ baL, s ∉ (["jump", "zero", "kin"] : List Str)) s h)
  · refine .st z ?_
    unfold chunkK
    rw [if_neg z]
    cases r with
    | pla s v => exact absurd ((by decide +kernel : ∀ s ∈ plaL, s ∈ (["jump", "zero", "kin"] : List Str)) s h.1) z
    | kin c v => exact absurd (by decide +kernel : ("kin" : Str) ∈ (["jump", "zero", "kin"] : List Str)) z
    | push w => rfl
    | low s m => rfl
    | fld s c f => rfl
    | bare s => rfl
def rawsLp (rs : List Ro) (k : Nat) (X : Nat → Ro) : List Ro := (rs.take k).map (rawIn (insK rs k (X 0)) k) ++ [X (atK (insK rs k (X 0)) (adjK k 0))] ++ (rs.drop k).map (rawIn (insK rs k (X 0)) k)
theorem rel_at {rs : List Ro} (hok : ∀ r ∈ rs, r.Ok rs.length) (h1 : 1 ≤ rs.length) {k : Nat} (hk : k ≤ rs.length) {X : Nat → Ro} {b : Int} (hX : Goes X b) {i : Nat} (hi : i < rs.length + 1) : ∃ ra rc rq, (insK rs k (.pla "jump" 0))[i]? = some ra ∧ (insK rs k (X 0))[i]? = some rc ∧ (rawsLp rs k X)[i]? = some rq ∧ Rel (insK rs k (X 0)) k rs.length ra rc rq := by
  have tl : (rs.take k).length = k := by rw [List.length_take]; omega
  have tl2 : ∀ rx, ((rs.take k).map (rawIn rx k)).length = k := fun rx => by rw [List.length_map]; exact tl
  rcases Nat.lt_trichotomy i k with z | z | z
  · have er := List.getElem?_eq_getElem (l := rs) (i := i) (by omega)
    have hr := hok _ (List.getElem_mem (l := rs) (n := i) (by omega))
    generalize rs[i] = r at er hr
    have et : (rs.take k)[i]? = some r := by rw [List.getElem?_take_of_lt z]; exact er
    refine ⟨r, r, rawIn (insK rs k (X 0)) k r, ?_, ?_, ?_, rel_row _ hr⟩
    · show (rs.take k ++ [Ro.pla "jump" 0] ++ rs.drop k)[i]? = _
      rw [List.append_assoc, List.getElem?_append_left (by omega)]; exact et
    · show (rs.take k ++ [X 0] ++ rs.drop k)[i]? = _
      rw [List.append_assoc, List.getElem?_append_left (by omega)]; exact et
    · unfold rawsLp
      rw [List.append_assoc, List.getElem?_append_left (by rw [tl2]; omega), List.getElem?_map, et]; rfl
  · subst z
    refine ⟨.pla "jump" 0, X 0, X (atK (insK rs i (X 0)) (adjK i 0)), ?_, ?_, ?_, .go 0 (by show ("jump" : Str) ∈ (["jump", "zero", "kin"] : List Str); decide +kernel) (show atI [V.str "jump", V.int 0] (-1) = some (V.int ((0 : Nat) : Int)) from rfl) (by omega) b [0, 0] hX.chunk (hX.raw _)⟩
    · show (rs.take i ++ [Ro.pla "jump" 0] ++ rs.drop i)[i]? = _
      rw [List.append_assoc, List.getElem?_append_right (by omega), tl, Nat.sub_self]; rfl
    · show (rs.take i ++ [X 0] ++ rs.drop i)[i]? = _
      rw [List.append_assoc, List.getElem?_append_right (by omega), tl, Nat.sub_self]; rfl
    · unfold rawsLp
      rw [List.append_assoc, List.getElem?_append_right (by rw [tl2]; omega), tl2, Nat.sub_self]; rfl
  · have er := List.getElem?_eq_getElem (l := rs) (i := i - 1) (by omega)
    have hr := hok _ (List.getElem_mem (l := rs) (n := i - 1) (by omega))
    generalize rs[i - 1] = r at er hr
    have et : (rs.drop k)[i - (k + 1)]? = some r := by rw [List.getElem?_drop, show k + (i - (k + 1)) = i - 1 by omega]; exact er
    refine ⟨r, r, rawIn (insK rs k (X 0)) k r, ?_, ?_, ?_, rel_row _ hr⟩
    · show (rs.take k ++ [Ro.pla "jump" 0] ++ rs.drop k)[i]? = _
      rw [List.getElem?_append_right (by rw [List.length_append, tl]; exact z), List.length_append, tl]; exact et
    · show (rs.take k ++ [X 0] ++ rs.drop k)[i]? = _
      rw [List.getElem?_append_right (by rw [List.length_append, tl]; exact z), List.length_append, tl]; exact et
    · unfold rawsLp
      rw [List.getElem?_append_right (by rw [List.length_append, tl2]; exact z), List.length_append, tl2, List.getElem?_map]
      show ((rs.drop k)[i - (k + 1)]?).map _ = _
      rw [et]
      rfl
def AtP (P : Addr → Ro → Prop) (us : List V) (rs : List Ro) : Prop := us.length = rs.length ∧ ∀ (i : Nat) (r : Ro), rs[i]? = some r → ∃ t, us[i]? = some (.ref t) ∧ P t r
theorem at_ins {P : Addr → Ro → Prop} {us : List V} {rs : List Ro} (h : AtP P us rs) {k : Nat} (hk : k ≤ rs.length) {t : Addr} {x : Ro} (hx : P t x) : AtP P (us.take k ++ [.ref t] ++ us.drop k) (insK rs k x) := by
  have hl := h.1
  have tu : (us.take k).length = k := by rw [List.length_take]; omega
  have tr : (rs.take k).length = k := by rw [List.length_take]; omega
  refine ⟨by unfold insK; simp; omega, fun i r hr => ?_⟩
  have hr : (rs.take k ++ [x] ++ rs.drop k)[i]? = some r := hr
  rcases Nat.lt_trichotomy i k with z | z | z
  · rw [List.append_assoc, List.getElem?_append_left (by omega), List.getElem?_take_of_lt z] at hr
    obtain ⟨t', h1, h2⟩ := h.2 i r hr
    exact ⟨t', by rw [List.append_assoc, List.getElem?_append_left (by omega), List.getElem?_take_of_lt z]; exact h1, h2⟩
  · subst z
    rw [List.append_assoc, List.getElem?_append_right (by omega), tr, Nat.sub_self] at hr
    cases hr
    exact ⟨t, by rw [List.append_assoc, List.getElem?_append_right (by omega), tu, Nat.sub_self]; rfl, hx⟩
  · rw [List.getElem?_append_right (by rw [List.length_append, tr]; exact z), List.length_append, tr, List.getElem?_drop] at hr
    obtain ⟨t', h1, h2⟩ := h.2 _ r hr
    exact ⟨t', by rw [List.getElem?_append_right (by rw [List.length_append, tu]; exact z), List.length_append, tu, List.getElem?_drop]; exact h1, h2⟩
theorem starts_last {rx : List Ro} {n : Nat} (h : rx.length = n + 1) : ((startsK rx).map V.int).getLast? = some (.int (atK rx n : Int)) := by
  unfold startsK
  rw [h, List.range_succ, List.map_append, List.map_append]
  simp
theorem at_full {rx : List Ro} {n : Nat} {r : Ro} (h : rx.length = n + 1) (hr : rx[n]? = some r) : atK rx n + (1 + tlK r) = atK rx rx.length := by rw [h, at_succ hr]
theorem last_of {us : List V} {n : Nat} {v : V} (h : us.length = n + 1) (hv : us[n]? = some v) : us.getLast? = some v := by
  rw [List.getLast?_eq_getElem?, h]
  exact hv
theorem ins_tl {rs : List Ro} (hok : ∀ r ∈ rs, r.Ok rs.length) {k : Nat} (hk : k ≤ rs.length) {X : Nat → Ro} {b : Int} (hX : Goes X b) : ∀ r ∈ insK rs k (X 0), r.Ok (rs.length + 1) := by
  intro r hr
  unfold insK at hr
  rcases List.mem_append.mp hr with h | h
  · rcases List.mem_append.mp h with h | h
    · exact (hok r (List.mem_of_mem_take h)).mono (Nat.le_succ _)
    · rw [List.mem_singleton.mp h]; exact hX.ok _ _ (by omega)
  · exact (hok r (List.mem_of_mem_drop h)).mono (Nat.le_succ _)
theorem loop_cut {rs : List Ro} {k : Nat} (hk : k ≤ rs.length) {X : Nat → Ro} {b : Int} (hX : Goes X b) (goal : Nat) : (rawsBy (rawsLp rs k X)).take (atK (insK rs k (X 0)) k) ++ [b] ++ splitK (goal : Int) 2 ++ (rawsBy (rawsLp rs k X)).drop (atK (insK rs k (X 0)) k + 3) = rawsBy (rawsIn rs k X goal []) ∧ atK (insK rs k (X 0)) k + 3 ≤ (rawsBy (rawsLp rs k X)).length := by
  have el : (rawsBy ((rs.take k).map (rawIn (insK rs k (X 0)) k))).length = atK (insK rs k (X 0)) k := by
    rw [raws_len]
    have e1 := rin_at hX (rs := rs) (k := k) (goal := 0) (mo := []) (i := k) (by rw [ins_len hk]; omega)
    have e2 : rawsIn rs k X 0 [] = (rs.take k).map (rawIn (insK rs k (X 0)) k) ++ ([X 0] ++ (rs.drop k).map (rawIn (insK rs k (X 0)) k)) := by unfold rawsIn; simp
    rw [e2, at_app _ _ (by rw [List.length_map, List.length_take]; omega)] at e1
    rw [List.length_map, List.length_take, Nat.min_eq_left hk]
    exact e1
  generalize hA : rawsBy ((rs.take k).map (rawIn (insK rs k (X 0)) k)) = A at el
  have e3 : rawsBy (rawsLp rs k X) = A ++ (rawBy (X (atK (insK rs k (X 0)) (adjK k 0))) ++ rawsBy ((rs.drop k).map (rawIn (insK rs k (X 0)) k))) := by
    unfold rawsLp
    rw [raws_app, raws_app, hA, raws_one, List.append_assoc]
  have e4 : rawsBy (rawsIn rs k X goal []) = A ++ (rawBy (X goal) ++ rawsBy ((rs.drop k).map (rawIn (insK rs k (X 0)) k))) := by
    unfold rawsIn
    rw [List.append_nil, raws_app, raws_app, hA, raws_one, List.append_assoc]
  have e5 : (rawBy (X (atK (insK rs k (X 0)) (adjK k 0)))).length = 3 := by rw [raw_len, hX.tl]
  refine ⟨?_, ?_⟩
  · rw [e3, e4, ← el, List.take_left' rfl, ← List.drop_drop, List.drop_left' rfl, List.drop_left' e5, hX.raw]
    simp
  · rw [e3, List.length_append, List.length_append, e5, el]
    omega
theorem raws_succ {rq : List Ro} {i : Nat} {r : Ro} (h : rq[i]? = some r) : rawsBy (rq.take (i + 1)) = rawsBy (rq.take i) ++ rawBy r := by
  rw [List.take_add_one, h, raws_app]
  congr 1
  exact raws_one r
theorem raws_few {rr : List Ro} : (rawsBy rr).length ≤ 5 * rr.length := by
  rw [raws_len]
  exact at_le rr rr.length (Nat.le_refl _)
theorem raws_byt {rr : List Ro} (h : ∀ r ∈ rr, r.Ok 65536) : byt (rawsBy rr) := by
  intro x hx
  unfold rawsBy at hx
  obtain ⟨l, hl, hxl⟩ := List.mem_flatten.mp hx
  obtain ⟨r, hr, rfl⟩ := List.mem_map.mp hl
  have ok := h r hr
  have lo := low_le ok
  obtain ⟨_, sl⟩ := sign_no _ ok.sign
  rcases List.mem_cons.mp hxl with e | e
  · rw [e]; omega
  · exact split_in _ _ x e
def moR (j : Nat) : List Ro := if j = 0 then [] else [.pla "jump" 65534]
theorem mo_by {j : Nat} (h : j < 2) : (List.replicate j ([8 * 13, 255, 254] : List Int)).flatten = rawsBy (moR j) ∧ (∀ r ∈ moR j, r.Ok 65536) ∧ (moR j).length ≤ 1 := by
  rcases (by omega : j = 0 ∨ j = 1) with rfl | rfl
  · exact ⟨rfl, fun r h => (by simp [moR] at h), by simp [moR]⟩
  · refine ⟨?_, fun r hr => ?_, by simp [moR]⟩
    · show [8 * 13, 255, 254] ++ [] = rawsBy [Ro.pla "jump" 65534]
      rw [raws_one]
      show _ = (((8 * signNo "jump" + 0 : Nat)) : Int) :: splitK ((65534 : Nat) : Int) 2
      rw [show signNo "jump" = 13 by decide +kernel, split2]
      rfl
    · have : r = .pla "jump" 65534 := by simpa [moR] using hr
      rw [this]
      exact ⟨by decide +kernel, by omega⟩
theorem cut8 (ns : List Int) : cutV (ns.map V.int) none (some 8) = (ns.take 8).map V.int := by
  unfold cutV
  rw [HT.sIx_none, show (some (8 : Int)) = some ((8 : Nat) : Int) from rfl, HT.sIx_nat, List.drop_zero, List.length_map, Nat.sub_zero, ← List.map_take]
  exact congrArg (List.map V.int) (List.take_eq_take_iff.mpr (by omega))
def sp_law_cell (K : PySem.W.Frag) : Sp := fun vs H Q _ => ∃ (a : Addr) (ns : List Int) (k : Int), vs = [.ref a, .int k] ∧ SqL K H a (ns.map V.int) ∧ 0 ≤ k ∧ k ≤ 1000 ∧ ∀ (v : Int) (H' : Hp), Same H H' → Q (.int v) H'
def sp_law_ended (_K : PySem.W.Frag) : Sp := fun vs H Q _ => ∃ (n : Int) (k : Nat), vs = [.int n, .int (k : Int)] ∧ k ≤ 4 ∧ ∀ (p : Addr) (H' : Hp), Same H H' → H p = none → H' p = some (.lst ((splitK n k).map V.int)) → Q (.ref p) H'
theorem signs_cut : Txt.split ("push load store dup swap drop add sub mul div rem less same jump zero kin make fill begin get put call" ++ " toss say give") " " = signsL := by decide +kernel
def sp_law_signs (K : PySem.W.Frag) : Sp := fun vs H Q _ => vs = [] ∧ ∀ (r : Addr) (H' : Hp), Same H H' → H r = none → H' r = some (.lst (signsL.map V.str)) → Q (.ref r) H'
def sp_law_size (_K : PySem.W.Frag) : Sp := fun vs H Q _ => ∃ w : Int, vs = [.int w] ∧ inW w ∧ Q (.int (psz w : Int)) H
def sp_law_chunk (K : PySem.W.Frag) : Sp := fun vs H Q _ => ∃ (t : Addr) (r : Ro) (n : Nat), vs = [.ref t] ∧ SqT K H t (roV r) ∧ r.Ok n ∧ ∀ (p : Addr) (H' : Hp), Same H H' → H p = none → H' p = some (.lst ((chunkK r).map V.int)) → Q (.ref p) H'
def sp_law_starts (K : PySem.W.Frag) : Sp := fun vs H Q _ => ∃ (a : Addr) (us : List V) (rs : List Ro) (n : Nat), vs = [.ref a] ∧ SqL K H a us ∧ ChAt K H us rs ∧ (∀ r ∈ rs, r.Ok n) ∧ rs.length ≤ 200 ∧ ∀ (p : Addr) (H' : Hp), Same H H' → H p = none → H' p = some (.lst ((startsK rs).map V.int)) → Q (.ref p) H'
def sp_wants (K : PySem.W.Frag) : Sp := fun vs H Q _ => ∃ (x : Str), vs = [.str x] ∧ ∀ (v : V) (H' : Hp), Same H H' → (∃ p, v = .ref p ∧ SqT K H' p ((wantsL x).map V.str)) → Q v H'
def sp_tail_want (K : PySem.W.Frag) : Sp := fun vs H Q _ => ∃ (s : Str), vs = [.str s] ∧ ∀ H', Same H H' → Q (optS (tailW s)) H'
def plK (rr : List Ro) : List (Key × V) := (List.range rr.length).map fun j => (Sum.inl (atK rr j : Int), V.int (j : Int))
theorem find_pl (f : Nat → Nat) (v : Nat) : ∀ l : List Nat, valV (l.map fun j => ((Sum.inl (f j : Int) : Key), V.int (j : Int))) (Sum.inl (v : Int)) = (l.find? fun j => decide (f j = v)).map fun j => V.int (j : Int)
  | [] => rfl
  | j :: l => by
    rw [List.map_cons, List.find?_cons]
    by_cases h : f j = v
    · rw [valV_pos (by rw [h]), decide_eq_true h]
      rfl
    · rw [valV_neg (fun z => h (by have := Sum.inl.inj z; omega)), decide_eq_false h]
      exact find_pl f v l
theorem val_pl (rr : List Ro) (v : Nat) : valV (plK rr) (Sum.inl (v : Int)) = (posOf rr v).map fun j => V.int (j : Int) := find_pl (atK rr) v _
theorem place_row {r : Ro} (h : r.Ok 65536) : (¬ tailW (roS r) = some ("place" : Str) ∧ ∀ rr, plc rr r = some r) ∨ (tailW (roS r) = some ("place" : Str) ∧ ∃ (v : Nat) (xs : List V), roV r = xs ++ [.int (v : Int)] ∧ xs ≠ [] ∧ xs.length ≤ 2 ∧ cutV (roV r) none (some (-1)) = xs ∧ ∀ rr, (posOf rr v = none → plc rr r = none) ∧ ∀ j, posOf rr v = some j → ∃ q, plc rr r = some q ∧ roV q = xs ++ [.int (j : Int)]) := by
  cases r with
  | push w => exact .inl ⟨by show ¬ tailW "push" = _; decide +kernel, fun _ => rfl⟩
  | low s n => exact .inl ⟨(by decide +kernel : ∀ s ∈ lowL, ¬ tailW s = some ("place" : Str)) s h.1, fun _ => rfl⟩
  | fld s c f => exact .inl ⟨(by decide +kernel : ∀ s ∈ fldL, ¬ tailW s = some ("place" : Str)) s h.1, fun _ => rfl⟩
  | bare s => exact .inl ⟨(by decide +kernel : ∀ s ∈ baL, ¬ tailW s = some ("place" : Str)) s h, fun _ => rfl⟩
  | pla s v =>
    refine .inr ⟨(by decide +kernel : ∀ s ∈ plaL, tailW s = some ("place" : Str)) s h.1, v, [.str s], rfl, by simp, by simp, rfl, fun rr => ⟨fun e => ?_, fun j e => ⟨.pla s j, ?_, rfl⟩⟩⟩
    · show (posOf rr v).map _ = none; rw [e]; rfl
    · show (posOf rr v).map _ = _; rw [e]; rfl
  | kin c v =>
    refine .inr ⟨by show tailW "kin" = _; decide +kernel, v, [.str "kin", .int (c : Int)], rfl, by simp, by simp, rfl, fun rr => ⟨fun e => ?_, fun j e => ⟨.kin c j, ?_, rfl⟩⟩⟩
    · show (posOf rr v).map _ = none; rw [e]; rfl
    · show (posOf rr v).map _ = _; rw [e]; rfl
theorem last_snoc (xs : List V) (v : V) : atI (xs ++ [v]) (-1) = some v := atI_last (by simp)
def sp_placed (K : PySem.W.Frag) (mg : Str → Option Value) : Sp := fun vs H Q E => ∃ (t d : Addr) (r : Ro) (rr : List Ro) (i : Int), vs = [.ref t, .ref d, .int i] ∧ SqT K H t (roV r) ∧ r.Ok 65536 ∧ H d = some (.dK (plK rr)) ∧
  (∀ q, plc rr r = some q → ∀ (t' : Addr) (H' : Hp), Same H H' → SqT K H' t' (roV q) → Q (.ref t') H') ∧
  (plc rr r = none → ∀ (C dx : Addr) (H' : Hp), mg "NoCode" = some (.ref C) → Same H H' → H dx = none → H' dx = some (.ext (XD dx [("at", .int i), ("word", .str "amid")])) → E (.ref C) (some dx) H')
def sp_low_want (K : PySem.W.Frag) : Sp := fun vs H Q _ => ∃ (s : Str), vs = [.str s] ∧ ∀ H', Same H H' → Q (optS (lowW s)) H'
def sp_low_is_right (_K : PySem.W.Frag) : Sp := fun vs H Q _ => ∃ (s : Str) (l : Int), vs = [.str s, .int l] ∧ ∀ H', Same H H' → Q (.bl (lowOk s l)) H'
def sp_joined_number (K : PySem.W.Frag) : Sp := fun vs H Q _ => ∃ (a : Addr) (ns : List Int), vs = [.ref a] ∧ SqL K H a (ns.map V.int) ∧ Q (.int (numI ns)) H
def sp_push_size (_K : PySem.W.Frag) : Sp := fun vs H Q _ => ∃ w : Int, vs = [.int w] ∧ inW w ∧ Q (.int (psz w : Int)) H
def sp_signed_number (K : PySem.W.Frag) : Sp := fun vs H Q _ => ∃ (a : Addr) (ns : List Int), vs = [.ref a] ∧ SqL K H a (ns.map V.int) ∧ ns.length ≤ 8 ∧ Q (.int (sgnI ns)) H
def sp_row_of (K : PySem.W.Frag) (mg : Str → Option Value) : Sp := fun vs H Q E => ∃ (s : Str) (l : Int) (a : Addr) (ns : List Int) (i : Int), vs = [.str s, .int l, .ref a, .int i] ∧ SqL K H a (ns.map V.int) ∧ s ∈ signsL ∧ 0 ≤ l ∧ l < 8 ∧ lowOk s l = true ∧ byt ns ∧ (ns.length : Int) = tszK s l ∧
  (∀ r, rowTl s l ns = .ok r → ∀ (t : Addr) (H' : Hp), Same H H' → SqT K H' t (roV r) → Q (.ref t) H') ∧
  (∀ w, rowTl s l ns = .error w → ∀ (C dx : Addr) (H' : Hp), mg "NoCode" = some (.ref C) → Same H H' → H dx = none → H' dx = some (.ext (XD dx [("at", .int i), ("word", .str w)])) → E (.ref C) (some dx) H')
theorem tsz_word {s : Str} {l : Int} (h : tailW s = some ("word" : Str)) : tszK s l = l := by unfold tszK; rw [if_pos h]
theorem tsz_field {s : Str} {l : Int} (h : tailW s = some ("field" : Str)) : tszK s l = 1 := by unfold tszK; rw [h]; rfl
theorem tsz_place {s : Str} {l : Int} (h : tailW s = some ("place" : Str)) : tszK s l = 2 := by unfold tszK; rw [h]; rfl
theorem tsz_else {s : Str} {l : Int} (h1 : ¬ tailW s = some ("word" : Str)) (h2 : ¬ tailW s = some ("field" : Str)) (h3 : ¬ tailW s = some ("place" : Str)) : tszK s l = 0 := by unfold tszK; rw [if_neg h1, if_neg h2, if_neg h3]
theorem eq_optS {o : Option Str} {x : Str} : (optS o = V.str x) ↔ o = some x := by
  cases o with
  | none => exact ⟨(fun z => nomatch z), (fun z => nomatch z)⟩
  | some y => exact ⟨(fun z => congrArg some (V.str.inj z)), (fun z => congrArg V.str (Option.some.inj z))⟩
theorem scal_opt (o : Option Str) (y : Str) : scal (optS o) (.str y) = true := by cases o <;> rfl
theorem stepO {o : Option Str} {y : Str} {A B : Prop} (h1 : o = some y → A) (h2 : ¬ o = some y → B) : if decide (optS o = V.str y) = true then A else B := by
  by_cases e : o = some y
  · rw [if_pos (decide_eq_true (eq_optS.mpr e))]; exact h1 e
  · rw [if_neg (fun z => e (eq_optS.mp (of_decide_eq_true z)))]; exact h2 e
def sp_tail_size (K : PySem.W.Frag) : Sp := fun vs H Q _ => ∃ (s : Str) (l : Int), vs = [.str s, .int l] ∧ ∀ H', Same H H' → Q (.int (tszK s l)) H'
def sp_row_at (K : PySem.W.Frag) (mg : Str → Option Value) : Sp := fun vs H Q E => ∃ (a : Addr) (bs : List Int) (i : Nat), vs = [.ref a, .int (i : Int)] ∧ SqL K H a (bs.map V.int) ∧ byt bs ∧ i < bs.length ∧
  (∀ r, rowAt bs i = .ok r → ∀ (t : Addr) (H' : Hp), Same H H' → SqT K H' t (roV r) → Q (.ref t) H') ∧
  (∀ w, rowAt bs i = .error w → ∀ (C dx : Addr) (H' : Hp), mg "NoCode" = some (.ref C) → Same H H' → H dx = none → H' dx = some (.ext (XD dx [("at", .int (i : Int)), ("word", .str w)])) → E (.ref C) (some dx) H')
theorem tup_updD {K : PySem.W.Frag} {H : Hp} {t r : Addr} {xs : List V} {kvs : List (Key × V)} {o : HO} (h : SqT K H t xs) (hr : H r = some (.dK kvs)) : SqT K (upd H r o) t xs := by
  rcases h with (h | ⟨u, h⟩) | h
  · exact .inl (.inl (by rw [upd_ne (ne_of h hr (by intro z; cases z))]; exact h))
  · exact .inl (.inr ⟨u, by rw [upd_ne (ne_of h hr (by intro z; cases z))]; exact h⟩)
  · exact .inr h
theorem RosAt.updD {K : PySem.W.Frag} {H : Hp} {p : Addr} {kvs : List (Key × V)} {o : HO} {vs : List V} {rs : List Ro} (g : H p = some (.dK kvs)) (h : RosAt K H vs rs) : RosAt K (upd H p o) vs rs := ⟨h.1, fun i r hr => by
  obtain ⟨t, h1, h2⟩ := h.2 i r hr
  exact ⟨t, h1, tup_updD h2 g⟩⟩
theorem pl_none {rr : List Ro} : valV (plK rr) (Sum.inl (atK rr rr.length : Int)) = none := by
  rw [val_pl]
  cases e : posOf rr (atK rr rr.length) with
  | none => rfl
  | some j =>
    obtain ⟨h1, h2⟩ := pos_some e
    have := at_inj rr (Nat.le_of_lt h1) (Nat.le_refl _) h2
    omega
theorem pl_put {rr : List Ro} {r : Ro} : putK (plK rr) (Sum.inl (atK rr rr.length : Int)) (.int (rr.length : Int)) = plK (rr ++ [r]) := by
  unfold putK
  rw [valV_any, pl_none]
  show plK rr ++ _ = _
  unfold plK
  rw [List.length_append, List.length_singleton, List.range_succ, List.map_append]
  congr 1
  · refine List.map_congr_left fun j hj => ?_
    rw [at_app _ _ (Nat.le_of_lt (List.mem_range.mp hj))]
  · show [_] = [((Sum.inl (atK (rr ++ [r]) rr.length : Int) : Key), V.int (rr.length : Int))]
    rw [at_app _ _ (Nat.le_refl _)]
theorem pl_len (rr : List Ro) : (plK rr).length = rr.length := by simp [plK]
theorem starts_snoc (rr : List Ro) (r : Ro) : startsK (rr ++ [r]) = startsK rr ++ [(atK rr rr.length : Int)] := by
  unfold startsK
  rw [List.length_append, List.length_singleton, List.range_succ, List.map_append]
  congr 1
  · refine List.map_congr_left fun j hj => ?_
    rw [at_app _ _ (Nat.le_of_lt (List.mem_range.mp hj))]
  · show [((atK (rr ++ [r]) rr.length : Nat) : Int)] = [_]
    rw [at_app _ _ (Nat.le_refl _)]
theorem starts_len (rr : List Ro) : (startsK rr).length = rr.length := by simp [startsK]
theorem plc_step {rr l : List Ro} {r q : Ro} {i : Nat} (h : plc rr r = some q) : plcGo rr i (r :: l) = (plcGo rr (i + 1) l).map (q :: ·) := by
  rw [plcGo, h]
  show (match plcGo rr (i + 1) l with | .error e => Except.error e | .ok qs => Except.ok (q :: qs)) = _
  cases plcGo rr (i + 1) l <;> rfl
theorem map_map {e : Except (Nat × Str) (List Ro)} {xs : List Ro} {q : Ro} : (e.map (q :: ·)).map (xs ++ ·) = e.map ((xs ++ [q]) ++ ·) := by
  cases e with
  | error w => rfl
  | ok l => show Except.ok (xs ++ q :: l) = Except.ok (xs ++ [q] ++ l); rw [List.append_assoc]; rfl
theorem map_nil {e : Except (Nat × Str) (List Ro)} : e.map ([] ++ ·) = e := by cases e <;> rfl
def sp_rows_of (K : PySem.W.Frag) (mg : Str → Option Value) : Sp := fun vs H Q E => ∃ (a : Addr) (bs : List Int), vs = [.ref a] ∧ SqL K H a (bs.map V.int) ∧ byt bs ∧
  (∀ rs, rowsOf bs = .ok rs → ∀ (p : Addr) (us : List V) (H' : Hp), Same H H' → H p = none → H' p = some (.lst us) → RosAt K H' us rs → Q (.ref p) H') ∧
  (∀ i w, rowsOf bs = .error (i, w) → ∀ (C dx : Addr) (H' : Hp), mg "NoCode" = some (.ref C) → Same H H' → H dx = none → H' dx = some (.ext (XD dx [("at", .int (i : Int)), ("word", .str w)])) → E (.ref C) (some dx) H')
def sp_law_told (K : PySem.W.Frag) : Sp := fun vs H Q _ => ∃ (a : Addr) (bs : List Int) (i : Nat) (w : Str), vs = [.ref a] ∧ SqL K H a (bs.map V.int) ∧ byt bs ∧ rowsOf bs = .error (i, w) ∧ ∀ (p : Addr) (H' : Hp), Same H H' → SqT K H' p [.int (i : Int), .str w] → Q (.ref p) H'
theorem atI_end {us : List V} {n : Nat} {v : V} (h : us.length = n + 1) (hv : us[n]? = some v) : atI us (-1) = some v := atI_last (last_of h hv)
theorem goal_at {rx : List Ro} {m k E : Nat} {x y : Int} (hE : E = atK rx rx.length + m) (hE2 : E ≤ 60000) (hk : k < rx.length) (h3 : atK rx (k + 1) = atK rx k + 3) (h4 : atK rx k ≤ 60000) (hx : 0 ≤ x ∧ x < 400) (hy : 0 ≤ y ∧ y < 6) : ∃ g : Nat, atI (([.int (E : Int), .int 65535, .int ((atK rx k : Int) + 1), .int ((atK rx k : Int) + 2)] : List V) ++ [.int ((E : Int) + x)] ++ [.int (E : Int)]) y = some (.int (g : Int)) ∧ Amid rx m g ∧ g < 65536 := by
  rcases (by omega : y = 0 ∨ y = 1 ∨ y = 2 ∨ y = 3 ∨ y = 4 ∨ y = 5) with rfl | rfl | rfl | rfl | rfl | rfl
  · exact ⟨E, rfl, .inl (by omega), by omega⟩
  · exact ⟨65535, rfl, .inl (by omega), by omega⟩
  · refine ⟨atK rx k + 1, ?_, .inr ⟨k, hk, by omega, by omega⟩, by omega⟩
    rw [show ((atK rx k + 1 : Nat) : Int) = (atK rx k : Int) + 1 by omega]; rfl
  · refine ⟨atK rx k + 2, ?_, .inr ⟨k, hk, by omega, by omega⟩, by omega⟩
    rw [show ((atK rx k + 2 : Nat) : Int) = (atK rx k : Int) + 2 by omega]; rfl
  · refine ⟨E + x.toNat, ?_, .inl (by omega), by omega⟩
    rw [show ((E + x.toNat : Nat) : Int) = (E : Int) + x by omega]; rfl
  · exact ⟨E, rfl, .inl (by omega), by omega⟩
def sp_law_amid (K : PySem.W.Frag) : Sp := fun vs H Q _ => ∃ (a p : Addr) (ns : List Int) (us : List V) (rs : List Ro), vs = [.ref a, .ref p] ∧ SqL K H a (ns.map V.int) ∧ SqL K H p us ∧ RosAt K H us rs ∧ (∀ r ∈ rs, r.Ok rs.length) ∧ 1 ≤ rs.length ∧ rs.length ≤ 31 ∧ ∀ H', Same H H' → Q (.bl true) H'
theorem chunk_row {r : Ro} {n : Nat} (rs : List Ro) (h : r.Ok n) (hp : roS r ∉ (["jump", "zero", "kin"] : List Str)) : rowBy rs r = chunkK r := by
  unfold chunkK rowBy
  rw [if_neg hp]
  cases r with
  | pla s p => exact absurd ((by decide +kernel : ∀ s ∈ plaL, s ∈ (["jump", "zero", "kin"] : List Str)) s h.1) hp
  | kin c p => exact absurd (by decide +kernel : ("kin" : Str) ∈ (["jump", "zero", "kin"] : List Str)) hp
  | push w => rfl
  | low s k => rfl
  | fld s c f => rfl
  | bare s => rfl
theorem cut_head1 {x : V} {xs : List V} : cutV (x :: xs) none (some 1) = [x] := by
  unfold cutV
  rw [HT.sIx_none, show (some (1 : Int)) = some ((1 : Nat) : Int) from rfl, HT.sIx_nat, List.drop_zero, Nat.sub_zero]
  simp
theorem by_few (rs : List Ro) {i : Nat} (h : i ≤ rs.length) : (byK rs i).length ≤ 5 * rs.length := by
  rw [by_len rs i h]
  have := at_le rs i h
  omega
def sp_law_bytes (K : PySem.W.Frag) : Sp := fun vs H Q _ => ∃ (a b : Addr) (us ws : List V) (rs : List Ro), vs = [.ref a, .ref b] ∧ SqL K H a us ∧ RosAt K H us rs ∧ SqL K H b ws ∧ ChAt K H ws rs ∧ (∀ r ∈ rs, r.Ok rs.length) ∧ rs.length ≤ 101 ∧ ∀ (p : Addr) (H' : Hp), Same H H' → H p = none → H' p = some (.lst ((bytesK rs).map V.int)) → Q (.ref p) H'
def sp_law_word (_K : PySem.W.Frag) : Sp := fun vs H Q _ => ∃ c : Int, vs = [.int c] ∧ ∀ (n : Int) (H' : Hp), Same H H' → inW n → Q (.int n) H'
def sp_law_row (K : PySem.W.Frag) : Sp := fun vs H Q _ => ∃ (c d : Int) (m : Nat), vs = [.int c, .int d, .int (m : Int)] ∧ 0 < m ∧ ∀ (r : Ro) (t : Addr) (H' : Hp), r.Ok m → Same H H' → SqT K H' t (roV r) → Q (.ref t) H'
def sp_law_cut (K : PySem.W.Frag) : Sp := fun vs H Q _ => ∃ (a p : Addr) (ns : List Int) (us : List V) (rs : List Ro), vs = [.ref a, .ref p] ∧ SqL K H a (ns.map V.int) ∧ SqL K H p us ∧ RosAt K H us rs ∧ (∀ r ∈ rs, r.Ok rs.length) ∧ 1 ≤ rs.length ∧ rs.length ≤ 31 ∧ ∀ H', Same H H' → Q (.bl true) H'
def sp_law_many (K : PySem.W.Frag) : Sp := fun vs H Q _ => ∃ (a p : Addr) (ns : List Int) (us : List V) (rs : List Ro), vs = [.ref a, .ref p] ∧ SqL K H a (ns.map V.int) ∧ SqL K H p us ∧ RosAt K H us rs ∧ (∀ r ∈ rs, r.Ok rs.length) ∧ 1 ≤ rs.length ∧ rs.length ≤ 31 ∧ ∀ H', Same H H' → Q (.bl true) H'
theorem psz_lt {w e : Int} {k : Nat} (h2 : 2 ≤ k) (h4 : k ≤ 4) (he : (k = 2 ∧ e = 128) ∨ (k = 3 ∧ e = 32768) ∨ (k = 4 ∧ e = 8388608)) (h : -e ≤ w ∧ w < e) : psz w < k := by
  unfold psz
  rcases he with ⟨rfl, rfl⟩ | ⟨rfl, rfl⟩ | ⟨rfl, rfl⟩
  all_goals (repeat' split)
  all_goals omega
theorem two_at' (x y : Int) (e : Int) : ∃ v, atI [V.int x, V.int y] (e % 2) = some (.int v) ∧ (v = x ∨ v = y) := by
  obtain ⟨j, ej, lj⟩ := modN (e := e) (n := 2) (by decide)
  have ej : e % 2 = (j : Int) := ej
  rw [ej]
  rcases (by omega : j = 0 ∨ j = 1) with rfl | rfl
  · exact ⟨x, atI_nat rfl, .inl rfl⟩
  · exact ⟨y, atI_nat rfl, .inr rfl⟩
def sp_law_long (_K : PySem.W.Frag) : Sp := fun vs H Q _ => ∃ (c : Int), vs = [.int c] ∧ ∀ (p : Addr) (l : List Int) (H' : Hp), Same H H' → H p = none → H' p = some (.lst (l.map V.int)) → Wr "long" l → Q (.ref p) H'
def lowSg : List Int := [3, 4, 5, 6, 7, 8, 9, 10, 11, 12, 13, 14, 22, 23, 24]
theorem pickI {l : List Int} {n : Nat} (h0 : 0 < n) (hn : l.length = n) (e : Int) : ∃ x ∈ l, atI (l.map V.int) (e % (n : Int)) = some (.int x) := by
  obtain ⟨j, ej, lj⟩ := modN (e := e) h0
  have hx := List.getElem?_eq_getElem (l := l) (i := j) (by omega)
  refine ⟨l[j]'(by omega), List.getElem_mem _, ?_⟩
  rw [ej]
  exact atI_nat (by rw [List.getElem?_map, hx]; rfl)
theorem low_sg : ∀ x ∈ lowSg, 0 ≤ x ∧ x ≤ 24 ∧ ∃ s ∈ signsL, signsL[x.toNat]? = some s ∧ lowW s = none := by decide +kernel
def sp_law_low (_K : PySem.W.Frag) : Sp := fun vs H Q _ => ∃ (c : Int), vs = [.int c] ∧ ∀ (p : Addr) (l : List Int) (H' : Hp), Same H H' → H p = none → H' p = some (.lst (l.map V.int)) → Wr "low" l → Q (.ref p) H'
def sp_law_wrong (K : PySem.W.Frag) : Sp := fun vs H Q _ => ∃ (j c : Int), vs = [.int j, .int c] ∧ 0 ≤ j ∧ j < 4 ∧ ∀ (t p : Addr) (w : Str) (l : List Int) (H' : Hp), Same H H' → SqT K H' t [.str w, .ref p] → H p = none → H' p = some (.lst (l.map V.int)) → Wr w l → Q (.ref t) H'
def sp_law_put_in (K : PySem.W.Frag) : Sp := fun vs H Q _ => ∃ (a p : Addr) (ns : List Int) (us : List V) (rs : List Ro), vs = [.ref a, .ref p] ∧ SqL K H a (ns.map V.int) ∧ SqL K H p us ∧ RosAt K H us rs ∧ (∀ r ∈ rs, r.Ok rs.length) ∧ 1 ≤ rs.length ∧ rs.length ≤ 31 ∧ ∀ H', Same H H' → Q (.bl true) H'
theorem cut_434 {xs : List V} : (cutV xs (some 4) (some 34)).length ≤ 30 := by
  unfold cutV
  rw [show (some (4 : Int)) = some ((4 : Nat) : Int) from rfl, show (some (34 : Int)) = some ((34 : Nat) : Int) from rfl, HT.sIx_nat, HT.sIx_nat, List.length_take, List.length_drop]
  omega
def sp_law_rows (K : PySem.W.Frag) : Sp := fun vs H Q _ => ∃ (a : Addr) (ns : List Int), vs = [.ref a] ∧ SqL K H a (ns.map V.int) ∧ ns.length ≤ 63 ∧ ∀ (p : Addr) (us : List V) (rs : List Ro) (H' : Hp), Same H H' → H p = none → H' p = some (.lst us) → RosAt K H' us rs → (∀ r ∈ rs, r.Ok rs.length) → 1 ≤ rs.length → rs.length ≤ 31 → Q (.ref p) H'
def sp_law (K : PySem.W.Frag) : Sp := fun vs H Q _ => ∃ (a : Addr) (ns : List Int), vs = [.ref a] ∧ SqL K H a (ns.map V.int) ∧ ns.length ≤ 63 ∧ ∀ H', Q (.bl true) H'
structure PEw (X : Cx) (e : Expr) (t : TE) : Prop where
  h : PE X e t
structure PSw (X : Cx) (s : Stmt) (t : TS) : Prop where
  h : PS X s t
theorem psw_setL {X : Cx} {i : Nat} {x : Str} {es : List Expr} {p pos pos' : Pos} {tl : TE} (hN : X.N.Nodup) (hi : X.N[i]? = some x) (hx : Loc X.env.scope x) (he : PEw X (.List es p) tl) (hf : X.fn x = true ∨ X.env.scope.names.lookup x = some .local) : PSw X (.Assign [.Name x pos'] (.List es p) pos) (tAsg tl (gName i)) := ⟨ps_set hN hi hx he.h rfl hf⟩
theorem pss_consW {X : Cx} {st : Stmt} {t : TS} {rest : List Stmt} {u : TS} (h1 : PSw X st t) (h2 : PSs X rest u) : PSs X (st :: rest) (tSeq t u) := pss_cons h1.h h2
theorem pa_cL {X : Cx} {es0 es : List Expr} {pos : Pos} {te : TE} {t : TA} (ha : PE X (.List es0 pos) te) (hr : PA X es t) : PA X (.List es0 pos :: es) (tCons te t) := pa_cons ha hr rfl
theorem pa_cC {X : Cx} {c : Const} {es : List Expr} {j} {pos : Pos} {te : TE} {t : TA} (ha : PE X (.Constant c j pos) te) (hr : PA X es t) : PA X (.Constant c j pos :: es) (tCons te t) := pa_cons ha hr rfl
theorem ps_retW {X : Cx} {e : Expr} {t : TE} {pos : Pos} (h : PEw X e t) : PS X (.Return (some e) pos) (tRet t) := ps_ret h.h
theorem pa_cB {X : Cx} {l r : Expr} {o : Operator} {es : List Expr} {pos : Pos} {te : TE} {t : TA} (ha : PE X (.BinOp l o r pos) te) (hr : PA X es t) : PA X (.BinOp l o r pos :: es) (tCons te t) := pa_cons ha hr rfl
def NS (e : Expr) : Prop := ∀ (es : List Expr) (env : Env), starEach (e :: es) env = (false, eval e env) :: starEach es env
theorem ns_C {c : Const} {j} {pos : Pos} : NS (.Constant c j pos) := fun _ _ => rfl
theorem pa_ns {X : Cx} {e : Expr} {es : List Expr} {te : TE} {t : TA} (h : NS e) (ha : PE X e te) (hr : PA X es t) : PA X (e :: es) (tCons te t) := pa_cons ha hr (h _ _)
theorem pe_lst15 {X : Cx} {pos : Pos} {e1 e2 e3 e4 e5 e6 e7 e8 e9 e10 e11 e12 e13 e14 e15 : Expr} {t1 t2 t3 t4 t5 t6 t7 t8 t9 t10 t11 t12 t13 t14 t15 : TE} (h1 : PE X e1 t1) (n1 : NS e1) (h2 : PE X e2 t2) (n2 : NS e2) (h3 : PE X e3 t3) (n3 : NS e3) (h4 : PE X e4 t4) (n4 : NS e4) (h5 : PE X e5 t5) (n5 : NS e5) (h6 : PE X e6 t6) (n6 : NS e6) (h7 : PE X e7 t7) (n7 : NS e7) (h8 : PE X e8 t8) (n8 : NS e8) (h9 : PE X e9 t9) (n9 : NS e9) (h10 : PE X e10 t10) (n10 : NS e10) (h11 : PE X e11 t11) (n11 : NS e11) (h12 : PE X e12 t12) (n12 : NS e12) (h13 : PE X e13 t13) (n13 : NS e13) (h14 : PE X e14 t14) (n14 : NS e14) (h15 : PE X e15 t15) (n15 : NS e15) : PE X (.List [e1, e2, e3, e4, e5, e6, e7, e8, e9, e10, e11, e12, e13, e14, e15] pos) (tLst (tCons t1 (tCons t2 (tCons t3 (tCons t4 (tCons t5 (tCons t6 (tCons t7 (tCons t8 (tCons t9 (tCons t10 (tCons t11 (tCons t12 (tCons t13 (tCons t14 (tCons t15 tNil)))))))))))))))) := pe_lst (pa_ns n1 h1 (pa_ns n2 h2 (pa_ns n3 h3 (pa_ns n4 h4 (pa_ns n5 h5 (pa_ns n6 h6 (pa_ns n7 h7 (pa_ns n8 h8 (pa_ns n9 h9 (pa_ns n10 h10 (pa_ns n11 h11 (pa_ns n12 h12 (pa_ns n13 h13 (pa_ns n14 h14 (pa_ns n15 h15 pa_nil)))))))))))))))
section
variable {P : Program} {w : World} {K : PySem.W.Frag} {mg : Str → Option Value} {base : Heap}
theorem sc_i_NoCode : FnScope ["self", "at", "word"] ["self", "at", "word"] (defScope i_NoCode) := ⟨rfl, rfl, rfl, by decide +kernel, rfl, by decide +kernel, by decide +kernel⟩
theorem ok_i_NoCode {f : Addr} {fd : FuncData} (F : Fun K "__init__" "NoCode.__init__" i_NoCode f fd) : FnOk P w K mg base CX0 1 f fd ["self", "at", "word"] (spInit K ["at", "word"]) := by
  refine F.ok sc_i_NoCode (fun vs H Q E h => ?_) (fun cdv A outer s H vs Q E hr h => ?_)
  · obtain ⟨a, C, ys, rfl, hl, _⟩ := h
    exact congrArg (· + 1) hl
  obtain ⟨a, C, ys, rfl, hl, hk, hno, e, q⟩ := h
  obtain ⟨y0, y1, rfl⟩ := ex2 hl
  refine ⟨_, (pss_cons (ps_xf (pv 0) (pv 1) rfl) (pss_one (ps_xf (pv 0) (pv 2) rfl))), ?_⟩
  refine ⟨_, rfl, _, rfl, a, C, rfl, hk, hno _ (List.Mem.head _), .inl ⟨e, fun dx hd hda => ?_⟩⟩
  refine ⟨_, rfl, _, rfl, a, C, rfl, hk, hno _ (List.Mem.tail _ (List.Mem.head _)), .inr ⟨dx, _, upd_same, (upd_ne hda).trans upd_same, (by show 1 < 900; decide), ?_⟩⟩
  have z := q dx hd hda
  show Q .non _
  rw [upd_sw hda]
  exact z
theorem sc__law_cell : FnScope ["_law_script", "_law_k", "_law_far", "_law_cell_here"] ["_law_script", "_law_k"] (defScope s_law_cell) := ⟨rfl, rfl, rfl, by decide +kernel, rfl, by decide +kernel, by decide +kernel⟩
theorem ok__law_cell {f : Addr} {fd : FuncData} (F : Fun K "_law_cell" "_law_cell" s_law_cell f fd) (z_len : mg "len" = none) : FnOk P w K mg base CX0 1 f fd ["_law_script", "_law_k"] (sp_law_cell K) := by
  refine F.ok sc__law_cell (fun vs H Q E h => ?_) (fun cdv A outer s H vs Q E hr h => ?_)
  · obtain ⟨a, ns, k, rfl, hS, h0, h1, q⟩ := h
    rfl
  obtain ⟨a, ns, k, rfl, hS, h0, h1, q⟩ := h
  refine ⟨_, (pss_cons (ps_if (pt_cmpR op_lt (pv 1) (pe_callB call_len_seq rfl z_len bt_len (pa_cons (pv 0) pa_nil)) (nomark _)) (pss_one (ps_ret (pe_ix ix_list (pv 0) (pv 1) (fun _ _ => rfl)))) pss_nil)
      (pss_cons (ps_set (i := 2) sc__law_cell.nd rfl (Or.inl rfl) (pe_op op_mul pe_int (pe_op op_add (pv 1) pe_int)))
      (pss_cons (ps_for PassesOwn.never rfl (pi_list (pe_slice sl_list (pv 0) po_none (po_some pe_int))) (pg_name (i := 3) sc__law_cell.nd rfl (Or.inl rfl)) (pss_one (ps_set (i := 2) sc__law_cell.nd rfl (Or.inl rfl) (pe_op op_add (pe_op op_mul (pv 2) pe_int) (pe_op op_mod (pv 3) pe_int)))))
      (pss_one (ps_ret (pe_op op_mod (pe_op op_mulB (pv 2) (pv 2)) pe_int)))))), ?_⟩
  refine ⟨_, rfl, _, rfl, a, _, rfl, .inl hS, _, _, rfl, rfl, _, rfl, ?_⟩
  refine ite2 (fun c => ?_) (fun c => ?_)
  · have c' : k < (((ns.map V.int).length : Nat) : Int) := of_decide_eq_true c
    rw [List.length_map] at c'
    have hk : k.toNat < ns.length := by omega
    have ek : ((k.toNat : Nat) : Int) = k := by omega
    refine ⟨_, rfl, _, rfl, a, _, _, _, rfl, rfl, hS, (?_ : atI (ns.map V.int) k = some (.int ns[k.toNat])), q _ _ (Same.refl _)⟩
    have z : atI (ns.map V.int) ((k.toNat : Nat) : Int) = some (.int ns[k.toNat]) := atI_nat (by rw [List.getElem?_map, List.getElem?_eq_getElem hk]; rfl)
    rw [ek] at z
    exact z
  · walk_at "rd"
    refine ⟨a, _, rfl, hS, fun p hp => ?_⟩
    refine ⟨p, rfl, ⟨_, SqL.of upd_same⟩, ?_⟩
    have sm : Same H (upd H p (.lst (cutV (ns.map V.int) none (some 8)))) := fun b o e => by rw [upd_ne (ne_of_none e hp)]; exact e
    rw [cut8] at sm ⊢
    refine for_list (xs := (ns.take 8).map V.int) (fun i σ H2 => ∃ (far : Int) (v : Option V), σ = [some (.ref a), some (.int k), some (.int far), v] ∧ H2 = upd H p (.lst ((ns.take 8).map V.int)) ∧ 0 ≤ far ∧ far < 2000000000 * (32 : Int) ^ i) ?_ ?_ ?_ ?_
    · exact ⟨_, none, rfl, rfl, by omega, by simp; omega⟩
    · rintro i σ H2 hi ⟨far, v, rfl, rfl, _⟩
      exact SqL.of upd_same
    · rintro i y σ H2 hi ⟨far, v, rfl, rfl, f0, f1⟩
      obtain ⟨z, rfl⟩ : ∃ z, y = V.int z := by
        rw [List.getElem?_map] at hi
        cases e : (ns.take 8)[i]? with
        | none => rw [e] at hi; cases hi
        | some z => rw [e] at hi; exact ⟨z, (Option.some.inj hi).symm⟩
      have hp1 : (1 : Int) ≤ 32 ^ i := by
        have := Int.pow_pos (n := 32) (m := i) (by decide)
        omega
      have hm0 := Int.emod_nonneg z (show (1000033 : Int) ≠ 0 by decide)
      have hm1 := Int.emod_lt_of_pos z (show (0 : Int) < 1000033 by decide)
      walk_at "rd"
      rw [Int.pow_succ]
      omega
    · rintro σ H2 ⟨far, v, rfl, rfl, f0, f1⟩
      have hl : ((ns.take 8).map V.int).length ≤ 8 := by simp; omega
      have hp8 : (32 : Int) ^ ((ns.take 8).map V.int).length ≤ 32 ^ 8 := by
        have := Nat.pow_le_pow_right (n := 32) (by decide) hl
        exact_mod_cast this
      have e8 : (32 : Int) ^ 8 = 1099511627776 := by decide
      rw [e8] at hp8
      refine ⟨_, rfl, _, rfl, _, _, rfl, rfl, ⟨⟨by omega, by omega⟩, by omega, by omega⟩, _, _, rfl, rfl, (by show (0 : Int) < 998244353; decide), q _ _ sm⟩
theorem sc__law_ended : FnScope ["_law_number", "_law_size_here"] ["_law_number", "_law_size_here"] (defScope s_law_ended) := ⟨rfl, rfl, rfl, by decide +kernel, rfl, by decide +kernel, by decide +kernel⟩
theorem ok__law_ended {f : Addr} {fd : FuncData} (F : Fun K "_law_ended" "_law_ended" s_law_ended f fd) (z_range : mg "range" = none) : FnOk P w K mg base CX0 1 f fd ["_law_number", "_law_size_here"] (sp_law_ended K) := by
  refine F.ok sc__law_ended (fun vs H Q E h => ?_) (fun cdv A outer s H vs Q E hr h => ?_)
  · obtain ⟨n, k, rfl, h4, q⟩ := h
    rfl
  obtain ⟨n, k, rfl, h4, q⟩ := h
  refine ⟨_, (pss_one (ps_ret (pe_lc 1 ["_law_k", "_law_number", "_law_size_here"] [0, 1] ⟨rfl, rfl, rfl, rfl, rfl, rfl, rfl, rfl⟩ (pi_range1 rfl z_range (pa_cons (pv 1) pa_nil)) (fun _ _ _ _ => ⟨(pg_name (i := 0) (show List.Nodup (["_law_k", "_law_number", "_law_size_here"] : List Str) by decide +kernel) rfl (Or.inl rfl)), pif_nil, (pe_op op_mod (pe_op op_fdiv (pv 1) (pe_op op_shl pe_int (pe_op op_mul pe_int (pe_op op_sub (pe_op op_sub (pv 2) pe_int) (pv 0))))) pe_int)⟩)))), ?_⟩
  refine ⟨_, rfl, _, rfl, by omega, by omega, fun D hD => ?_⟩
  refine lc_range (lo := 0) (n := ((k : Nat) : Int).toNat) (fun i ys H2 => H2 D = some (.lst ys) ∧ Same H H2 ∧ ys = ((List.range i).map (fun i => n / 2 ^ (8 * (k - 1 - i)) % 256)).map V.int) (few_sizeLine (by omega)) ⟨upd_same, same_new hD _, rfl⟩ ?_ ?_ ?_
  · rintro i ys H2 ⟨g, _, rfl⟩
    exact ⟨g, by simp⟩
  · rintro i ys H2 hi ⟨g, s2, rfl⟩
    have hi' : i < k := by omega
    have e2 : (8 * ((k : Int) - 1 - (0 + (i : Int)))).toNat = 8 * (k - 1 - i) := by omega
    have pw : (2 : Int) ^ (8 * (k - 1 - i)) ≤ 2 ^ 24 := by
      have := Nat.pow_le_pow_right (show 0 < 2 by decide) (show 8 * (k - 1 - i) ≤ 24 by omega)
      exact_mod_cast this
    have pp : (0 : Int) < 2 ^ (8 * (k - 1 - i)) := Int.pow_pos (by decide)
    refine ⟨rfl, _, rfl, _, rfl, _, _, rfl, rfl, _, rfl, _, _, rfl, rfl, _, _, rfl, rfl, .inl ⟨by decide, by decide⟩, _, _, rfl, rfl, ⟨by omega, by omega, by decide⟩, _, _, rfl, rfl, ?_, _, _, rfl, rfl, (by show (0 : Int) < 256; decide), g, upd_same, Same_upd s2 hD _, ?_⟩
    · show (0 : Int) < 1 * 2 ^ (8 * ((k : Int) - 1 - (0 + (i : Int)))).toNat ∧ 1 * 2 ^ (8 * ((k : Int) - 1 - (0 + (i : Int)))).toNat < (1073741824 : Int)
      rw [e2, Int.one_mul]
      exact ⟨pp, by omega⟩
    · rw [split_step, List.map_append]
      show _ ++ [V.int (n / (1 * 2 ^ (8 * ((k : Int) - 1 - (0 + (i : Int)))).toNat) % 256)] = _ ++ [V.int (n / 2 ^ (8 * (k - 1 - i)) % 256)]
      rw [e2, Int.one_mul]
  · rintro ys H2 ⟨g, s2, rfl⟩
    rw [Int.toNat_natCast] at g
    exact q D H2 s2 hD g
theorem sc__law_signs : FnScope ["_law_some"] [] (defScope s_law_signs) := ⟨rfl, rfl, rfl, by decide +kernel, rfl, by decide +kernel, by decide +kernel⟩
theorem ok__law_signs {f : Addr} {fd : FuncData} (F : Fun K "_law_signs" "_law_signs" s_law_signs f fd) : FnOk P w K mg base CX0 1 f fd [] (sp_law_signs K) := by
  refine F.ok sc__law_signs (fun vs H Q E h => ?_) (fun cdv A outer s H vs Q E hr h => ?_)
  · obtain ⟨rfl, q⟩ := h
    rfl
  obtain ⟨rfl, q⟩ := h
  refine ⟨_, (pss_cons (ps_set (i := 0) sc__law_signs.nd rfl (Or.inl rfl) pe_str)
      (pss_one (ps_ret (pe_bm PySem.F.plainAttrs_str PySem.F.slot_str_split PySem.F.type_str_split mt_split (pe_op op_add_str (pv 0) pe_str) (pa_cons pe_str pa_nil))))), ?_⟩
  exact ⟨_, rfl, _, _, rfl, rfl, by decide +kernel, rfl, _, _, rfl, rfl, by decide +kernel, by decide +kernel, by decide +kernel, by decide +kernel, fun p hp => by rw [signs_cut]; exact q p _ (same_new hp _) hp upd_same⟩
theorem sc__law_size : FnScope ["_law_word_here", "_law_size_here"] ["_law_word_here"] (defScope s_law_size) := ⟨rfl, rfl, rfl, by decide +kernel, rfl, by decide +kernel, by decide +kernel⟩
theorem ok__law_size {f : Addr} {fd : FuncData} (F : Fun K "_law_size" "_law_size" s_law_size f fd) : FnOk P w K mg base CX0 1 f fd ["_law_word_here"] (sp_law_size K) := by
  refine F.ok sc__law_size (fun vs H Q E h => ?_) (fun cdv A outer s H vs Q E hr h => ?_)
  · obtain ⟨w, rfl, hw, q⟩ := h
    rfl
  obtain ⟨w, rfl, hw, q⟩ := h
  refine ⟨_, (pss_cons (ps_set (i := 1) sc__law_size.nd rfl (Or.inl rfl) pe_int)
      (pss_cons (ps_while PassesOwn.never (PW.pt (pw_and (pt_cmpR op_lt (pv 1) pe_int (nomark _)) (pw_and1 (pt_cmpR op_ne (pv 0) pe_int (nomark _))))) (pss_cons (ps_if (PW.pt (pw_and (pt_cmpR op_gt (pv 1) pe_int (nomark _)) (pw_and1 (pt_chain op_le op_lt (pe_op op_sub pe_int (pe_op op_shl pe_int (pe_op op_sub (pe_op op_mul pe_int (pv 1)) pe_int))) (pv 0) (pe_op op_shl pe_int (pe_op op_sub (pe_op op_mul pe_int (pv 1)) pe_int)))))) (pss_one (ps_ret (pv 1))) pss_nil)
      (pss_one (ps_set (i := 1) sc__law_size.nd rfl (Or.inl rfl) (pe_op op_add (pv 1) pe_int)))))
      (pss_one (ps_ret (pv 1))))), ?_⟩
  unfold inW at hw
  refine ⟨fun m σ H2 => H2 = H ∧ ∃ (k : Nat), σ = [some (.int w), some (.int (k : Int))] ∧ m = 10 - k ∧ (k = 0 ∨ (¬ w = 0 ∧ (k = 1 ∨ (k = 2 ∧ ¬ (-128 ≤ w ∧ w < 128)) ∨ (k = 3 ∧ ¬ (-32768 ≤ w ∧ w < 32768)) ∨ (k = 4 ∧ ¬ (-8388608 ≤ w ∧ w < 8388608))))), ⟨10, rfl, 0, rfl, rfl, .inl rfl⟩, ?_⟩
  rintro m σ H2 ⟨rfl, k, rfl, rfl, hk⟩
  by_cases h0 : w = 0
  · have k0 : k = 0 := by omega
    subst k0
    subst h0
    refine ⟨_, rfl, _, _, rfl, rfl, _, rfl, iteT ?_⟩
    exact ⟨_, rfl, rfl, _, rfl, iteF ⟨_, rfl, q⟩⟩
  have bits : ∀ (j : Nat) (b : Int), 1 ≤ j → j ≤ 3 → (2 : Int) ^ (8 * j - 1) = b → (1 * 2 ^ (8 * (j : Int) - 1).toNat : Int) = b := fun j b h1 h2 e => by
    rw [show (8 * (j : Int) - 1).toNat = 8 * j - 1 by omega, e, Int.one_mul]
  by_cases h4 : k = 4
  · subst h4
    refine ⟨_, rfl, _, _, rfl, rfl, _, rfl, iteF ?_⟩
    have e : psz w = 4 := by
      unfold psz
      rw [if_neg h0, if_neg (by omega), if_neg (by omega), if_neg (by omega)]
    rw [e] at q
    exact ⟨_, rfl, q⟩
  have k3 : k ≤ 3 := by omega
  refine ⟨_, rfl, _, _, rfl, rfl, _, rfl, ifY (show (k : Int) < 4 by omega) ?_⟩
  refine ⟨_, rfl, rfl, _, rfl, ifYn (fun y => h0 (V.int.inj y)) ?_⟩
  refine ⟨_, fun _ _ y => y, ?_⟩
  by_cases k0 : k = 0
  · subst k0
    refine ⟨_, rfl, _, _, rfl, rfl, _, rfl, iteF ?_⟩
    exact ⟨_, rfl, _, _, rfl, rfl, 10 - 1, by omega, rfl, 1, rfl, rfl, .inr ⟨h0, .inl rfl⟩⟩
  refine ⟨_, rfl, _, _, rfl, rfl, _, rfl, ifY (show (0 : Int) < (k : Int) by omega) ?_⟩
  obtain ⟨b, hb, hB⟩ : ∃ b : Int, (1 * 2 ^ (8 * (k : Int) - 1).toNat : Int) = b ∧ ((k = 1 ∧ b = 128) ∨ (k = 2 ∧ b = 32768) ∨ (k = 3 ∧ b = 8388608)) := by
    rcases (by omega : k = 1 ∨ k = 2 ∨ k = 3) with rfl | rfl | rfl
    · exact ⟨128, bits 1 _ (by omega) (by omega) (by decide), .inl ⟨rfl, rfl⟩⟩
    · exact ⟨32768, bits 2 _ (by omega) (by omega) (by decide), .inr (.inl ⟨rfl, rfl⟩)⟩
    · exact ⟨8388608, bits 3 _ (by omega) (by omega) (by decide), .inr (.inr ⟨rfl, rfl⟩)⟩
  have out : -b ≤ w ∧ w < b → psz w = k := fun z => by
    unfold psz
    rw [if_neg h0]
    rcases hB with ⟨rfl, rfl⟩ | ⟨rfl, rfl⟩ | ⟨rfl, rfl⟩
    · rw [if_pos z]
    · rw [if_neg (by omega), if_pos z]
    · rw [if_neg (by omega), if_neg (by omega), if_pos z]
  have inn : ¬ (-b ≤ w ∧ w < b) → k + 1 = 1 ∨ (k + 1 = 2 ∧ ¬ (-128 ≤ w ∧ w < 128)) ∨ (k + 1 = 3 ∧ ¬ (-32768 ≤ w ∧ w < 32768)) ∨ (k + 1 = 4 ∧ ¬ (-8388608 ≤ w ∧ w < 8388608)) := fun z => by
    rcases hB with ⟨rfl, rfl⟩ | ⟨rfl, rfl⟩ | ⟨rfl, rfl⟩
    · exact .inr (.inl ⟨rfl, z⟩)
    · exact .inr (.inr (.inl ⟨rfl, z⟩))
    · exact .inr (.inr (.inr ⟨rfl, z⟩))
  clear hB hk
  have cp : CPow 1 (8 * (k : Int) - 1) := ⟨by omega, by omega, by decide⟩
  refine ⟨_, rfl, _, _, rfl, rfl, .inl ⟨by decide, by decide⟩, _, _, rfl, rfl, _, _, rfl, rfl, cp, _, _, rfl, rfl, _, rfl, _, _, rfl, rfl, _, rfl, ?_⟩
  refine ite2 (fun z1 => ?_) (fun z1 => ?_)
  · have y1 : -b ≤ w := by
      have y : 0 - 1 * 2 ^ (8 * (k : Int) - 1).toNat ≤ w := of_decide_eq_true z1
      rw [hb] at y
      omega
    refine ⟨_, rfl, _, _, rfl, rfl, .inl ⟨by decide, by decide⟩, _, _, rfl, rfl, _, _, rfl, rfl, cp, _, _, rfl, rfl, _, rfl, ite2 (fun z2 => ?_) (fun z2 => ?_)⟩
    · have y2 : w < 1 * 2 ^ (8 * (k : Int) - 1).toNat := of_decide_eq_true z2
      rw [hb] at y2
      rw [out ⟨y1, y2⟩] at q
      exact ⟨_, rfl, q⟩
    · have y2 : ¬ (-b ≤ w ∧ w < b) := fun y => z2 (decide_eq_true (by show w < 1 * 2 ^ (8 * (k : Int) - 1).toNat; rw [hb]; exact y.2))
      exact ⟨_, rfl, _, _, rfl, rfl, 10 - (k + 1), by omega, rfl, k + 1, rfl, rfl, .inr ⟨h0, inn y2⟩⟩
  · have y2 : ¬ (-b ≤ w ∧ w < b) := fun y => z1 (decide_eq_true (by rw [hb]; have := y.1; omega))
    exact ⟨_, rfl, iteF ⟨_, rfl, _, _, rfl, rfl, 10 - (k + 1), by omega, rfl, k + 1, rfl, rfl, .inr ⟨h0, inn y2⟩⟩⟩
theorem sc__law_chunk : FnScope ["_law_row_here", "_law_first"] ["_law_row_here"] (defScope s_law_chunk) := ⟨rfl, rfl, rfl, by decide +kernel, rfl, by decide +kernel, by decide +kernel⟩
theorem ok__law_chunk {f : Addr} {fd : FuncData} (F : Fun K "_law_chunk" "_law_chunk" s_law_chunk f fd) (z_list : mg "list" = none) (z_sum : mg "sum" = none) (h__law_ended : Has P w K mg base CX0 "_law_ended" 1 ["_law_number", "_law_size_here"] (sp_law_ended K)) (h__law_signs : Has P w K mg base CX0 "_law_signs" 1 [] (sp_law_signs K)) (h__law_size : Has P w K mg base CX0 "_law_size" 1 ["_law_word_here"] (sp_law_size K)) : FnOk P w K mg base CX0 2 f fd ["_law_row_here"] (sp_law_chunk K) := by
  refine F.ok sc__law_chunk (fun vs H Q E h => ?_) (fun cdv A outer s H vs Q E hr h => ?_)
  · obtain ⟨t, r, n, rfl, hT, hok, q⟩ := h
    rfl
  obtain ⟨t, r, n, rfl, hT, hok, q⟩ := h
  refine ⟨_, (pss_cons (ps_set (i := 1) sc__law_chunk.nd rfl (Or.inl rfl) (pe_op op_mul pe_int (pe_bm PySem.F.plainAttrs_list PySem.F.slot_list_index PySem.F.type_list_index mt_lindex (pe_ch0 h__law_signs (hr.mono (by decide)) rfl) (pa_cons (pe_ix ix_tup (pv 0) pe_int (fun _ _ => rfl)) pa_nil))))
      (pss_cons (ps_if (pt_cmpR op_eq (pe_ix ix_tup (pv 0) pe_int (fun _ _ => rfl)) pe_str (nomark _)) (pss_one (ps_ret (pe_op op_catS (pe_lst (pa_cons (pe_op op_add (pv 1) (pe_ch h__law_size (hr.mono (by decide)) rfl (pa_cons (pe_ix ix_tup (pv 0) pe_int (fun _ _ => rfl)) pa_nil))) pa_nil)) (pe_ch h__law_ended (hr.mono (by decide)) rfl (pa_cons (pe_ix ix_tup (pv 0) pe_int (fun _ _ => rfl)) (pa_cons (pe_ch h__law_size (hr.mono (by decide)) rfl (pa_cons (pe_ix ix_tup (pv 0) pe_int (fun _ _ => rfl)) pa_nil)) pa_nil)))))) pss_nil)
      (pss_cons (ps_if (pt_cmpR op_in_seq (pe_ix ix_tup (pv 0) pe_int (fun _ _ => rfl)) (pe_tup (pa_cons pe_str (pa_cons pe_str pa_nil))) rfl) (pss_one (ps_ret (pe_lst (pa_cons (pv 1) (pa_cons pe_int (pa_cons pe_int pa_nil)))))) pss_nil)
      (pss_cons (ps_if (pt_cmpR op_eq (pe_ix ix_tup (pv 0) pe_int (fun _ _ => rfl)) pe_str (nomark _)) (pss_one (ps_ret (pe_lst (pa_cons (pe_op op_add (pv 1) (pe_ix ix_tup (pv 0) pe_int (fun _ _ => rfl))) (pa_cons pe_int (pa_cons pe_int pa_nil)))))) pss_nil)
      (pss_one (ps_ret (pe_op op_catS (pe_lst (pa_cons (pe_op op_add (pv 1) (pe_callB (call_sumT rfl) rfl z_sum bt_sum (pa_cons (pe_slice sl_tupG (pv 0) (po_some pe_int) (po_some pe_int)) pa_nil))) pa_nil)) (pe_callTy call_list_of rfl z_list bt_list (pa_cons (pe_slice sl_tupG (pv 0) (po_some pe_int) po_none) pa_nil))))))))), ?_⟩
  obtain ⟨sn, sl⟩ := sign_no _ hok.sign
  refine ⟨rfl, fun sp H1 s1 n1 g1 => ?_⟩
  refine ⟨.inl ⟨rfl, _, SqL.of g1⟩, _, rfl, t, _, _, _, rfl, rfl, s1.tup hT, atI_nat (j := 0) rfl, sp, signsL, roS r, signNo (roS r), rfl, rfl, g1, sn, signs_at sn, _, _, rfl, rfl, .inl ⟨by decide, by decide⟩, ?_⟩
  have hT1 := s1.tup hT
  dsimp only [gName]
  rw [show (8 : Int) * ((signNo (roS r) : Nat) : Int) = ((8 * signNo (roS r) : Nat) : Int) by omega]
  have at0 : atI (roV r) 0 = some (.str (roS r)) := atI_nat (j := 0) rfl
  rcases chunk_cases hok with ⟨w, rfl, hw⟩ | ⟨c1, c2, c3⟩ | ⟨c1, c2, c3, c, p, c4, c5⟩ | ⟨c1, c2, c3, as, bs, c4, c5, c6⟩
  · refine ⟨_, rfl, t, _, _, _, rfl, rfl, hT1, at0, rfl, _, rfl, stepS (fun _ => ?_) (fun z => absurd rfl z)⟩
    have at1 : atI (roV (.push w)) 1 = some (.int w) := atI_nat (j := 1) rfl
    refine ⟨_, rfl, _, rfl, t, _, _, _, rfl, rfl, hT1, at1, w, rfl, hw, _, _, rfl, rfl, (by show 1 ≤ sizeLine; decide), fun l1 h1 => ?_⟩
    have s2 := same_new h1 (.lst [.int (((8 * signNo "push" : Nat) : Int) + ((psz w : Nat) : Int))])
    have g2 : upd H1 l1 (.lst [.int (((8 * signNo (roS (.push w)) : Nat) : Int) + ((psz w : Nat) : Int))]) l1 = some (.lst [.int (((8 * signNo "push" : Nat) : Int) + ((psz w : Nat) : Int))]) := upd_same
    have s2 : Same H1 (upd H1 l1 (.lst [.int (((8 * signNo (roS (.push w)) : Nat) : Int) + ((psz w : Nat) : Int))])) := s2
    generalize upd H1 l1 _ = H2 at s2 g2 ⊢
    refine ⟨_, rfl, t, _, _, _, rfl, rfl, s2.tup hT1, at1, _, rfl, t, _, _, _, rfl, rfl, s2.tup hT1, at1, w, rfl, hw, w, psz w, rfl, psz_le w, fun l2 H3 s3 n3 g3 => ?_⟩
    refine ⟨l1, l2, _, _, rfl, rfl, SqL.of (s3 _ _ g2), SqL.of g3, (few_sizeLine (by have := psz_le w; simp [split_len]; omega)), fun l3 h3 => ?_⟩
    refine q l3 _ (s1.trans (s2.trans (s3.trans (same_new h3 _)))) (fresh_of (s1.trans (s2.trans s3)) h3) ?_
    rw [upd_same, chunk_push]
    rfl
  · refine ⟨_, rfl, t, _, _, _, rfl, rfl, hT1, at0, rfl, _, rfl, stepS (fun z => absurd z c1) (fun _ => ?_)⟩
    dsimp only [tNext]
    refine ⟨_, rfl, t, _, _, _, rfl, rfl, hT1, at0, (by show 2 ≤ sizeLine; decide), fun t2 ht2 => ⟨t2, _, rfl, .inr (SqT.of upd_same), rfl, rfl, _, rfl, ?_⟩⟩
    have s2 := same_new ht2 (.tup [.str "jump", .str "zero"])
    generalize upd H1 t2 (.tup [.str "jump", .str "zero"]) = H2 at s2 ⊢
    refine stepL (l := ["jump", "zero"]) (fun _ => ?_) (fun z => absurd c2 z)
    refine ⟨_, rfl, (by show 3 ≤ sizeLine; decide), fun l1 h1 => ?_⟩
    refine q l1 _ (s1.trans (s2.trans (same_new h1 _))) (fresh_of (s1.trans s2) h1) ?_
    rw [upd_same, c3]
    rfl
  · refine ⟨_, rfl, t, _, _, _, rfl, rfl, hT1, at0, rfl, _, rfl, stepS (fun z => absurd z c1) (fun _ => ?_)⟩
    dsimp only [tNext]
    refine ⟨_, rfl, t, _, _, _, rfl, rfl, hT1, at0, (by show 2 ≤ sizeLine; decide), fun t2 ht2 => ⟨t2, _, rfl, .inr (SqT.of upd_same), rfl, rfl, _, rfl, ?_⟩⟩
    have s2 := same_new ht2 (.tup [.str "jump", .str "zero"])
    generalize upd H1 t2 (.tup [.str "jump", .str "zero"]) = H2 at s2 ⊢
    refine stepL (l := ["jump", "zero"]) (fun z => absurd z c2) (fun _ => ?_)
    dsimp only [tNext]
    refine ⟨_, rfl, t, _, _, _, rfl, rfl, s2.tup hT1, at0, rfl, _, rfl, stepS (fun _ => ?_) (fun z => absurd c3 z)⟩
    have at1 : atI (roV r) 1 = some (.int (c : Int)) := by rw [c4]; exact atI_nat (j := 1) rfl
    refine ⟨_, rfl, _, rfl, t, _, _, _, rfl, rfl, s2.tup hT1, at1, _, _, rfl, rfl, (by show 3 ≤ sizeLine; decide), fun l1 h1 => ?_⟩
    refine q l1 _ (s1.trans (s2.trans (same_new h1 _))) (fresh_of (s1.trans s2) h1) ?_
    rw [upd_same, c5]
    rfl
  · refine ⟨_, rfl, t, _, _, _, rfl, rfl, hT1, at0, rfl, _, rfl, stepS (fun z => absurd z c1) (fun _ => ?_)⟩
    dsimp only [tNext]
    refine ⟨_, rfl, t, _, _, _, rfl, rfl, hT1, at0, (by show 2 ≤ sizeLine; decide), fun t2 ht2 => ⟨t2, _, rfl, .inr (SqT.of upd_same), rfl, rfl, _, rfl, ?_⟩⟩
    have s2 := same_new ht2 (.tup [.str "jump", .str "zero"])
    generalize upd H1 t2 (.tup [.str "jump", .str "zero"]) = H2 at s2 ⊢
    refine stepL (l := ["jump", "zero"]) (fun z => absurd z c2) (fun _ => ?_)
    dsimp only [tNext]
    refine ⟨_, rfl, t, _, _, _, rfl, rfl, s2.tup hT1, at0, rfl, _, rfl, stepS (fun z => absurd z c3) (fun _ => ?_)⟩
    dsimp only [tNext]
    obtain ⟨k1, k2⟩ := cut12 (.str (roS r)) as bs c5
    rw [← c4] at k1 k2
    refine ⟨_, rfl, _, rfl, _, rfl, _, rfl, t, _, rfl, s2.tup hT1, fun c H3 s3 hc => ?_⟩
    have hc : SqT K H3 c (as.map V.int) := by
      have z : SqT K H3 c (cutV (roV r) (some 1) (some 2)) := hc
      rw [k1] at z
      exact z
    refine ⟨c, as, rfl, hc, _, _, rfl, rfl, (by show 1 ≤ sizeLine; decide), fun l1 h1 => ?_⟩
    have s4 := same_new h1 (.lst [.int (((8 * signNo (roS r) : Nat) : Int) + as.sum)])
    have g4 := upd_same (H := H3) (a := l1) (o := .lst [.int (((8 * signNo (roS r) : Nat) : Int) + as.sum)])
    generalize upd H3 l1 _ = H4 at s4 g4 ⊢
    refine ⟨_, rfl, _, rfl, t, _, rfl, s4.tup (s3.tup (s2.tup hT1)), fun c2 H5 s5 hc2 => ?_⟩
    have hc2 : SqT K H5 c2 (bs.map V.int) := by
      have z : SqT K H5 c2 (cutV (roV r) (some 2) none) := hc2
      rw [k2] at z
      exact z
    refine ⟨c2, _, rfl, .inr hc2, fun l2 h2 => ?_⟩
    have s6 := same_new h2 (.lst (bs.map V.int))
    have g6 := upd_same (H := H5) (a := l2) (o := .lst (bs.map V.int))
    generalize upd H5 l2 _ = H6 at s6 g6 ⊢
    have bl : bs.length ≤ 2 := by
      have z1 := congrArg List.length c4
      have z2 : (roV r).length ≤ 3 := by cases r <;> simp [roV, roN]
      simp at z1
      omega
    refine ⟨l1, l2, _, _, rfl, rfl, SqL.of (s6 _ _ (s5 _ _ g4)), SqL.of g6, few_sizeLine (by simp; omega), fun l3 h3 => ?_⟩
    have S := s1.trans (s2.trans (s3.trans (s4.trans (s5.trans s6))))
    refine q l3 _ (S.trans (same_new h3 _)) (fresh_of S h3) ?_
    rw [upd_same, c6]
    rfl
theorem sc__law_starts : FnScope ["_law_chunks", "_law_starts_here", "_law_at", "_law_chunk_here"] ["_law_chunks"] (defScope s_law_starts) := ⟨rfl, rfl, rfl, by decide +kernel, rfl, by decide +kernel, by decide +kernel⟩
theorem ok__law_starts {f : Addr} {fd : FuncData} (F : Fun K "_law_starts" "_law_starts" s_law_starts f fd) (z_len : mg "len" = none) : FnOk P w K mg base CX0 1 f fd ["_law_chunks"] (sp_law_starts K) := by
  refine F.ok sc__law_starts (fun vs H Q E h => ?_) (fun cdv A outer s H vs Q E hr h => ?_)
  · obtain ⟨a, us, rs, n, rfl, hS, hC, hok, h2, q⟩ := h
    rfl
  obtain ⟨a, us, rs, n, rfl, hS, hC, hok, h2, q⟩ := h
  refine ⟨_, (pss_cons (ps_set (i := 1) sc__law_starts.nd rfl (Or.inl rfl) (pe_lst pa_nil))
      (pss_cons (ps_set (i := 2) sc__law_starts.nd rfl (Or.inl rfl) pe_int)
      (pss_cons (ps_for PassesOwn.never rfl (pi_list (pv 0)) (pg_name (i := 3) sc__law_starts.nd rfl (Or.inl rfl)) (pss_cons (ps_expr (pe_bm PySem.F.plainAttrs_list PySem.F.slot_list_append PySem.F.type_list_append mt_append (pv 1) (pa_cons (pv 2) pa_nil)))
      (pss_one (ps_set (i := 2) sc__law_starts.nd rfl (Or.inl rfl) (pe_op op_add (pv 2) (pe_callB call_len_seq rfl z_len bt_len (pa_cons (pv 3) pa_nil)))))))
      (pss_one (ps_ret (pv 1)))))), ?_⟩
  refine ⟨(by show 0 ≤ sizeLine; decide), fun l hl => ?_⟩
  have s1 := same_new hl (.lst [])
  have g1 := upd_same (H := H) (a := l) (o := .lst [])
  generalize upd H l (.lst []) = H1 at s1 g1 ⊢
  have sl : (startsK rs).length = rs.length := by simp [startsK]
  refine ⟨_, rfl, a, rfl, ⟨_, s1.seq hS⟩, ?_⟩
  refine for_list (xs := us) (fun i σ H2 => ∃ o : Option V, σ = [some (.ref a), some (.ref l), some (.int (atK rs i : Int)), o] ∧ Same H H2 ∧ H2 l = some (.lst (((startsK rs).take i).map V.int))) ⟨none, by rw [at_zero]; rfl, s1, g1⟩ ?_ ?_ ?_
  · rintro i σ H2 hi ⟨o, rfl, s2, g2⟩
    exact s2.seq hS
  · rintro i y σ H2 hy ⟨o, rfl, s2, g2⟩
    obtain ⟨r, p, hr', rfl, hp⟩ := hC.item hy
    have hi := (List.getElem?_eq_some_iff.mp hr').1
    refine ⟨_, rfl, .inl ⟨rfl, _, SqL.of g2⟩, _, rfl, l, _, _, rfl, rfl, g2, small1000 (by rw [List.length_map, List.length_take]; omega), ?_⟩
    have s3 : Same H (upd H2 l (.lst (((startsK rs).take i).map V.int ++ [.int (atK rs i : Int)]))) := Same_upd s2 hl _
    have g3 : upd H2 l (.lst (((startsK rs).take i).map V.int ++ [.int (atK rs i : Int)])) l = some (.lst (((startsK rs).take (i + 1)).map V.int)) := by rw [upd_same, starts_take rs hi, List.map_append]; rfl
    generalize upd H2 l _ = H3 at s3 g3 ⊢
    refine ⟨_, rfl, _, rfl, p, _, rfl, .inl (s3.seq hp), _, _, rfl, rfl, ?_⟩
    refine ⟨some (.ref p), ?_, s3, g3⟩
    have e : (atK rs i : Int) + ((((chunkK r).map V.int).length : Nat) : Int) = (atK rs (i + 1) : Int) := by
      rw [List.length_map, chunk_len (hok r (List.mem_of_getElem? hr')), at_succ hr']
      omega
    show [some (V.ref a), some (V.ref l), some (V.int ((atK rs i : Int) + ((((chunkK r).map V.int).length : Nat) : Int))), some (V.ref p)] = _
    rw [e]
  · rintro σ H2 ⟨o, rfl, s2, g2⟩
    rw [List.take_of_length_le (by rw [sl, hC.1]; exact Nat.le_refl _)] at g2
    exact ⟨_, rfl, q l H2 s2 hl g2⟩
theorem sc_wants : FnScope ["sign"] ["sign"] (defScope s_wants) := ⟨rfl, rfl, rfl, by decide +kernel, rfl, by decide +kernel, by decide +kernel⟩
theorem ok_wants {f : Addr} {fd : FuncData} (F : Fun K "wants" "wants" s_wants f fd) {d_WANTS : Addr} (g_WANTS : mg "WANTS" = some (.ref d_WANTS)) (c_WANTS : DiD K w d_WANTS kd_WANTS) : FnOk P w K mg base CX0 1 f fd ["sign"] (sp_wants K) := by
  refine F.ok sc_wants (fun vs H Q E h => ?_) (fun cdv A outer s H vs Q E hr h => ?_)
  · obtain ⟨x, rfl, q⟩ := h
    rfl
  obtain ⟨x, rfl, q⟩ := h
  refine ⟨_, (pss_one (ps_ret (pe_getK (pe_glob (v := .ref d_WANTS) rfl g_WANTS rfl) (pa_cons (pv 0) (pa_cons (pe_tup pa_nil) pa_nil))))), ?_⟩
  refine ⟨d_WANTS, kd_WANTS, rfl, c_WANTS, _, rfl, by show 0 ≤ sizeLine; decide, fun p hp => ⟨x, .ref p, rfl, fun hn => q _ _ (same_new hp _) ⟨p, rfl, ?_⟩, fun dt hd v hv => ?_⟩⟩
  · rw [wants_none hn]
    exact SqT.of upd_same
  · have e := wants_some hd
    subst e
    obtain ⟨a, xs, rfl, h1, h2⟩ := RdV.tupInv (hv _)
    have z := rd_strs h2
    subst z
    exact q _ _ (same_new hp _) ⟨a, rfl, h1⟩
theorem sc_tail_want : FnScope ["sign", "wanted"] ["sign"] (defScope s_tail_want) := ⟨rfl, rfl, rfl, by decide +kernel, rfl, by decide +kernel, by decide +kernel⟩
theorem ok_tail_want {f : Addr} {fd : FuncData} (F : Fun K "tail_want" "tail_want" s_tail_want f fd) (z_len : mg "len" = none) (h_wants : Has P w K mg base CX0 "wants" 1 ["sign"] (sp_wants K)) : FnOk P w K mg base CX0 2 f fd ["sign"] (sp_tail_want K) := by
  refine F.ok sc_tail_want (fun vs H Q E h => ?_) (fun cdv A outer s H vs Q E hr h => ?_)
  · obtain ⟨s0, rfl, q⟩ := h
    rfl
  obtain ⟨s0, rfl, q⟩ := h
  refine ⟨_, (pss_cons (ps_set (i := 1) sc_tail_want.nd rfl (Or.inl rfl) (pe_ch h_wants (hr.mono (by decide)) rfl (pa_cons (pv 0) pa_nil)))
      (pss_cons (ps_if (PW.pt (pw_or (pt_cmpR op_eq (pe_callB call_len_seq rfl z_len bt_len (pa_cons (pv 1) pa_nil)) pe_int (nomark _)) (pw_or1 (pt_cmpR op_notIn_seq (pe_ix ix_tup (pv 1) (pe_un un_neg pe_int) (fun _ _ => rfl)) (pe_tup (pa_cons pe_str (pa_cons pe_str (pa_cons pe_str pa_nil)))) rfl)))) (pss_one (ps_ret pe_non)) pss_nil)
      (pss_one (ps_ret (pe_ix ix_tup (pv 1) (pe_un un_neg pe_int) (fun _ _ => rfl)))))), ?_⟩
  refine ⟨_, rfl, s0, rfl, fun v H1 s1 ⟨p, ev, hp⟩ => ?_⟩
  subst ev
  cases hl : wantsL s0 with
  | nil =>
    have q := q H1 s1
    rw [hl] at hp
    rw [tail_nil hl] at q
    exact ⟨_, rfl, p, _, rfl, .inr hp, rfl, _, rfl, iteT (iteT q)⟩
  | cons x0 l =>
    obtain ⟨x, hx⟩ : ∃ x, (wantsL s0).getLast? = some x := by rw [hl]; exact ⟨_, List.getLast?_cons ..⟩
    have hv : atI ((wantsL s0).map V.str) (-1) = some (.str x) := atI_last (by rw [List.getLast?_map, hx]; rfl)
    have hne : ¬ ((wantsL s0).map V.str).length = 0 := by rw [hl]; simp
    refine ⟨_, rfl, p, _, rfl, .inr hp, rfl, _, rfl, ?_⟩
    refine ifN (fun y => hne (by have := V.int.inj y; omega)) ?_
    refine ⟨_, rfl, _, rfl, p, _, _, _, rfl, rfl, hp, hv, (by show 3 ≤ sizeLine; decide), fun t ht => ⟨t, _, rfl, .inr (SqT.of upd_same), rfl, rfl, _, rfl, ?_⟩⟩
    have s2 := same_new ht (.tup [.str "word", .str "field", .str "place"])
    have q := q _ (s1.trans s2)
    generalize upd H1 t (.tup [.str "word", .str "field", .str "place"]) = H2 at s2 q ⊢
    show if (!inV (.str x) ((["word", "field", "place"] : List Str).map V.str)) = true then _ else _
    rw [inV_strs]
    by_cases z : x ∈ (["word", "field", "place"] : List Str)
    · refine ifNn z ?_
      rw [tail_last hx, if_pos z] at q
      exact ⟨_, rfl, _, rfl, p, _, _, _, rfl, rfl, s2.tup hp, hv, q⟩
    · refine ifYn z ?_
      rw [tail_last hx, if_neg z] at q
      exact q
theorem sc_placed : FnScope ["row", "places", "at"] ["row", "places", "at"] (defScope s_placed) := ⟨rfl, rfl, rfl, by decide +kernel, rfl, by decide +kernel, by decide +kernel⟩
theorem ok_placed {f : Addr} {fd : FuncData} (F : Fun K "placed" "placed" s_placed f fd) {C_NoCode : Addr} (g_NoCode : mg "NoCode" = some (.ref C_NoCode)) (w_NoCode : PySem.W.ktsIn K C_NoCode "BaseException" = true) (m_NoCode : NewX P w K mg base C_NoCode ["at", "word"]) (h_tail_want : Has P w K mg base CX0 "tail_want" 2 ["sign"] (sp_tail_want K)) : FnOk P w K mg base (CX2 P w) 3 f fd ["row", "places", "at"] (sp_placed K mg) := by
  refine F.okF sc_placed (fun vs H Q E h => ?_) (fun cdv A outer s H vs Q E hr h => ?_)
  · obtain ⟨t, d, r, rr, i, rfl, hT, hok, hd, qo, qe⟩ := h
    rfl
  obtain ⟨t, d, r, rr, i, rfl, hT, hok, hd, qo, qe⟩ := h
  refine ⟨_, (pss_cons (ps_if (pt_cmpR op_ne (pe_ch h_tail_want (hr.mono (by decide)) rfl (pa_cons (pe_ix ix_tup (pv 0) pe_int (fun _ _ => rfl)) pa_nil)) pe_str (nomark _)) (pss_one (ps_ret (pv 0))) pss_nil)
      (pss_cons (ps_if (pt_cmp (pc_dnotin (hu_of hr) (pe_ix ix_tup (pv 0) (pe_un un_neg pe_int) (fun _ _ => rfl)) (pv 1))) (pss_one (ps_raiseF rzF_cx m_NoCode (hr.mono (by decide)) rfl g_NoCode rfl (pa_cons (pv 2) (pa_cons pe_str pa_nil)))) pss_nil)
      (pss_one (ps_ret (pe_op op_catT (pe_slice sl_tupG (pv 0) po_none (po_some (pe_un un_neg pe_int))) (pe_tup (pa_cons (pe_dget (hu_of hr) (pv 1) (pe_ix ix_tup (pv 0) (pe_un un_neg pe_int) (fun _ _ => rfl)) (fun _ _ => rfl)) pa_nil))))))), ?_⟩
  refine ⟨_, rfl, t, _, _, _, rfl, rfl, hT, atI_nat (j := 0) rfl, roS r, rfl, fun H1 s1 => ?_⟩
  refine ⟨(by cases tailW (roS r) <;> rfl), _, rfl, ?_⟩
  rcases place_row hok with ⟨e1, e2⟩ | ⟨e1, v, xs, e2, e3, e3', e4, e5⟩
  · have ef : (!decide (optS (tailW (roS r)) = V.str (Str.ofString "place"))) = true := by
      rw [decide_eq_false]
      · rfl
      · intro h
        refine e1 ?_
        cases e : tailW (roS r) with
        | none => rw [e] at h; cases h
        | some y => rw [e] at h; exact congrArg some (V.str.inj h)
    show if (!decide (optS (tailW (roS r)) = V.str (Str.ofString "place"))) = true then _ else _
    rw [ef]
    refine iteT ?_
    exact ⟨_, rfl, qo r (e2 rr) t H1 s1 (s1.tup hT)⟩
  show if (!decide (optS (tailW (roS r)) = V.str (Str.ofString "place"))) = true then _ else _
  rw [e1, show (!decide (optS (some ("place" : Str)) = V.str (Str.ofString "place"))) = false by rw [decide_eq_true (show optS (some ("place" : Str)) = V.str (Str.ofString "place") from rfl)]; rfl]
  refine iteF ?_
  dsimp only [tNext]
  have al : atI (roV r) (-1) = some (.int (v : Int)) := by rw [e2]; exact last_snoc _ _
  have hT1 := s1.tup hT
  have hd1 := s1 _ _ hd
  refine ⟨_, rfl, _, rfl, t, _, _, _, rfl, rfl, hT1, al, _, rfl, d, _, rfl, DGet.k (k := Sum.inl (v : Int)) hd1, _, rfl, ?_⟩
  have hv := val_pl rr v
  cases ep : posOf rr v with
  | none =>
    rw [ep] at hv
    rw [hv]
    refine iteT ?_
    refine ⟨_, rfl, rfl, fun dx H2 hdx s2 gx => ?_⟩
    exact qe ((e5 rr).1 ep) _ dx H2 g_NoCode (s1.trans s2) (fresh_of s1 hdx) gx
  | some j =>
    rw [ep] at hv
    have dg : DGet H1 d (.int (v : Int)) (some (.int (j : Int))) := by
      have := DGet.k (H := H1) (a := d) (k := Sum.inl (v : Int)) hd1
      rw [hv] at this
      exact this
    rw [hv]
    refine iteF ?_
    dsimp only [tNext]
    obtain ⟨q, hq1, hq2⟩ := (e5 rr).2 j ep
    refine ⟨_, rfl, _, rfl, _, rfl, t, _, rfl, hT1, fun c H2 s2 hc => ?_⟩
    have hc : SqT K H2 c xs := by
      have z : SqT K H2 c (cutV (roV r) none (some (-1))) := hc
      rw [e4] at z
      exact z
    refine ⟨_, rfl, _, rfl, _, rfl, t, _, _, _, rfl, rfl, s2.tup hT1, al, d, .int (j : Int), rfl, ?_, (by show 1 ≤ sizeLine; decide), fun t1 ht1 => ?_⟩
    · have := DGet.k (H := H2) (a := d) (k := Sum.inl (v : Int)) (s2 _ _ hd1)
      rw [hv] at this
      exact this
    have s3 := same_new ht1 (.tup [.int (j : Int)])
    have g3 := upd_same (H := H2) (a := t1) (o := .tup [.int (j : Int)])
    generalize upd H2 t1 _ = H3 at s3 g3 ⊢
    refine ⟨c, t1, xs, [.int (j : Int)], rfl, rfl, s3.tup hc, SqT.of g3, by omega, few_sizeLine (by simp; omega), fun y => absurd y (by simp), fun y t3 h3 => ?_⟩
    refine qo q hq1 t3 _ (s1.trans (s2.trans (s3.trans (same_new h3 _)))) ?_
    rw [hq2]
    exact SqT.of upd_same
theorem sc_low_want : FnScope ["sign", "wanted"] ["sign"] (defScope s_low_want) := ⟨rfl, rfl, rfl, by decide +kernel, rfl, by decide +kernel, by decide +kernel⟩
theorem ok_low_want {f : Addr} {fd : FuncData} (F : Fun K "low_want" "low_want" s_low_want f fd) (z_len : mg "len" = none) (h_wants : Has P w K mg base CX0 "wants" 1 ["sign"] (sp_wants K)) : FnOk P w K mg base CX0 2 f fd ["sign"] (sp_low_want K) := by
  refine F.ok sc_low_want (fun vs H Q E h => ?_) (fun cdv A outer s H vs Q E hr h => ?_)
  · obtain ⟨s0, rfl, q⟩ := h
    rfl
  obtain ⟨s0, rfl, q⟩ := h
  refine ⟨_, (pss_cons (ps_set (i := 1) sc_low_want.nd rfl (Or.inl rfl) (pe_ch h_wants (hr.mono (by decide)) rfl (pa_cons (pv 0) pa_nil)))
      (pss_cons (ps_if (PW.pt (pw_or (pt_cmpR op_eq (pe_callB call_len_seq rfl z_len bt_len (pa_cons (pv 1) pa_nil)) pe_int (nomark _)) (pw_or1 (pt_cmpR op_eq (pe_ix ix_tup (pv 1) pe_int (fun _ _ => rfl)) pe_str (nomark _))))) (pss_one (ps_ret pe_non)) pss_nil)
      (pss_one (ps_ret (pe_ix ix_tup (pv 1) pe_int (fun _ _ => rfl)))))), ?_⟩
  refine ⟨_, rfl, s0, rfl, fun v H1 s1 ⟨p, ev, hp⟩ => ?_⟩
  subst ev
  have q := q H1 s1
  cases hl : wantsL s0 with
  | nil =>
    rw [hl] at hp
    rw [low_nil hl] at q
    exact ⟨_, rfl, p, _, rfl, .inr hp, rfl, _, rfl, iteT (iteT q)⟩
  | cons x l =>
    rw [hl] at hp
    refine ⟨_, rfl, p, _, rfl, .inr hp, rfl, _, rfl, ?_⟩
    refine ifN (fun y => by have := V.int.inj y; simp at this; omega) ?_
    refine ⟨_, rfl, p, _, _, _, rfl, rfl, hp, atI_nat (j := 0) rfl, rfl, _, rfl, stepS (fun z => ?_) (fun z => ?_)⟩
    · rw [low_cons hl, if_pos z] at q
      exact q
    · rw [low_cons hl, if_neg z] at q
      exact ⟨_, rfl, p, _, _, _, rfl, rfl, hp, atI_nat (j := 0) rfl, q⟩
theorem sc_low_is_right : FnScope ["sign", "low", "want"] ["sign", "low"] (defScope s_low_is_right) := ⟨rfl, rfl, rfl, by decide +kernel, rfl, by decide +kernel, by decide +kernel⟩
theorem ok_low_is_right {f : Addr} {fd : FuncData} (F : Fun K "low_is_right" "low_is_right" s_low_is_right f fd) {t_MOST_PUSH : Tok} (g_MOST_PUSH : mg "MOST_PUSH" = some (.int 4 t_MOST_PUSH)) (r_MOST_PUSH : RelV (.int 4) (.int 4 t_MOST_PUSH)) (h_low_want : Has P w K mg base CX0 "low_want" 2 ["sign"] (sp_low_want K)) : FnOk P w K mg base CX0 3 f fd ["sign", "low"] (sp_low_is_right K) := by
  refine F.ok sc_low_is_right (fun vs H Q E h => ?_) (fun cdv A outer s H vs Q E hr h => ?_)
  · obtain ⟨s0, l, rfl, q⟩ := h
    rfl
  obtain ⟨s0, l, rfl, q⟩ := h
  refine ⟨_, (pss_cons (ps_set (i := 2) sc_low_is_right.nd rfl (Or.inl rfl) (pe_ch h_low_want (hr.mono (by decide)) rfl (pa_cons (pv 0) pa_nil)))
      (pss_cons (ps_if (pt_cmpR op_isN (pv 2) pe_non (nomark _)) (pss_one (ps_ret (pe_cmpR op_eq (pv 1) pe_int (nomark _)))) pss_nil)
      (pss_cons (ps_if (pt_cmpR op_eq (pv 2) pe_str (nomark _)) (pss_one (ps_ret (pe_cmpR op_le (pv 1) (pe_glob rfl g_MOST_PUSH r_MOST_PUSH) (nomark _)))) pss_nil)
      (pss_one (ps_ret pe_bl))))), ?_⟩
  refine ⟨_, rfl, s0, rfl, fun H1 s1 => ?_⟩
  have q := q H1 s1
  cases e : lowW s0 with
  | none =>
    rw [low_of e] at q
    refine ⟨_, rfl, rfl, _, rfl, iteT ?_⟩
    refine ⟨_, rfl, rfl, ?_⟩
    rw [show decide (V.int l = V.int 0) = decide (l = 0) from decide_eq_decide.mpr ⟨fun z => V.int.inj z, fun z => congrArg V.int z⟩]
    exact q
  | some x =>
    rw [low_of e] at q
    refine ⟨_, rfl, rfl, _, rfl, iteF ?_⟩
    dsimp only [tNext]
    have q : Q (.bl (if x = "word" then decide (l ≤ 4) else true)) H1 := q
    refine ⟨_, rfl, rfl, _, rfl, stepS (fun z => ?_) (fun z => ?_)⟩
    · rw [if_pos z] at q
      exact ⟨_, rfl, _, _, rfl, rfl, q⟩
    · rw [if_neg z] at q
      exact q
theorem sc_joined_number : FnScope ["tail", "number", "byte"] ["tail"] (defScope s_joined_number) := ⟨rfl, rfl, rfl, by decide +kernel, rfl, by decide +kernel, by decide +kernel⟩
theorem ok_joined_number {f : Addr} {fd : FuncData} (F : Fun K "joined_number" "joined_number" s_joined_number f fd) : FnOk P w K mg base CX0 1 f fd ["tail"] (sp_joined_number K) := by
  refine F.ok sc_joined_number (fun vs H Q E h => ?_) (fun cdv A outer s H vs Q E hr h => ?_)
  · obtain ⟨a, ns, rfl, hS, q⟩ := h
    rfl
  obtain ⟨a, ns, rfl, hS, q⟩ := h
  refine ⟨_, (pss_cons (ps_set (i := 1) sc_joined_number.nd rfl (Or.inl rfl) pe_int)
      (pss_cons (ps_for PassesOwn.never rfl (pi_list (pv 0)) (pg_name (i := 2) sc_joined_number.nd rfl (Or.inl rfl)) (pss_one (ps_set (i := 1) sc_joined_number.nd rfl (Or.inl rfl) (pe_op op_add (pe_op op_mul (pv 1) pe_int) (pv 2)))))
      (pss_one (ps_ret (pv 1))))), ?_⟩
  refine ⟨_, rfl, a, rfl, ⟨_, hS⟩, ?_⟩
  refine for_list (xs := ns.map V.int) (fun i σ H2 => H2 = H ∧ ∃ (v : Option V), σ = [some (.ref a), some (.int (numI (ns.take i))), v]) ⟨rfl, none, rfl⟩ ?_ ?_ ?_
  · rintro i σ H2 hi ⟨rfl, v, rfl⟩
    exact hS
  · rintro i y σ H2 hi ⟨rfl, v, rfl⟩
    rw [List.getElem?_map] at hi
    cases e : ns[i]? with
    | none => rw [e] at hi; cases hi
    | some z =>
      rw [e] at hi
      cases hi
      refine ⟨_, rfl, _, _, rfl, rfl, .inr ⟨by decide, by decide⟩, _, rfl, _, _, rfl, rfl, ?_⟩
      refine ⟨rfl, some (.int z), ?_⟩
      have e1 : numI (ns.take (i + 1)) = numI (ns.take i) * 256 + z := by
        rw [List.take_add_one, e]
        simp [numI, Int.mul_comm]
      rw [e1]
      rfl
  · rintro σ H2 ⟨rfl, v, rfl⟩
    rw [List.length_map, List.take_length]
    exact ⟨_, rfl, q⟩
theorem sc_push_size : FnScope ["word", "size", "half"] ["word"] (defScope s_push_size) := ⟨rfl, rfl, rfl, by decide +kernel, rfl, by decide +kernel, by decide +kernel⟩
theorem ok_push_size {f : Addr} {fd : FuncData} (F : Fun K "push_size" "push_size" s_push_size f fd) : FnOk P w K mg base CX0 1 f fd ["word"] (sp_push_size K) := by
  refine F.ok sc_push_size (fun vs H Q E h => ?_) (fun cdv A outer s H vs Q E hr h => ?_)
  · obtain ⟨w, rfl, hw, q⟩ := h
    rfl
  obtain ⟨w, rfl, hw, q⟩ := h
  refine ⟨_, (pss_cons (ps_if (pt_cmpR op_eq (pv 0) pe_int (nomark _)) (pss_one (ps_ret pe_int)) pss_nil)
      (pss_cons (ps_set (i := 1) sc_push_size.nd rfl (Or.inl rfl) pe_int)
      (pss_cons (ps_set (i := 2) sc_push_size.nd rfl (Or.inl rfl) pe_int)
      (pss_cons (ps_while PassesOwn.never (pt_not (pt_chain op_le op_lt (pe_un un_neg (pv 2)) (pv 0) (pv 2))) (pss_cons (ps_set (i := 1) sc_push_size.nd rfl (Or.inl rfl) (pe_op op_add (pv 1) pe_int))
      (pss_one (ps_set (i := 2) sc_push_size.nd rfl (Or.inl rfl) (pe_op op_mul (pv 2) pe_int)))))
      (pss_one (ps_ret (pv 1))))))), ?_⟩
  unfold inW at hw
  refine ⟨_, rfl, rfl, _, rfl, ?_⟩
  by_cases h0 : w = 0
  · refine ifY (by rw [h0]) ?_
    subst h0
    exact q
  refine ifN (fun y => h0 (V.int.inj y)) ?_
  refine ⟨fun m σ H2 => H2 = H ∧ ∃ (k : Nat) (h : Int), σ = [some (.int w), some (.int (k : Int)), some (.int h)] ∧ m = 10 - k ∧ ((k = 1 ∧ h = 128) ∨ (k = 2 ∧ h = 32768 ∧ ¬ (-128 ≤ w ∧ w < 128)) ∨ (k = 3 ∧ h = 8388608 ∧ ¬ (-32768 ≤ w ∧ w < 32768)) ∨ (k = 4 ∧ h = 2147483648 ∧ ¬ (-8388608 ≤ w ∧ w < 8388608))), ⟨9, rfl, 1, 128, rfl, rfl, .inl ⟨rfl, rfl⟩⟩, ?_⟩
  rintro m σ H2 ⟨rfl, k, h, rfl, rfl, hk⟩
  have out : -h ≤ w ∧ w < h → psz w = k := fun z => by
    unfold psz
    rw [if_neg h0]
    rcases hk with ⟨rfl, rfl⟩ | ⟨rfl, rfl, h1⟩ | ⟨rfl, rfl, h1⟩ | ⟨rfl, rfl, h1⟩
    · rw [if_pos z]
    · rw [if_neg h1, if_pos z]
    · rw [if_neg (by omega), if_neg h1, if_pos z]
    · rw [if_neg (by omega), if_neg (by omega), if_neg h1]
  have inn : ¬ (-h ≤ w ∧ w < h) → (k + 1 = 1 ∧ h * 256 = 128) ∨ (k + 1 = 2 ∧ h * 256 = 32768 ∧ ¬ (-128 ≤ w ∧ w < 128)) ∨ (k + 1 = 3 ∧ h * 256 = 8388608 ∧ ¬ (-32768 ≤ w ∧ w < 32768)) ∨ (k + 1 = 4 ∧ h * 256 = 2147483648 ∧ ¬ (-8388608 ≤ w ∧ w < 8388608)) := fun z => by
    rcases hk with ⟨rfl, rfl⟩ | ⟨rfl, rfl, h1⟩ | ⟨rfl, rfl, h1⟩ | ⟨rfl, rfl, h1⟩
    · exact .inr (.inl ⟨rfl, rfl, z⟩)
    · exact .inr (.inr (.inl ⟨rfl, rfl, z⟩))
    · exact .inr (.inr (.inr ⟨rfl, rfl, z⟩))
    · exact absurd ⟨by omega, by omega⟩ z
  have k9 : k ≤ 4 := by omega
  clear hk
  refine ⟨_, rfl, _, rfl, _, rfl, _, _, rfl, rfl, _, rfl, ite2 (fun z1 => ?_) (fun z1 => ?_)⟩
  · refine ⟨_, rfl, _, _, rfl, rfl, _, rfl, ?_⟩
    by_cases z2 : w < h
    · refine ifNn z2 ?_
      rw [out ⟨of_decide_eq_true z1, z2⟩] at q
      exact ⟨_, rfl, q⟩
    · refine ifYn z2 ⟨_, fun _ _ y => y, ?_⟩
      exact ⟨_, rfl, _, _, rfl, rfl, _, rfl, _, _, rfl, rfl, .inr ⟨by decide, by decide⟩, 10 - (k + 1), by omega, rfl, k + 1, h * 256, rfl, rfl, inn fun y => z2 y.2⟩
  · refine ⟨_, rfl, iteT ⟨_, fun _ _ y => y, ?_⟩⟩
    exact ⟨_, rfl, _, _, rfl, rfl, _, rfl, _, _, rfl, rfl, .inr ⟨by decide, by decide⟩, 10 - (k + 1), by omega, rfl, k + 1, h * 256, rfl, rfl, inn fun y => z1 (decide_eq_true y.1)⟩
theorem sc_signed_number : FnScope ["tail", "number"] ["tail"] (defScope s_signed_number) := ⟨rfl, rfl, rfl, by decide +kernel, rfl, by decide +kernel, by decide +kernel⟩
theorem ok_signed_number {f : Addr} {fd : FuncData} (F : Fun K "signed_number" "signed_number" s_signed_number f fd) (z_len : mg "len" = none) (h_joined_number : Has P w K mg base CX0 "joined_number" 1 ["tail"] (sp_joined_number K)) : FnOk P w K mg base CX0 2 f fd ["tail"] (sp_signed_number K) := by
  refine F.ok sc_signed_number (fun vs H Q E h => ?_) (fun cdv A outer s H vs Q E hr h => ?_)
  · obtain ⟨a, ns, rfl, hS, h8, q⟩ := h
    rfl
  obtain ⟨a, ns, rfl, hS, h8, q⟩ := h
  refine ⟨_, (pss_cons (ps_set (i := 1) sc_signed_number.nd rfl (Or.inl rfl) (pe_ch h_joined_number (hr.mono (by decide)) rfl (pa_cons (pv 0) pa_nil)))
      (pss_cons (ps_if (PW.pt (pw_and (pt_cmpR op_gt (pe_callB call_len_seq rfl z_len bt_len (pa_cons (pv 0) pa_nil)) pe_int (nomark _)) (pw_and1 (pt_cmpR op_gt (pe_ix ix_list (pv 0) pe_int (fun _ _ => rfl)) pe_int (nomark _))))) (pss_one (ps_ret (pe_op op_sub (pv 1) (pe_op op_shl pe_int (pe_op op_mul pe_int (pe_callB call_len_seq rfl z_len bt_len (pa_cons (pv 0) pa_nil))))))) pss_nil)
      (pss_one (ps_ret (pv 1))))), ?_⟩
  refine ⟨_, rfl, a, ns, rfl, hS, ?_⟩
  have lm : (ns.map V.int).length = ns.length := List.length_map ..
  refine ⟨_, rfl, a, _, rfl, .inl hS, _, _, rfl, rfl, _, rfl, ite2 (fun z => ?_) (fun z => ?_)⟩
  · have z' : (0 : Int) < (((ns.map V.int).length : Nat) : Int) := of_decide_eq_true z
    obtain ⟨x, hx⟩ : ∃ x, ns[0]? = some x := ⟨_, List.getElem?_eq_getElem (show 0 < ns.length by omega)⟩
    refine ⟨_, rfl, a, _, _, _, rfl, rfl, hS, atI_nat (j := 0) (by rw [List.getElem?_map, hx]; rfl), _, _, rfl, rfl, _, rfl, ite2 (fun y => ?_) (fun y => ?_)⟩
    · have y' : (127 : Int) < x := of_decide_eq_true y
      refine ⟨_, rfl, _, rfl, a, _, rfl, .inl hS, _, _, rfl, rfl, .inl ⟨by decide, by decide⟩, _, _, rfl, rfl, ⟨by omega, by omega, by decide⟩, _, _, rfl, rfl, ?_⟩
      have e : sgnI ns = numI ns - 1 * 2 ^ (8 * (((ns.map V.int).length : Nat) : Int)).toNat := by
        unfold sgnI
        rw [if_pos ⟨by omega, by rw [hx]; exact y'⟩, lm, show (8 * ((ns.length : Nat) : Int)).toNat = 8 * ns.length by omega, Int.one_mul]
      rw [e] at q
      exact q
    · have y' : ¬ (127 : Int) < x := fun h => y (decide_eq_true h)
      unfold sgnI at q
      rw [if_neg (fun h => y' (by have := h.2; rw [hx] at this; exact this))] at q
      exact ⟨_, rfl, q⟩
  · have z' : ¬ (0 : Int) < (((ns.map V.int).length : Nat) : Int) := fun h => z (decide_eq_true h)
    unfold sgnI at q
    rw [if_neg (fun h => by have := h.1; omega)] at q
    exact ⟨_, rfl, q⟩
theorem sc_row_of : FnScope ["sign", "low", "tail", "at", "word", "row"] ["sign", "low", "tail", "at"] (defScope s_row_of) := ⟨rfl, rfl, rfl, by decide +kernel, rfl, by decide +kernel, by decide +kernel⟩
theorem ok_row_of {f : Addr} {fd : FuncData} (F : Fun K "row_of" "row_of" s_row_of f fd) (z_len : mg "len" = none) {t_MOST_FIELD : Tok} (g_MOST_FIELD : mg "MOST_FIELD" = some (.int 7 t_MOST_FIELD)) (r_MOST_FIELD : RelV (.int 7) (.int 7 t_MOST_FIELD)) {C_NoCode : Addr} (g_NoCode : mg "NoCode" = some (.ref C_NoCode)) (w_NoCode : PySem.W.ktsIn K C_NoCode "BaseException" = true) (m_NoCode : NewX P w K mg base C_NoCode ["at", "word"]) (h_joined_number : Has P w K mg base CX0 "joined_number" 1 ["tail"] (sp_joined_number K)) (h_low_want : Has P w K mg base CX0 "low_want" 2 ["sign"] (sp_low_want K)) (h_push_size : Has P w K mg base CX0 "push_size" 1 ["word"] (sp_push_size K)) (h_signed_number : Has P w K mg base CX0 "signed_number" 2 ["tail"] (sp_signed_number K)) (h_tail_want : Has P w K mg base CX0 "tail_want" 2 ["sign"] (sp_tail_want K)) : FnOk P w K mg base (CX2 P w) 3 f fd ["sign", "low", "tail", "at"] (sp_row_of K mg) := by
  refine F.okF sc_row_of (fun vs H Q E h => ?_) (fun cdv A outer s H vs Q E hr h => ?_)
  · obtain ⟨s0, l, a, ns, i, rfl, hS, hs, hl0, hl8, hlo, hb, hn, qo, qe⟩ := h
    rfl
  obtain ⟨s0, l, a, ns, i, rfl, hS, hs, hl0, hl8, hlo, hb, hn, qo, qe⟩ := h
  refine ⟨_, (pss_cons (ps_if (pt_cmpR op_eq (pv 0) pe_str (nomark _)) (pss_cons (ps_set (i := 4) sc_row_of.nd rfl (Or.inl rfl) (pe_ch h_signed_number (hr.mono (by decide)) rfl (pa_cons (pv 2) pa_nil)))
      (pss_cons (ps_if (pt_cmpR op_lt (pe_ch h_push_size (hr.mono (by decide)) rfl (pa_cons (pv 4) pa_nil)) (pv 1) (nomark _)) (pss_one (ps_raiseF rzF_cx m_NoCode (hr.mono (by decide)) rfl g_NoCode rfl (pa_cons (pv 3) (pa_cons pe_str pa_nil)))) pss_nil)
      (pss_one (ps_ret (pe_tup (pa_cons (pv 0) (pa_cons (pv 4) pa_nil))))))) pss_nil)
      (pss_cons (ps_set (i := 5) sc_row_of.nd rfl (Or.inl rfl) (pe_tup (pa_cons (pv 0) pa_nil)))
      (pss_cons (ps_if (pt_cmpR op_notN (pe_ch h_low_want (hr.mono (by decide)) rfl (pa_cons (pv 0) pa_nil)) pe_non (nomark _)) (pss_one (ps_set (i := 5) sc_row_of.nd rfl (Or.inl rfl) (pe_op op_catT (pv 5) (pe_tup (pa_cons (pv 1) pa_nil))))) pss_nil)
      (pss_cons (ps_if (pt_cmpR op_gt (pe_callB call_len_seq rfl z_len bt_len (pa_cons (pv 2) pa_nil)) pe_int (nomark _)) (pss_one (ps_set (i := 5) sc_row_of.nd rfl (Or.inl rfl) (pe_op op_catT (pv 5) (pe_tup (pa_cons (pe_ch h_joined_number (hr.mono (by decide)) rfl (pa_cons (pv 2) pa_nil)) pa_nil))))) pss_nil)
      (pss_cons (ps_if (PW.pt (pw_and (pt_cmpR op_eq (pe_ch h_tail_want (hr.mono (by decide)) rfl (pa_cons (pv 0) pa_nil)) pe_str (nomark _)) (pw_and1 (pt_cmpR op_gt (pe_ix ix_tup (pv 5) (pe_un un_neg pe_int) (fun _ _ => rfl)) (pe_glob rfl g_MOST_FIELD r_MOST_FIELD) (nomark _))))) (pss_one (ps_raiseF rzF_cx m_NoCode (hr.mono (by decide)) rfl g_NoCode rfl (pa_cons (pv 3) (pa_cons pe_str pa_nil)))) pss_nil)
      (pss_one (ps_ret (pv 5)))))))), ?_⟩
  have tz := tsz_le hlo hs hl0
  have nl : ns.length ≤ 4 := by omega
  refine ⟨_, rfl, rfl, _, rfl, stepS (fun z => ?_) (fun z => ?_)⟩
  · subst z
    rw [tl_push] at qo qe
    obtain ⟨b1, b2, b3⟩ := sgn_bytes hb nl
    refine ⟨_, rfl, a, ns, rfl, hS, by omega, ?_⟩
    refine ⟨_, rfl, _, rfl, b1, ?_⟩
    refine ⟨_, rfl, _, _, rfl, rfl, _, rfl, ite2 (fun y => ?_) (fun y => ?_)⟩
    · have y' : ((psz (sgnI ns) : Nat) : Int) < l := of_decide_eq_true y
      rw [if_pos y'] at qe
      refine ⟨_, rfl, rfl, fun dx H2 hd s2 hdx => ?_⟩
      exact qe _ rfl _ dx H2 g_NoCode s2 hd hdx
    · have y' : ¬ ((psz (sgnI ns) : Nat) : Int) < l := fun h => y (decide_eq_true h)
      rw [if_neg y'] at qo
      dsimp only [tNext]
      refine ⟨_, rfl, _, rfl, (by show 2 ≤ sizeLine; decide), fun t ht => ?_⟩
      exact qo _ rfl t _ (same_new ht _) (SqT.of upd_same)
  dsimp only [tNext]
  rw [tl_else z] at qo qe
  obtain ⟨tv, tf⟩ := tl_vs hs z hl0 hb hn
  have lm : (ns.map V.int).length = ns.length := List.length_map ..
  refine ⟨_, rfl, (by show 1 ≤ sizeLine; decide), fun t0 ht0 => ?_⟩
  have s1 := same_new ht0 (.tup [.str s0])
  have g1 := upd_same (H := H) (a := t0) (o := .tup [.str s0])
  generalize upd H t0 _ = H1 at s1 g1 ⊢
  refine cutR (R := ?R) (fun σ' H' => ∃ t, Same H H' ∧ SqT K H' t (.str s0 :: (if lowW s0 = none then [] else [.int l])) ∧ σ' = [some (.str s0), some (.int l), some (.ref a), some (.int i), none, some (.ref t)]) (fun kk => ?mm) ?kk
  case mm =>
    refine ⟨_, rfl, s0, rfl, fun H2 s2 => ?_⟩
    refine ⟨rfl, _, rfl, ?_⟩
    cases e : lowW s0 with
    | none =>
      refine iteF ?_
      dsimp only [tNext]
      exact kk _ _ ⟨t0, s1.trans s2, by rw [if_pos e]; exact SqT.of (s2 _ _ g1), rfl⟩
    | some x =>
      refine iteT ?_
      refine ⟨_, rfl, _, rfl, (by show 1 ≤ sizeLine; decide), fun t1 ht1 => ?_⟩
      have s3 := same_new ht1 (.tup [.int l])
      have g3 := upd_same (H := H2) (a := t1) (o := .tup [.int l])
      generalize upd H2 t1 _ = H3 at s3 g3 ⊢
      refine ⟨t0, t1, [.str s0], [.int l], rfl, rfl, SqT.of (s3 _ _ (s2 _ _ g1)), SqT.of g3, by simp, (by show 1 + 1 ≤ sizeLine; decide), fun y => absurd y (by simp), fun y t3 h3 => ?_⟩
      dsimp only [gName]
      exact kk _ _ ⟨t3, s1.trans (s2.trans (s3.trans (same_new h3 _))), by rw [if_neg (by rw [e]; simp)]; exact SqT.of upd_same, rfl⟩
  rintro σ' H2 ⟨t, s2, hT2, rfl⟩
  refine cutR (R := ?R2) (fun σ' H' => ∃ t, Same H H' ∧ SqT K H' t (rowVs s0 l ns) ∧ σ' = [some (.str s0), some (.int l), some (.ref a), some (.int i), none, some (.ref t)]) (fun kk => ?m2) ?k2
  case m2 =>
    refine ⟨_, rfl, a, _, rfl, .inl (s2.seq hS), _, _, rfl, rfl, _, rfl, ite2 (fun y => ?_) (fun y => ?_)⟩
    · have y' : (0 : Int) < (((ns.map V.int).length : Nat) : Int) := of_decide_eq_true y
      have ne : ns ≠ [] := fun e => by rw [e] at y'; exact absurd y' (by decide)
      refine ⟨_, rfl, _, rfl, a, ns, rfl, s2.seq hS, (by show 1 ≤ sizeLine; decide), fun t1 ht1 => ?_⟩
      have s3 := same_new ht1 (.tup [.int (numI ns)])
      have g3 := upd_same (H := H2) (a := t1) (o := .tup [.int (numI ns)])
      generalize upd H2 t1 _ = H3 at s3 g3 ⊢
      refine ⟨t, t1, _, [.int (numI ns)], rfl, rfl, s3.tup hT2, SqT.of g3, by simp, (few_sizeLine (by simp; split <;> simp)), fun y => absurd y (by simp), fun y t3 h3 => ?_⟩
      dsimp only [gName]
      refine kk _ _ ⟨t3, s2.trans (s3.trans (same_new h3 _)), ?_, rfl⟩
      unfold rowVs
      rw [if_neg ne]
      exact SqT.of upd_same
    · have y' : ¬ (0 : Int) < (((ns.map V.int).length : Nat) : Int) := fun h => y (decide_eq_true h)
      have ne : ns = [] := List.length_eq_zero_iff.mp (by omega)
      dsimp only [tNext]
      refine kk _ _ ⟨t, s2, ?_, rfl⟩
      unfold rowVs
      rw [if_pos ne, List.append_nil]
      exact hT2
  rintro σ' H3 ⟨t, s3, hT3, rfl⟩
  refine ⟨_, rfl, s0, rfl, fun H4 s4 => ?_⟩
  refine ⟨(by cases tailW s0 <;> rfl), _, rfl, ?_⟩
  by_cases hf : tailW s0 = some ("field" : Str)
  · obtain ⟨x, rfl⟩ := tf hf
    rw [hf]
    refine iteT ?_
    refine ⟨_, rfl, _, rfl, t, _, _, _, rfl, rfl, s4.tup hT3, vs_last, _, _, rfl, rfl, _, rfl, ite2 (fun y => ?_) (fun y => ?_)⟩
    · have y' : (7 : Int) < numI [x] := of_decide_eq_true y
      rw [if_pos ⟨hf, y'⟩] at qe
      refine ⟨_, rfl, rfl, fun dx H5 hd s5 hdx => ?_⟩
      have S4 := s3.trans s4
      exact qe _ rfl _ dx H5 g_NoCode (S4.trans s5) (fresh_of S4 hd) hdx
    · have y' : ¬ (7 : Int) < numI [x] := fun h => y (decide_eq_true h)
      rw [if_neg (fun h => y' h.2)] at qo
      dsimp only [tNext]
      refine ⟨_, rfl, qo _ rfl t _ (s3.trans s4) ?_⟩
      rw [tv]
      exact s4.tup hT3
  · rw [if_neg (fun h => hf h.1)] at qo
    have ef : decide (optS (tailW s0) = V.str (Str.ofString "field")) = false := by
      refine decide_eq_false fun h => hf ?_
      cases e : tailW s0 with
      | none => rw [e] at h; cases h
      | some y => rw [e] at h; exact congrArg some (V.str.inj h)
    rw [ef]
    refine iteF ?_
    dsimp only [tNext]
    refine ⟨_, rfl, qo _ rfl t _ (s3.trans s4) ?_⟩
    rw [tv]
    exact s4.tup hT3
theorem sc_tail_size : FnScope ["sign", "low", "want"] ["sign", "low"] (defScope s_tail_size) := ⟨rfl, rfl, rfl, by decide +kernel, rfl, by decide +kernel, by decide +kernel⟩
theorem ok_tail_size {f : Addr} {fd : FuncData} (F : Fun K "tail_size" "tail_size" s_tail_size f fd) (h_tail_want : Has P w K mg base CX0 "tail_want" 2 ["sign"] (sp_tail_want K)) : FnOk P w K mg base CX0 3 f fd ["sign", "low"] (sp_tail_size K) := by
  refine F.ok sc_tail_size (fun vs H Q E h => ?_) (fun cdv A outer s H vs Q E hr h => ?_)
  · obtain ⟨s0, l, rfl, q⟩ := h
    rfl
  obtain ⟨s0, l, rfl, q⟩ := h
  refine ⟨_, (pss_cons (ps_set (i := 2) sc_tail_size.nd rfl (Or.inl rfl) (pe_ch h_tail_want (hr.mono (by decide)) rfl (pa_cons (pv 0) pa_nil)))
      (pss_cons (ps_if (pt_cmpR op_eq (pv 2) pe_str (nomark _)) (pss_one (ps_ret (pv 1))) pss_nil)
      (pss_cons (ps_if (pt_cmpR op_eq (pv 2) pe_str (nomark _)) (pss_one (ps_ret pe_int)) pss_nil)
      (pss_cons (ps_if (pt_cmpR op_eq (pv 2) pe_str (nomark _)) (pss_one (ps_ret pe_int)) pss_nil)
      (pss_one (ps_ret pe_int)))))), ?_⟩
  refine ⟨_, rfl, s0, rfl, fun H1 s1 => ?_⟩
  have q := q H1 s1
  refine ⟨_, rfl, scal_opt _ _, _, rfl, stepO (fun z => ?_) (fun z1 => ?_)⟩
  · rw [tsz_word z] at q
    exact ⟨_, rfl, q⟩
  refine ⟨_, rfl, scal_opt _ _, _, rfl, stepO (fun z => ?_) (fun z2 => ?_)⟩
  · rw [tsz_field z] at q
    exact q
  refine ⟨_, rfl, scal_opt _ _, _, rfl, stepO (fun z => ?_) (fun z3 => ?_)⟩
  · rw [tsz_place z] at q
    exact q
  rw [tsz_else z1 z2 z3] at q
  exact q
theorem sc_row_at : FnScope ["some", "at", "number", "low", "sign", "behind"] ["some", "at"] (defScope s_row_at) := ⟨rfl, rfl, rfl, by decide +kernel, rfl, by decide +kernel, by decide +kernel⟩
theorem ok_row_at {f : Addr} {fd : FuncData} (F : Fun K "row_at" "row_at" s_row_at f fd) (z_len : mg "len" = none) {C_NoCode : Addr} (g_NoCode : mg "NoCode" = some (.ref C_NoCode)) (w_NoCode : PySem.W.ktsIn K C_NoCode "BaseException" = true) {d_SIGNS : Addr} (g_SIGNS : mg "SIGNS" = some (.ref d_SIGNS)) (c_SIGNS : ∀ H : Hp, RdV K H (.ref d_SIGNS) kd_SIGNS) (o_SIGNS : ∃ o, K.lookup d_SIGNS = some o ∧ o.cls = .type "tuple" ∧ o.dict = none) (m_NoCode : NewX P w K mg base C_NoCode ["at", "word"]) (h_low_is_right : Has P w K mg base CX0 "low_is_right" 3 ["sign", "low"] (sp_low_is_right K)) (h_row_of : Has P w K mg base (CX2 P w) "row_of" 3 ["sign", "low", "tail", "at"] (sp_row_of K mg)) (h_tail_size : Has P w K mg base CX0 "tail_size" 3 ["sign", "low"] (sp_tail_size K)) : FnOk P w K mg base (CX2 P w) 4 f fd ["some", "at"] (sp_row_at K mg) := by
  refine F.okF sc_row_at (fun vs H Q E h => ?_) (fun cdv A outer s H vs Q E hr h => ?_)
  · obtain ⟨a, bs, i, rfl, hS, hb, hi, qo, qe⟩ := h
    rfl
  obtain ⟨a, bs, i, rfl, hS, hb, hi, qo, qe⟩ := h
  refine ⟨_, (pss_cons (ps_set (i := 2) sc_row_at.nd rfl (Or.inl rfl) (pe_op op_shr (pe_ix ix_list (pv 0) (pv 1) (fun _ _ => rfl)) pe_int))
      (pss_cons (ps_set (i := 3) sc_row_at.nd rfl (Or.inl rfl) (pe_op op_and (pe_ix ix_list (pv 0) (pv 1) (fun _ _ => rfl)) pe_int))
      (pss_cons (ps_if (pt_cmpR op_ge (pv 2) (pe_callB call_len_seq rfl z_len bt_len (pa_cons (pe_glob (v := .ref d_SIGNS) rfl g_SIGNS rfl) pa_nil)) (nomark _)) (pss_one (ps_raiseF rzF_cx m_NoCode (hr.mono (by decide)) rfl g_NoCode rfl (pa_cons (pv 1) (pa_cons pe_str pa_nil)))) pss_nil)
      (pss_cons (ps_set (i := 4) sc_row_at.nd rfl (Or.inl rfl) (pe_ix ix_tup (pe_glob (v := .ref d_SIGNS) rfl g_SIGNS rfl) (pv 2) (fun _ _ => rfl)))
      (pss_cons (ps_if (pt_not (pt_val (pe_ch h_low_is_right (hr.mono (by decide)) rfl (pa_cons (pv 4) (pa_cons (pv 3) pa_nil))))) (pss_one (ps_raiseF rzF_cx m_NoCode (hr.mono (by decide)) rfl g_NoCode rfl (pa_cons (pv 1) (pa_cons pe_str pa_nil)))) pss_nil)
      (pss_cons (ps_set (i := 5) sc_row_at.nd rfl (Or.inl rfl) (pe_op op_add (pe_op op_add (pv 1) pe_int) (pe_ch h_tail_size (hr.mono (by decide)) rfl (pa_cons (pv 4) (pa_cons (pv 3) pa_nil)))))
      (pss_cons (ps_if (pt_cmpR op_gt (pv 5) (pe_callB call_len_seq rfl z_len bt_len (pa_cons (pv 0) pa_nil)) (nomark _)) (pss_one (ps_raiseF rzF_cx m_NoCode (hr.mono (by decide)) rfl g_NoCode rfl (pa_cons (pv 1) (pa_cons pe_str pa_nil)))) pss_nil)
      (pss_one (ps_ret (pe_chF h_row_of passes2 (hr.mono (by decide)) rfl (pa_cons (pv 4) (pa_cons (pv 3) (pa_cons (pe_slice sl_list (pv 0) (po_some (pe_op op_add (pv 1) pe_int)) (po_some (pv 5))) (pa_cons (pv 1) pa_nil)))))))))))))), ?_⟩
  have eb := List.getElem?_eq_getElem hi
  have hm := hb _ (List.getElem_mem hi)
  generalize bs[i] = b at eb hm
  have e0 : rowAt bs i = rowHd bs i b := by unfold rowAt; rw [eb]; rfl
  rw [e0] at qo qe
  have at_b : atI (bs.map V.int) (i : Int) = some (.int b) := atI_nat (by rw [List.getElem?_map, eb]; rfl)
  have lm : (bs.map V.int).length = bs.length := List.length_map ..
  refine ⟨_, rfl, _, rfl, a, _, _, .int b, rfl, rfl, hS, at_b, _, _, rfl, rfl, (by show (0 : Int) ≤ 3; decide), ?_⟩
  refine ⟨_, rfl, _, rfl, a, _, _, .int b, rfl, rfl, hS, at_b, _, _, rfl, rfl, ?_⟩
  dsimp only [gName]
  rw [PyProof.Rows.bitAnd_m3, show b / 2 ^ (3 : Int).toNat = b / 8 from rfl]
  have l25 : (signsL.map V.str).length = 25 := rfl
  refine ⟨_, rfl, d_SIGNS, _, rfl, .inr (signs_tup c_SIGNS H), _, _, rfl, rfl, _, rfl, ite2 (fun z => ?_) (fun z => ?_)⟩
  · have z' : (((signsL.map V.str).length : Nat) : Int) ≤ b / 8 := of_decide_eq_true z
    have en : signsL[(b / 8).toNat]? = none := List.getElem?_eq_none (by show 25 ≤ _; omega)
    rw [hd_none en] at qe
    refine ⟨_, rfl, rfl, fun dx H2 hd s2 hdx => ?_⟩
    exact qe _ rfl _ dx H2 g_NoCode s2 hd hdx
  have z' : ¬ (((signsL.map V.str).length : Nat) : Int) ≤ b / 8 := fun h => z (decide_eq_true h)
  dsimp only [tNext]
  have hlt : (b / 8).toNat < signsL.length := by show _ < 25; omega
  have es := List.getElem?_eq_getElem hlt
  have hs := List.getElem_mem hlt
  generalize signsL[(b / 8).toNat] = s1 at es hs
  rw [hd_some es] at qo qe
  refine ⟨_, rfl, d_SIGNS, _, _, .str s1, rfl, rfl, signs_tup c_SIGNS H, ?_, ?_⟩
  · have := atI_nat (xs := signsL.map V.str) (j := (b / 8).toNat) (v := .str s1) (by rw [List.getElem?_map, es]; rfl)
    rw [show (((b / 8).toNat : Nat) : Int) = b / 8 by omega] at this
    exact this
  refine ⟨_, rfl, _, rfl, s1, _, rfl, fun H1 sm1 => ?_⟩
  cases lo : lowOk s1 (b % 8) with
  | false =>
    rw [lo, if_pos rfl] at qe
    refine ⟨_, rfl, iteT ?_⟩
    refine ⟨_, rfl, rfl, fun dx H2 hd s2 hdx => ?_⟩
    exact qe _ rfl _ dx H2 g_NoCode (sm1.trans s2) (fresh_of sm1 hd) hdx
  | true =>
    rw [lo, if_neg (by simp)] at qo qe
    obtain ⟨t0, t4⟩ := tsz_le lo hs (show 0 ≤ b % 8 by omega)
    refine ⟨_, rfl, iteF ?_⟩
    dsimp only [tNext]
    refine ⟨_, rfl, _, _, rfl, rfl, _, rfl, _, rfl, s1, _, rfl, fun H2 sm2 => ⟨_, _, rfl, rfl, ?_⟩⟩
    have S2 := sm1.trans sm2
    refine ⟨_, rfl, _, rfl, a, _, rfl, .inl (S2.seq hS), _, _, rfl, rfl, _, rfl, ite2 (fun y => ?_) (fun y => ?_)⟩
    · have y' : (((bs.map V.int).length : Nat) : Int) < (i : Int) + 1 + tszK s1 (b % 8) := of_decide_eq_true y
      rw [if_pos (by omega)] at qe
      refine ⟨_, rfl, rfl, fun dx H3 hd s3 hdx => ?_⟩
      exact qe _ rfl _ dx H3 g_NoCode (S2.trans s3) (fresh_of S2 hd) hdx
    · have y' : ¬ (((bs.map V.int).length : Nat) : Int) < (i : Int) + 1 + tszK s1 (b % 8) := fun h => y (decide_eq_true h)
      rw [if_neg (by omega)] at qo qe
      dsimp only [tNext]
      refine ⟨_, rfl, _, rfl, _, rfl, _, rfl, _, _, rfl, rfl, _, rfl, _, rfl, _, rfl, a, _, rfl, S2.seq hS, fun c hc => ?_⟩
      have ec : cutV (bs.map V.int) (some ((i : Int) + 1)) (some ((i : Int) + 1 + tszK s1 (b % 8))) = ((bs.drop (i + 1)).take (tszK s1 (b % 8)).toNat).map V.int := by
        have z := cut_nn (xs := bs.map V.int) (a := i + 1) (b := i + 1 + (tszK s1 (b % 8)).toNat) (by omega) (by omega)
        rw [show (((i + 1 : Nat)) : Int) = (i : Int) + 1 by omega, show (((i + 1 + (tszK s1 (b % 8)).toNat : Nat)) : Int) = (i : Int) + 1 + tszK s1 (b % 8) by omega, show i + 1 + (tszK s1 (b % 8)).toNat - (i + 1) = (tszK s1 (b % 8)).toNat by omega] at z
        rw [z, List.map_take, List.map_drop]
      have ec' : ∀ x y : Int, x = (i : Int) + 1 → y = (i : Int) + 1 + tszK s1 (b % 8) → cutV (bs.map V.int) (some x) (some y) = ((bs.drop (i + 1)).take (tszK s1 (b % 8)).toNat).map V.int := fun x y e1 e2 => by rw [e1, e2]; exact ec
      rw [ec' _ _ rfl rfl]
      have s3 := same_new hc (.lst (((bs.drop (i + 1)).take (tszK s1 (b % 8)).toNat).map V.int))
      have g3 := upd_same (H := H2) (a := c) (o := .lst (((bs.drop (i + 1)).take (tszK s1 (b % 8)).toNat).map V.int))
      generalize upd H2 c _ = H3 at s3 g3 ⊢
      have S3 := S2.trans s3
      refine ⟨_, rfl, s1, b % 8, c, _, (i : Int), rfl, SqL.of g3, hs, by omega, by omega, lo, fun x hx => hb x (List.mem_of_mem_drop (List.mem_of_mem_take hx)), ?_, fun r hr t H4 s4 hT => qo r hr t H4 (S3.trans s4) hT, fun w hw C dx H4 hC s4 hd hdx => qe w hw C dx H4 hC (S3.trans s4) (fresh_of S3 hd) hdx⟩
      rw [List.length_take, List.length_drop]
      omega
theorem sc_rows_of : FnScope ["some", "rows", "starts", "places", "at", "row"] ["some"] (defScope s_rows_of) := ⟨rfl, rfl, rfl, by decide +kernel, rfl, by decide +kernel, by decide +kernel⟩
theorem ok_rows_of {f : Addr} {fd : FuncData} (F : Fun K "rows_of" "rows_of" s_rows_of f fd) (z_len : mg "len" = none) (z_zip : mg "zip" = none) {t_MOST_ROWS : Tok} (g_MOST_ROWS : mg "MOST_ROWS" = some (.int 100 t_MOST_ROWS)) (r_MOST_ROWS : RelV (.int 100) (.int 100 t_MOST_ROWS)) {C_NoCode : Addr} (g_NoCode : mg "NoCode" = some (.ref C_NoCode)) (w_NoCode : PySem.W.ktsIn K C_NoCode "BaseException" = true) (m_NoCode : NewX P w K mg base C_NoCode ["at", "word"]) (h_placed : Has P w K mg base (CX2 P w) "placed" 3 ["row", "places", "at"] (sp_placed K mg)) (h_row_at : Has P w K mg base (CX2 P w) "row_at" 4 ["some", "at"] (sp_row_at K mg)) (h_tail_size : Has P w K mg base CX0 "tail_size" 3 ["sign", "low"] (sp_tail_size K)) : FnOk P w K mg base (CX2 P w) 5 f fd ["some"] (sp_rows_of K mg) := by
  refine F.okF sc_rows_of (fun vs H Q E h => ?_) (fun cdv A outer s H vs Q E hr h => ?_)
  · obtain ⟨a, bs, rfl, hS, hb, qo, qe⟩ := h
    rfl
  obtain ⟨a, bs, rfl, hS, hb, qo, qe⟩ := h
  refine ⟨_, (pss_cons (ps_set (i := 1) sc_rows_of.nd rfl (Or.inl rfl) (pe_lst pa_nil))
      (pss_cons (ps_set (i := 2) sc_rows_of.nd rfl (Or.inl rfl) (pe_lst pa_nil))
      (pss_cons (ps_set (i := 3) sc_rows_of.nd rfl (Or.inr rfl) pe_dnewK)
      (pss_cons (ps_set (i := 4) sc_rows_of.nd rfl (Or.inl rfl) pe_int)
      (pss_cons (ps_while PassesOwn.leaving (pt_cmpR op_lt (pv 4) (pe_callB call_len_seq rfl z_len bt_len (pa_cons (pv 0) pa_nil)) (nomark _)) (pss_cons (ps_if (pt_cmpR op_eq (pe_callB call_len_seq rfl z_len bt_len (pa_cons (pv 1) pa_nil)) (pe_glob rfl g_MOST_ROWS r_MOST_ROWS) (nomark _)) (pss_one (ps_raiseF rzF_cx m_NoCode (hr.mono (by decide)) rfl g_NoCode rfl (pa_cons (pv 4) (pa_cons pe_str pa_nil)))) pss_nil)
      (pss_cons (ps_set (i := 5) sc_rows_of.nd rfl (Or.inl rfl) (pe_chF h_row_at passes2 (hr.mono (by decide)) rfl (pa_cons (pv 0) (pa_cons (pv 4) pa_nil))))
      (pss_cons (ps_dput (hu_of hr) (pv 3) (pv 4) (pe_callB call_len_seq rfl z_len bt_len (pa_cons (pv 1) pa_nil)) rfl)
      (pss_cons (ps_expr (pe_bm PySem.F.plainAttrs_list PySem.F.slot_list_append PySem.F.type_list_append mt_append (pv 2) (pa_cons (pv 4) pa_nil)))
      (pss_cons (ps_expr (pe_bm PySem.F.plainAttrs_list PySem.F.slot_list_append PySem.F.type_list_append mt_append (pv 1) (pa_cons (pv 5) pa_nil)))
      (pss_one (ps_set (i := 4) sc_rows_of.nd rfl (Or.inl rfl) (pe_op op_add (pe_op op_add (pv 4) pe_int) (pe_ch h_tail_size (hr.mono (by decide)) rfl (pa_cons (pe_ix ix_tup (pv 5) pe_int (fun _ _ => rfl)) (pa_cons (pe_op op_and (pe_ix ix_list (pv 0) (pv 4) (fun _ _ => rfl)) pe_int) pa_nil))))))))))))
      (pss_one (ps_ret (pe_lcE 2 ["row", "start", "places"] [3] ⟨rfl, rfl, rfl, rfl, rfl, rfl, rfl, rfl⟩ (pi_zip true true rfl z_zip (pa_cons (pv 1) (pa_cons (pv 2) pa_nil))) (fun _ _ _ _ _ hp => ⟨(show PG _ _ (gTup K 2 _) from (pg_tup rfl (pgs_cons (pg_name (i := 0) (show List.Nodup (["row", "start", "places"] : List Str) by decide +kernel) rfl (Or.inl rfl)) (pgs_cons (pg_name (i := 1) (show List.Nodup (["row", "start", "places"] : List Str) by decide +kernel) rfl (Or.inl rfl)) pgs_nil)))), pif_nil, (pe_chF h_placed hp (hr.mono (by decide)) rfl (pa_cons (pv 0) (pa_cons (pv 2) (pa_cons (pv 1) pa_nil))))⟩) passHeld_cx)))))))), ?_⟩
  have lm : (bs.map V.int).length = bs.length := List.length_map ..
  refine ⟨(by show 0 ≤ sizeLine; decide), fun pr hpr => ?_⟩
  have s1 := same_new hpr (.lst [])
  have g1 := upd_same (H := H) (a := pr) (o := .lst [])
  generalize upd H pr (.lst []) = H1 at s1 g1 ⊢
  refine ⟨(by show 0 ≤ sizeLine; decide), fun ps hps => ?_⟩
  have s2 := same_new hps (.lst [])
  have g2 := upd_same (H := H1) (a := ps) (o := .lst [])
  generalize upd H1 ps (.lst []) = H2 at s2 g2 ⊢
  have n12 : pr ≠ ps := fun e => by rw [← e, g1] at hps; cases hps
  have hpsH := fresh_of s1 hps
  refine fun pd hpd => ?_
  have s3 := same_new hpd (.dK [])
  have g3 := upd_same (H := H2) (a := pd) (o := .dK [])
  generalize upd H2 pd (.dK []) = H3 at s3 g3 ⊢
  have gr3 := s3 _ _ (s2 _ _ g1)
  have gs3 := s3 _ _ g2
  have hpdH := fresh_of (s1.trans s2) hpd
  have S3 := s1.trans (s2.trans s3)
  have nrd : pr ≠ pd := fun e => by rw [e, g3] at gr3; cases gr3
  have nsd : ps ≠ pd := fun e => by rw [e, g3] at gs3; cases gs3
  clear s1 s2 s3 g1 g2 hps hpd
  refine ⟨fun m σ H4 => ∃ (rr : List Ro) (us : List V) (o5 : Option V), σ = [some (.ref a), some (.ref pr), some (.ref ps), some (.ref pd), some (.int (atK rr rr.length : Int)), o5] ∧ m = bs.length - atK rr rr.length ∧ Same H H4 ∧ H4 pr = some (.lst us) ∧ RosAt K H4 us rr ∧ H4 ps = some (.lst ((startsK rr).map V.int)) ∧ H4 pd = some (.dK (plK rr)) ∧ Dec bs rr ∧ goR bs (102 - rr.length) rr = goR bs 102 [], ⟨_, [], [], none, rfl, rfl, S3, gr3, .nil, gs3, g3, Dec.nil, rfl⟩, ?_⟩
  rintro m σ H4 ⟨rr, us, o5, rfl, rfl, s4, gr, hR, gs, gd, hdec, hgo⟩
  have hf := hdec.few
  have ul := hR.1
  refine ⟨_, rfl, _, rfl, a, _, rfl, .inl (s4.seq hS), _, _, rfl, rfl, _, rfl, ite2 (fun z => ?_) (fun z => ?_)⟩
  · have z' : (atK rr rr.length : Int) < (((bs.map V.int).length : Nat) : Int) := of_decide_eq_true z
    have hlt : atK rr rr.length < bs.length := by omega
    obtain ⟨k, hk⟩ : ∃ k, 102 - rr.length = k + 1 := ⟨101 - rr.length, by omega⟩
    rw [hk, goR, if_pos hlt] at hgo
    refine ⟨_, fun _ _ y => y, ?_⟩
    refine ⟨_, rfl, pr, _, rfl, .inl (SqL.of gr), rfl, _, rfl, ?_⟩
    by_cases h100 : rr.length = 100
    · refine ifY (by rw [ul, h100]; rfl) ?_
      rw [if_pos h100] at hgo
      have er : rowsOf bs = .error (atK rr rr.length, "many") := by unfold rowsOf; rw [← hgo]
      refine ⟨_, rfl, rfl, fun dx H5 hd s5 hdx => ?_⟩
      exact qe _ _ er _ dx H5 g_NoCode (s4.trans s5) (fresh_of s4 hd) hdx
    refine ifN (fun e => h100 (by have := V.int.inj e; rw [← ul]; omega)) ?_
    rw [if_neg h100] at hgo
    dsimp only [tNext]
    refine ⟨_, rfl, _, rfl, a, bs, _, rfl, s4.seq hS, hb, hlt, fun r hr' t H5 s5 hT => ?_, fun w hw C dx H5 hC s5 hd hdx => ?_⟩
    · rw [hr'] at hgo
      have hgo : goR bs k (rr ++ [r]) = goR bs 102 [] := hgo
      have hdec' := hdec.snoc hb hlt h100 hr'
      have gr5 := s5 _ _ gr
      have gs5 := s5 _ _ gs
      have gd5 := s5 _ _ gd
      have hR5 := hR.same s5
      have S5 := s4.trans s5
      refine ⟨_, rfl, pr, _, rfl, .inl (SqL.of gr5), _, rfl, _, rfl, pd, _, rfl, DPut.k (k := Sum.inl (atK rr rr.length : Int)) gd5 (by rw [pl_len]; exact small1000 (by omega)), ?_⟩
      rw [ul, pl_put (r := r)]
      have gr6 : upd H5 pd (.dK (plK (rr ++ [r]))) pr = some (.lst us) := by rw [upd_ne nrd]; exact gr5
      have gs6 : upd H5 pd (.dK (plK (rr ++ [r]))) ps = some (.lst ((startsK rr).map V.int)) := by rw [upd_ne nsd]; exact gs5
      have gd6 : upd H5 pd (.dK (plK (rr ++ [r]))) pd = some (.dK (plK (rr ++ [r]))) := upd_same
      have hR6 : RosAt K (upd H5 pd (.dK (plK (rr ++ [r])))) us rr := hR5.updD gd5
      have hT6 : SqT K (upd H5 pd (.dK (plK (rr ++ [r])))) t (roV r) := tup_updD hT gd5
      have S6 : Same H (upd H5 pd (.dK (plK (rr ++ [r])))) := Same_upd S5 hpdH _
      generalize upd H5 pd _ = H6 at gr6 gs6 gd6 hR6 hT6 S6 ⊢
      refine ⟨_, rfl, .inl ⟨rfl, _, SqL.of gs6⟩, _, rfl, ps, _, _, rfl, rfl, gs6, small1000 (by rw [List.length_map, starts_len]; omega), ?_⟩
      have gr7 : upd H6 ps (.lst ((startsK rr).map V.int ++ [.int (atK rr rr.length : Int)])) pr = some (.lst us) := by rw [upd_ne n12]; exact gr6
      have gs7 : upd H6 ps (.lst ((startsK rr).map V.int ++ [.int (atK rr rr.length : Int)])) ps = some (.lst ((startsK (rr ++ [r])).map V.int)) := by rw [upd_same, starts_snoc, List.map_append]; rfl
      have gd7 : upd H6 ps (.lst ((startsK rr).map V.int ++ [.int (atK rr rr.length : Int)])) pd = some (.dK (plK (rr ++ [r]))) := by rw [upd_ne nsd.symm]; exact gd6
      have hR7 : RosAt K (upd H6 ps (.lst ((startsK rr).map V.int ++ [.int (atK rr rr.length : Int)]))) us rr := hR6.updL gs6
      have hT7 : SqT K (upd H6 ps (.lst ((startsK rr).map V.int ++ [.int (atK rr rr.length : Int)]))) t (roV r) := tup_updL hT6 gs6
      have S7 : Same H (upd H6 ps (.lst ((startsK rr).map V.int ++ [.int (atK rr rr.length : Int)]))) := Same_upd S6 hpsH _
      generalize upd H6 ps _ = H7 at gr7 gs7 gd7 hR7 hT7 S7 ⊢
      refine ⟨_, rfl, .inl ⟨rfl, _, SqL.of gr7⟩, _, rfl, pr, _, _, rfl, rfl, gr7, small1000 (by omega), ?_⟩
      have gr8 : upd H7 pr (.lst (us ++ [.ref t])) pr = some (.lst (us ++ [.ref t])) := upd_same
      have gs8 : upd H7 pr (.lst (us ++ [.ref t])) ps = some (.lst ((startsK (rr ++ [r])).map V.int)) := by rw [upd_ne n12.symm]; exact gs7
      have gd8 : upd H7 pr (.lst (us ++ [.ref t])) pd = some (.dK (plK (rr ++ [r]))) := by rw [upd_ne nrd.symm]; exact gd7
      have hR8 : RosAt K (upd H7 pr (.lst (us ++ [.ref t]))) (us ++ [.ref t]) (rr ++ [r]) := (RosAt.snoc hR7 hT7).updL gr7
      have hT8 : SqT K (upd H7 pr (.lst (us ++ [.ref t]))) t (roV r) := tup_updL hT7 gr7
      have S8 : Same H (upd H7 pr (.lst (us ++ [.ref t]))) := Same_upd S7 hpr _
      generalize upd H7 pr _ = H8 at gr8 gs8 gd8 hR8 hT8 S8 ⊢
      obtain ⟨hrok, htail⟩ := rowAt_ok hb hlt hr'
      obtain ⟨tt, ht⟩ := htail
      have hlow := low_le hrok
      have eb : bs[atK rr rr.length]? = some (((8 * signNo (roS r) + lowK r : Nat)) : Int) := by
        have : (bs.drop (atK rr rr.length))[0]? = some (((8 * signNo (roS r) + lowK r : Nat)) : Int) := by rw [ht]; rfl
        rw [List.getElem?_drop] at this
        exact this
      refine ⟨_, rfl, _, _, rfl, rfl, _, rfl, t, _, _, _, rfl, rfl, hT8, atI_nat (j := 0) rfl, _, rfl, _, rfl, a, _, _, _, rfl, rfl, S8.seq hS, atI_nat (by rw [List.getElem?_map, eb]; rfl), _, _, rfl, rfl, roS r, _, rfl, fun H9 s9 => ?_⟩
      refine ⟨_, _, rfl, rfl, ?_⟩
      have la : atK (rr ++ [r]) (rr ++ [r]).length = atK rr rr.length + (1 + tlK r) := by
        rw [List.length_append, List.length_singleton]
        have : (rr ++ [r])[rr.length]? = some r := by rw [List.getElem?_append_right (Nat.le_refl _), Nat.sub_self]; rfl
        rw [at_succ this, at_app _ _ (Nat.le_refl _)]
      have ev : (atK rr rr.length : Int) + 1 + tszK (roS r) (Builtin.bitAnd ((((8 * signNo (roS r) + lowK r : Nat)) : Int)) 7) = (atK (rr ++ [r]) (rr ++ [r]).length : Int) := by
        rw [PyProof.Rows.bitAnd_m3, show ((((8 * signNo (roS r) + lowK r : Nat)) : Int)) % 8 = (lowK r : Int) by omega, tsz_row hrok, la]
        omega
      dsimp only [gName]
      rw [ev]
      have hl8 : (rr ++ [r]).length = rr.length + 1 := by rw [List.length_append]; rfl
      refine ⟨bs.length - atK (rr ++ [r]) (rr ++ [r]).length, by rw [la]; omega, rr ++ [r], us ++ [.ref t], _, rfl, rfl, S8.trans s9, s9 _ _ gr8, hR8.same s9, s9 _ _ gs8, s9 _ _ gd8, hdec', ?_⟩
      rw [hl8, show 102 - (rr.length + 1) = k by omega]
      exact hgo
    · rw [hw] at hgo
      have er : rowsOf bs = .error (atK rr rr.length, w) := by unfold rowsOf; rw [← hgo]
      exact qe _ _ er C dx H5 hC (s4.trans s5) (fresh_of s4 hd) hdx
  · have z' : ¬ (atK rr rr.length : Int) < (((bs.map V.int).length : Nat) : Int) := fun h => z (decide_eq_true h)
    obtain ⟨k, hk⟩ : ∃ k, 102 - rr.length = k + 1 := ⟨101 - rr.length, by omega⟩
    rw [hk, goR, if_neg (by omega)] at hgo
    have er : rowsOf bs = plcGo rr 0 rr := by unfold rowsOf; rw [← hgo]
    rw [er] at qo qe
    have sl := starts_len rr
    refine ⟨_, rfl, _, rfl, pr, ps, us, _, rfl, SqL.of gr, SqL.of gs, fun D hD => ?_⟩
    have hDH := fresh_of s4 hD
    refine lc_zip rr.length (fun i zs H5 => Same H4 H5 ∧ H5 D = some (.lst zs) ∧ ∃ qs, RosAt K H5 zs qs ∧ qs.length = i ∧ plcGo rr 0 rr = (plcGo rr i (rr.drop i)).map (qs ++ ·)) (Nat.le_of_lt (small1000 (by omega))) (by omega) (by rw [List.length_map, sl]; exact Nat.le_refl _) (.inl (by omega)) ⟨same_new hD _, upd_same, [], .nil, rfl, by rw [List.drop_zero, map_nil]⟩ ?_ ?_ ?_
    · rintro i zs H5 hi ⟨s5, d5, qs, hq, hl, he⟩
      exact ⟨d5, by rw [hq.1, hl]; exact Nat.le_refl _, s5.seq (SqL.of gr), s5.seq (SqL.of gs)⟩
    · rintro i u v zs H5 T hu hv hi ⟨s5, d5, qs, hq, hl, he⟩ hTn
      obtain ⟨r, t, hr', rfl, hT⟩ := hR.item hu
      rw [List.getElem?_map] at hv
      have hs' : (startsK rr)[i]? = some (atK rr i : Int) := by
        unfold startsK
        rw [List.getElem?_map, List.getElem?_range hi]
        rfl
      rw [hs'] at hv
      cases hv
      have ed : rr.drop i = r :: rr.drop (i + 1) := by
        obtain ⟨h1, h2⟩ := List.getElem?_eq_some_iff.mp hr'
        rw [List.drop_eq_getElem_cons h1, h2]
      have sT := same_new hTn (.tup [.ref t, .int (atK rr i : Int)])
      have gT := upd_same (H := H5) (a := T) (o := .tup [.ref t, .int (atK rr i : Int)])
      generalize upd H5 T _ = H6 at sT gT ⊢
      have S6 := s5.trans sT
      refine ⟨T, _, rfl, SqT.of gT, rfl, _, _, rfl, _, _, rfl, rfl, rfl, ?_⟩
      refine ⟨_, rfl, _, rfl, _, rfl, t, pd, r, rr, _, rfl, S6.tup hT, (hdec.row i r hr').1, S6 _ _ gd, fun q hq' t' H7 s7 hT7 => ?_, fun hn C dx H7 hC s7 hd hdx => ?_⟩
      · refine ⟨s7 _ _ (sT _ _ d5), Same_upd (S6.trans s7) hD _, upd_same, qs ++ [q], ?_, by rw [List.length_append, hl]; rfl, ?_⟩
        · exact (RosAt.snoc ((hq.same sT).same s7) hT7).updL (s7 _ _ (sT _ _ d5))
        · rw [he, ed, plc_step hq', map_map]
      · have eE : plcGo rr 0 rr = .error (atK rr i, "amid") := by
          rw [he, ed, plcGo, hn]
          rfl
        exact qe _ _ eE C dx H7 hC (s4.trans (S6.trans s7)) (fresh_of (s4.trans S6) hd) hdx
    · rintro zs H5 ⟨s5, d5, qs, hq, hl, he⟩
      rw [List.drop_of_length_le (Nat.le_refl _), plcGo] at he
      have he : plcGo rr 0 rr = .ok qs := by rw [he]; show Except.ok (qs ++ []) = _; rw [List.append_nil]
      exact qo qs he D zs H5 (s4.trans s5) hDH d5 hq
theorem sc__law_told : FnScope ["_law_some", "_law_kept", "_law_caught", "e"] ["_law_some"] (defScope s_law_told) := ⟨rfl, rfl, rfl, by decide +kernel, rfl, by decide +kernel, by decide +kernel⟩
theorem ok__law_told {f : Addr} {fd : FuncData} (F : Fun K "_law_told" "_law_told" s_law_told f fd) (z_ValueError : mg "ValueError" = none) (z_bool : mg "bool" = none) (z_isinstance : mg "isinstance" = none) (z_list : mg "list" = none) {C_NoCode : Addr} (g_NoCode : mg "NoCode" = some (.ref C_NoCode)) (w_NoCode : PySem.W.ktsIn K C_NoCode "BaseException" = true) {C_NoRow : Addr} (g_NoRow : mg "NoRow" = some (.ref C_NoRow)) (w_NoRow : PySem.W.ktsIn K C_NoRow "BaseException" = true) {C_Nought : Addr} (g_Nought : mg "Nought" = some (.ref C_Nought)) (e_Nought : PySem.W.excIn K C_Nought bmVE "ValueError.__new__" = true) (w_Nought : PySem.W.ktsIn K C_Nought "BaseException" = true) {C_WardenError : Addr} (g_WardenError : mg "WardenError" = some (.ref C_WardenError)) (e_WardenError : PySem.W.excIn K C_WardenError bmVE "ValueError.__new__" = true) (w_WardenError : PySem.W.ktsIn K C_WardenError "BaseException" = true) (h_rows_of : Has P w K mg base (CX2 P w) "rows_of" 5 ["some"] (sp_rows_of K mg)) (kx1_NoCode : PySem.W.findIn K (.ref C_NoCode) "__getattribute__" = some (some (.builtin "BaseException.__getattribute__"))) (kx2_NoCode : PySem.W.findIn K (.ref C_NoCode) "__getattr__" = some none) (kx3_NoCode : PySem.W.findIn K (.ref C_NoCode) "__class__" = some (some (.builtin "object.__class__"))) (kx4_NoCode : PySem.W.mroIn K C_NoCode (.type "BaseException") = some true) (kx5_NoCode : PySem.W.mroIn K C_NoCode (.type "object") = some true) (kx6_NoCode : PySem.W.hasDictIn K C_NoCode = true) (m_CW : PySem.W.mroIn K C_NoCode (.ref C_WardenError) = some true) (na_NoCode1 : PySem.W.findIn K (.ref C_NoCode) "at" = some none) (na_NoCode2 : PySem.W.findIn K (.ref C_NoCode) "word" = some none) (i_CC : PySem.W.kitOne K (.ref C_NoCode) (.ref C_NoCode) = some true) (i_CV : PySem.W.kitOne K (.ref C_NoCode) (.type "ValueError") = some true) (i_CR : PySem.W.kitOne K (.ref C_NoCode) (.ref C_NoRow) = some false) (i_CN : PySem.W.kitOne K (.ref C_NoCode) (.ref C_Nought) = some false) : FnOk P w K mg base CX0 6 f fd ["_law_some"] (sp_law_told K) := by
  refine F.ok sc__law_told (fun vs H Q E h => ?_) (fun cdv A outer s H vs Q E hr h => ?_)
  · obtain ⟨a, bs, i, w, rfl, hS, hb, hw, q⟩ := h
    rfl
  obtain ⟨a, bs, i, w, rfl, hS, hb, hw, q⟩ := h
  refine ⟨_, (pss_cons (ps_set (i := 1) sc__law_told.nd rfl (Or.inl rfl) (pe_callTy call_list_of rfl z_list bt_list (pa_cons (pv 0) pa_nil)))
      (pss_cons (ps_set (i := 2) sc__law_told.nd rfl (Or.inl rfl) pe_non)
      (pss_cons (ps_tryF (i := 3) h_rows_of (hr.mono (by decide)) rfl (fun _ => (pa_cons (pv 0) pa_nil)) rfl g_WardenError w_WardenError sc__law_told.nd rfl rfl (fun _ _ => (pss_one (ps_set (i := 2) sc__law_told.nd rfl (Or.inl rfl) (pv 3)))))
      (pss_cons (ps_if (PW.pt (pw_or (pt_cmpR (op_neD (hr.units)) (pv 0) (pv 1) (nomark _)) (pw_or (pt_not (pt_val (pe_callB call_isiG rfl z_isinstance bt_isinstance (pa_cons (pv 2) (pa_cons (pe_glob (v := .ref C_NoCode) rfl g_NoCode rfl) pa_nil))))) (pw_or1 (pt_not (pt_val (pe_callB call_isiG rfl z_isinstance bt_isinstance (pa_cons (pv 2) (pa_cons (pe_bltn (v := .ty "ValueError") rfl z_ValueError bt_ValueError rfl) pa_nil))))))))) (pss_one (ps_ret pe_non)) pss_nil)
      (pss_cons (ps_if (PW.pt (pw_or (pt_val (pe_callB call_isiG rfl z_isinstance bt_isinstance (pa_cons (pv 2) (pa_cons (pe_glob (v := .ref C_NoRow) rfl g_NoRow rfl) pa_nil)))) (pw_or (pt_val (pe_callB call_isiG rfl z_isinstance bt_isinstance (pa_cons (pv 2) (pa_cons (pe_glob (v := .ref C_Nought) rfl g_Nought rfl) pa_nil)))) (pw_or1 (pt_val (pe_callB call_isi rfl z_isinstance bt_isinstance (pa_cons (pe_xf (pv 2) rfl) (pa_cons (pe_bltn (v := .ty "bool") rfl z_bool bt_bool rfl) pa_nil)))))))) (pss_one (ps_ret pe_non)) pss_nil)
      (pss_one (ps_ret (pe_tup (pa_cons (pe_xf (pv 2) rfl) (pa_cons (pe_xf (pv 2) rfl) pa_nil)))))))))), ?_⟩
  have kx : KX K C_NoCode := ⟨kx1_NoCode, kx2_NoCode, kx3_NoCode, kx4_NoCode, kx5_NoCode⟩
  refine ⟨_, rfl, a, _, rfl, .inl hS, fun k hk => ?_⟩
  have s0 := same_new hk (.lst (bs.map V.int))
  have g0 := upd_same (H := H) (a := k) (o := .lst (bs.map V.int))
  generalize upd H k _ = H0 at s0 g0 ⊢
  refine ⟨_, rfl, a, bs, rfl, s0.seq hS, hb, fun rs hrs => (by rw [hw] at hrs; cases hrs), fun i' w' hw' C dx H1 hC s1 hdx gd => ?_⟩
  rw [hw] at hw'
  cases hw'
  rw [g_NoCode] at hC
  cases hC
  refine ⟨C_NoCode, rfl, m_CW, fun e he => ?_⟩
  have s2 := same_new he (.ext (XcD C_NoCode e (some dx)))
  have g2 := upd_same (H := H1) (a := e) (o := .ext (XcD C_NoCode e (some dx)))
  generalize upd H1 e _ = H2 at s2 g2 ⊢
  have gd2 := s2 _ _ gd
  have S2 := s0.trans (s1.trans s2)
  have gk2 := s2 _ _ (s1 _ _ g0)
  refine ⟨_, rfl, ?_⟩
  refine ⟨_, rfl, _, rfl, _, _, RdV.lst' (S2.seq hS) (rd_ints _), RdV.lst' (SqL.of gk2) (rd_ints _), ints_ok _, ints_ok _, ?_⟩
  rw [ints_self]
  refine ⟨_, rfl, iteF ?_⟩
  refine ⟨_, rfl, e, C_NoCode, _, .ref C_NoCode, _, _, rfl, g2, xcd_exc, kx, kx6_NoCode, rfl, i_CC, ?_⟩
  refine ⟨_, rfl, iteF ?_⟩
  refine ⟨_, rfl, e, C_NoCode, _, .type "ValueError", _, _, rfl, g2, xcd_exc, kx, kx6_NoCode, rfl, i_CV, ?_⟩
  refine ⟨_, rfl, iteF ?_⟩
  dsimp only [tNext]
  refine ⟨_, rfl, e, C_NoCode, _, .ref C_NoRow, _, _, rfl, g2, xcd_exc, kx, kx6_NoCode, rfl, i_CR, ?_⟩
  refine ⟨_, rfl, iteF ?_⟩
  refine ⟨_, rfl, e, C_NoCode, _, .ref C_Nought, _, _, rfl, g2, xcd_exc, kx, kx6_NoCode, rfl, i_CN, ?_⟩
  refine ⟨_, rfl, iteF ?_⟩
  refine ⟨_, rfl, e, C_NoCode, dx, _, _, _, rfl, g2, xcd_xg, gd2, kx, kx6_NoCode, na_NoCode1, rfl, ?_⟩
  refine ⟨_, _, _, _, rfl, .int _, rfl, _, rfl, iteF ?_⟩
  dsimp only [tNext]
  refine ⟨_, rfl, e, C_NoCode, dx, _, _, _, rfl, g2, xcd_xg, gd2, kx, kx6_NoCode, na_NoCode1, rfl, ?_⟩
  refine ⟨_, rfl, e, C_NoCode, dx, _, _, _, rfl, g2, xcd_xg, gd2, kx, kx6_NoCode, na_NoCode2, rfl, ?_⟩
  refine ⟨(by show 2 ≤ sizeLine; decide), fun t ht => ?_⟩
  exact q t _ (S2.trans (same_new ht _)) (SqT.of upd_same)
theorem sc__law_amid : FnScope ["_law_script", "_law_rows_here", "_law_chunks", "_law_cell_here", "_law_at", "_law_sign", "_law_ahead", "_law_starts_here", "_law_more", "_law_end", "_law_other", "_law_goals", "_law_goal", "_law_some", "_law_row_here", "_law_chunk_here", "_law_where"] ["_law_script", "_law_rows_here"] (defScope s_law_amid) := ⟨rfl, rfl, rfl, by decide +kernel, rfl, by decide +kernel, by decide +kernel⟩
theorem ok__law_amid {f : Addr} {fd : FuncData} (F : Fun K "_law_amid" "_law_amid" s_law_amid f fd) (z_int : mg "int" = none) (z_len : mg "len" = none) (z_zip : mg "zip" = none) (h__law_cell : Has P w K mg base CX0 "_law_cell" 1 ["_law_script", "_law_k"] (sp_law_cell K)) (h__law_chunk : Has P w K mg base CX0 "_law_chunk" 2 ["_law_row_here"] (sp_law_chunk K)) (h__law_ended : Has P w K mg base CX0 "_law_ended" 1 ["_law_number", "_law_size_here"] (sp_law_ended K)) (h__law_starts : Has P w K mg base CX0 "_law_starts" 1 ["_law_chunks"] (sp_law_starts K)) (h__law_told : Has P w K mg base CX0 "_law_told" 6 ["_law_some"] (sp_law_told K)) : FnOk P w K mg base CX0 7 f fd ["_law_script", "_law_rows_here"] (sp_law_amid K) := by
  refine F.ok sc__law_amid (fun vs H Q E h => ?_) (fun cdv A outer s H vs Q E hr h => ?_)
  · obtain ⟨a, p, ns, us, rs, rfl, hA, hP, hR, hok, h1, h31, q⟩ := h
    rfl
  obtain ⟨a, p, ns, us, rs, rfl, hA, hP, hR, hok, h1, h31, q⟩ := h
  refine ⟨_, (pss_cons (ps_setLC (i := 2) sc__law_amid.nd rfl (Or.inl rfl) 1 ["_law_row_here"] [] ⟨rfl, rfl, rfl, rfl, rfl, rfl, rfl, rfl⟩ (pi_list (pv 1)) (fun _ _ _ _ => ⟨(pg_name (i := 0) (show List.Nodup (["_law_row_here"] : List Str) by decide +kernel) rfl (Or.inl rfl)), pif_nil, (pe_ch h__law_chunk (hr.mono (by decide)) rfl (pa_cons (pv 0) pa_nil))⟩))
      (pss_cons (ps_set (i := 3) sc__law_amid.nd rfl (Or.inl rfl) (pe_ch h__law_cell (hr.mono (by decide)) rfl (pa_cons (pv 0) (pa_cons pe_int pa_nil))))
      (pss_cons (ps_set (i := 4) sc__law_amid.nd rfl (Or.inl rfl) (pe_op op_mod (pv 3) (pe_op op_add (pe_callB call_len_seq rfl z_len bt_len (pa_cons (pv 1) pa_nil)) pe_int)))
      (pss_cons (ps_set (i := 5) sc__law_amid.nd rfl (Or.inl rfl) (pe_ix ix_list (pe_lst (pa_cons (pe_op op_mul pe_int pe_int) (pa_cons (pe_op op_mul pe_int pe_int) (pa_cons (pe_op op_add (pe_op op_mul pe_int pe_int) (pe_op op_mod (pe_op op_fdiv (pv 3) pe_int) pe_int)) pa_nil)))) (pe_op op_mod (pe_op op_fdiv (pv 3) pe_int) pe_int) (fun _ _ => rfl)))
      (pss_cons (ps_set (i := 6) sc__law_amid.nd rfl (Or.inl rfl) (pe_op op_catS (pe_op op_catS (pe_slice sl_list (pv 1) po_none (po_some (pv 4))) (pe_lst (pa_cons (pe_tup (pa_cons pe_str (pa_cons pe_int pa_nil))) pa_nil))) (pe_slice sl_list (pv 1) (po_some (pv 4)) po_none)))
      (pss_cons (ps_set (i := 2) sc__law_amid.nd rfl (Or.inl rfl) (pe_op op_catS (pe_op op_catS (pe_slice sl_list (pv 2) po_none (po_some (pv 4))) (pe_lst (pa_cons (pe_lst (pa_cons (pv 5) (pa_cons pe_int (pa_cons pe_int pa_nil)))) pa_nil))) (pe_slice sl_list (pv 2) (po_some (pv 4)) po_none)))
      (pss_cons (ps_set (i := 7) sc__law_amid.nd rfl (Or.inl rfl) (pe_ch h__law_starts (hr.mono (by decide)) rfl (pa_cons (pv 2) pa_nil)))
      (pss_cons (ps_set (i := 8) sc__law_amid.nd rfl (Or.inl rfl) (pe_op op_rep (pe_lst (pa_cons (pe_op op_mul pe_int pe_int) (pa_cons pe_int (pa_cons pe_int pa_nil)))) (pe_op op_mod (pe_ch h__law_cell (hr.mono (by decide)) rfl (pa_cons (pv 0) (pa_cons pe_int pa_nil))) pe_int)))
      (pss_cons (ps_set (i := 9) sc__law_amid.nd rfl (Or.inl rfl) (pe_op op_add (pe_op op_add (pe_ix ix_list (pv 7) (pe_un un_neg pe_int) (fun _ _ => rfl)) (pe_callB call_len_seq rfl z_len bt_len (pa_cons (pe_ix ix_list (pv 2) (pe_un un_neg pe_int) (fun _ _ => rfl)) pa_nil))) (pe_callB call_len_seq rfl z_len bt_len (pa_cons (pv 8) pa_nil))))
      (pss_cons (ps_set (i := 10) sc__law_amid.nd rfl (Or.inl rfl) (pe_op op_mod (pe_ch h__law_cell (hr.mono (by decide)) rfl (pa_cons (pv 0) (pa_cons pe_int pa_nil))) (pe_callB call_len_seq rfl z_len bt_len (pa_cons (pv 2) pa_nil))))
      (pss_cons (ps_set (i := 11) sc__law_amid.nd rfl (Or.inl rfl) (pe_lst (pa_cons (pv 9) (pa_cons pe_int (pa_cons (pe_op op_add (pe_ix ix_list (pv 7) (pv 4) (fun _ _ => rfl)) pe_int) (pa_cons (pe_op op_add (pe_ix ix_list (pv 7) (pv 4) (fun _ _ => rfl)) pe_int) pa_nil))))))
      (pss_cons (ps_expr (pe_bm PySem.F.plainAttrs_list PySem.F.slot_list_append PySem.F.type_list_append mt_append (pv 11) (pa_cons (pe_op op_add (pv 9) (pe_op op_mod (pe_op op_fdiv (pv 3) pe_int) pe_int)) pa_nil)))
      (pss_cons (ps_expr (pe_bm PySem.F.plainAttrs_list PySem.F.slot_list_append PySem.F.type_list_append mt_append (pv 11) (pa_cons (pv 9) pa_nil)))
      (pss_cons (ps_set (i := 12) sc__law_amid.nd rfl (Or.inl rfl) (pe_ix ix_list (pv 11) (pe_op op_mod (pe_op op_fdiv (pv 3) pe_int) pe_int) (fun _ _ => rfl)))
      (pss_cons (ps_if (PW.pt (pw_and (pt_cmpR op_eq (pe_op op_mod (pe_op op_fdiv (pv 3) pe_int) pe_int) pe_int (nomark _)) (pw_and1 (pt_cmpR op_gt (pe_callB call_len_seq rfl z_len bt_len (pa_cons (pe_ix ix_list (pv 2) (pv 10) (fun _ _ => rfl)) pa_nil)) pe_int (nomark _))))) (pss_one (ps_set (i := 12) sc__law_amid.nd rfl (Or.inl rfl) (pe_op op_add (pe_op op_add (pe_ix ix_list (pv 7) (pv 10) (fun _ _ => rfl)) pe_int) (pe_op op_mod (pe_op op_fdiv (pv 3) pe_int) (pe_op op_sub (pe_callB call_len_seq rfl z_len bt_len (pa_cons (pe_ix ix_list (pv 2) (pv 10) (fun _ _ => rfl)) pa_nil)) pe_int))))) pss_nil)
      (pss_cons (ps_set (i := 13) sc__law_amid.nd rfl (Or.inl rfl) (pe_lst pa_nil))
      (pss_cons (ps_for PassesOwn.never rfl (pi_zip true true rfl z_zip (pa_cons (pv 6) (pa_cons (pv 2) pa_nil))) (pg_tup rfl (pgs_cons (pg_name (i := 14) sc__law_amid.nd rfl (Or.inl rfl)) (pgs_cons (pg_name (i := 15) sc__law_amid.nd rfl (Or.inl rfl)) pgs_nil))) (pss_cons (ps_if (pt_cmpR op_in_seq (pe_ix ix_tup (pv 14) pe_int (fun _ _ => rfl)) (pe_tup (pa_cons pe_str (pa_cons pe_str (pa_cons pe_str pa_nil)))) rfl) (pss_cons (ps_set (i := 16) sc__law_amid.nd rfl (Or.inl rfl) (pe_op op_add (pe_ix ix_tup (pv 14) (pe_un un_neg pe_int) (fun _ _ => rfl)) (pe_callTy call_int1 rfl z_int bt_int (pa_cons (pe_cmpR op_ge (pe_ix ix_tup (pv 14) (pe_un un_neg pe_int) (fun _ _ => rfl)) (pv 4) (nomark _)) pa_nil))))
      (pss_one (ps_set (i := 15) sc__law_amid.nd rfl (Or.inl rfl) (pe_op op_catS (pe_slice sl_list (pv 15) po_none (po_some pe_int)) (pe_ch h__law_ended (hr.mono (by decide)) rfl (pa_cons (pe_ix ix_list (pv 7) (pv 16) (fun _ _ => rfl)) (pa_cons pe_int pa_nil))))))) pss_nil)
      (pss_one (ps_set (i := 13) sc__law_amid.nd rfl (Or.inl rfl) (pe_op op_catS (pv 13) (pv 15))))))
      (pss_cons (ps_set (i := 13) sc__law_amid.nd rfl (Or.inl rfl) (pe_op op_catS (pe_op op_catS (pe_op op_catS (pe_slice sl_list (pv 13) po_none (po_some (pe_ix ix_list (pv 7) (pv 4) (fun _ _ => rfl)))) (pe_lst (pa_cons (pv 5) pa_nil))) (pe_ch h__law_ended (hr.mono (by decide)) rfl (pa_cons (pv 12) (pa_cons pe_int pa_nil)))) (pe_slice sl_list (pv 13) (po_some (pe_op op_add (pe_ix ix_list (pv 7) (pv 4) (fun _ _ => rfl)) pe_int)) po_none)))
      (pss_one (ps_ret (pe_cmpR (op_eqD (hr.units)) (pe_ch h__law_told (hr.mono (by decide)) rfl (pa_cons (pe_op op_catS (pv 13) (pv 8)) pa_nil)) (pe_tup (pa_cons (pe_ix ix_list (pv 7) (pv 4) (fun _ _ => rfl)) (pa_cons pe_str pa_nil))) (nomark _)))))))))))))))))))))), ?_⟩
  have ul : us.length = rs.length := hR.1
  have kn : ("amid" : Str) ∈ codeW := by decide +kernel
  refine ⟨_, rfl, p, rfl, ⟨_, hP⟩, fun D hD => ?_⟩
  refine lc_list (xs := us) (fun i ys H3 => Same H H3 ∧ H3 D = some (.lst ys) ∧ ChX H3 D ys (rs.take i)) (few_sizeLine (by omega)) ⟨same_new hD _, upd_same, .nil⟩ ?_ ?_ ?_
  · rintro i ys H3 hi ⟨s3, g3, hC⟩
    refine ⟨g3, ?_, s3.seq hP⟩
    rw [hC.1, List.length_take]
    omega
  · rintro i x ys H3 hx ⟨s3, g3, hC⟩
    obtain ⟨r, t, hr', rfl, hT⟩ := hR.item hx
    refine ⟨rfl, _, rfl, t, r, rs.length, rfl, s3.tup hT, hok r (List.mem_of_getElem? hr'), fun c H4 s4 n4 g4 => ⟨s4 _ _ g3, Same_upd (s3.trans s4) hD _, upd_same, ?_⟩⟩
    rw [List.take_add_one, hr']
    exact hC.step g3 s4 n4 g4
  rintro ws H1 ⟨s1, gD, hC⟩
  rw [List.take_of_length_le (by omega)] at hC
  have hCA : ChAt K H1 ws rs := hC.at_
  have wl := hCA.1
  clear hC hD
  refine ⟨_, rfl, a, ns, _, rfl, s1.seq hA, by decide, by decide, fun v1 H2 s2 => ?_⟩
  have S2 := s1.trans s2
  obtain ⟨k, ek, lk⟩ := modN (e := v1) (n := rs.length + 1) (by omega)
  have hk : k ≤ rs.length := by omega
  have ek : v1 % (((us.length : Nat) : Int) + 1) = (k : Int) := by rw [ul]; exact ek
  refine ⟨_, rfl, _, rfl, p, _, rfl, .inl (S2.seq hP), _, _, rfl, rfl, _, _, rfl, rfl, (by show (0 : Int) < (((us.length : Nat) : Int)) + 1; omega), ?_⟩
  dsimp only [gName]
  rw [ek]
  clear ek lk
  obtain ⟨b, X, hbx, hX⟩ := goes_at (v1 / 31) (v1 / 5 % 8) (by omega)
  refine ⟨_, _, rfl, rfl, .inl ⟨by decide, by decide⟩, _, _, rfl, rfl, .inl ⟨by decide, by decide⟩, _, _, rfl, rfl, .inl ⟨by decide, by decide⟩, _, rfl, _, _, rfl, rfl, ⟨by decide, by decide⟩, _, _, rfl, rfl, (by show (0 : Int) < 8; decide), _, _, rfl, rfl, (by show 3 ≤ sizeLine; decide), fun D2 hD2 => ?_⟩
  refine ⟨_, rfl, _, _, rfl, rfl, ⟨by decide, by decide⟩, _, _, rfl, rfl, (by show (0 : Int) < 3; decide), D2, _, _, .int b, rfl, rfl, SqL.of upd_same, hbx, ?_⟩
  have s3 := same_new hD2 (.lst [.int (8 * 13), .int (8 * 14), .int (8 * 15 + v1 / 5 % 8)])
  generalize upd H2 D2 _ = H3 at s3 ⊢
  have S3 := S2.trans s3
  have gD3 := s3 _ _ (s2 _ _ gD)
  have hC3 := (hCA.same s2).same s3
  clear hbx hD2 s2 s3 gD hCA s1 S2
  refine ⟨_, rfl, _, rfl, _, rfl, p, _, rfl, S3.seq hP, fun c1 q1 => ?_⟩
  rw [cut_take]
  have u1 := same_new q1 (.lst (us.take k))
  have g1 := upd_same (H := H3) (a := c1) (o := .lst (us.take k))
  generalize upd H3 c1 _ = H4 at u1 g1 ⊢
  refine ⟨(by show 2 ≤ sizeLine; decide), fun tj qj => ?_⟩
  have u2 := same_new qj (.tup [.str "jump", .int 0])
  have g2 := upd_same (H := H4) (a := tj) (o := .tup [.str "jump", .int 0])
  generalize upd H4 tj _ = H5 at u2 g2 ⊢
  refine ⟨(by show 1 ≤ sizeLine; decide), fun c2 q2 => ?_⟩
  have u3 := same_new q2 (.lst [.ref tj])
  have g3 := upd_same (H := H5) (a := c2) (o := .lst [.ref tj])
  generalize upd H5 c2 _ = H6 at u3 g3 ⊢
  refine ⟨c1, c2, _, _, rfl, rfl, SqL.of (u3 _ _ (u2 _ _ g1)), SqL.of g3, few_sizeLine (by simp; omega), fun c3 q3 => ?_⟩
  have u4 := same_new q3 (.lst (us.take k ++ [.ref tj]))
  have g4 := upd_same (H := H6) (a := c3) (o := .lst (us.take k ++ [.ref tj]))
  generalize upd H6 c3 _ = H7 at u4 g4 ⊢
  have U4 := u1.trans (u2.trans (u3.trans u4))
  refine ⟨_, rfl, _, rfl, _, rfl, p, _, rfl, (S3.trans U4).seq hP, fun c4 q4 => ?_⟩
  rw [cut_drop (by omega)]
  have u5 := same_new q4 (.lst (us.drop k))
  have g5 := upd_same (H := H7) (a := c4) (o := .lst (us.drop k))
  generalize upd H7 c4 _ = H8 at u5 g5 ⊢
  refine ⟨c3, c4, _, _, rfl, rfl, SqL.of (u5 _ _ g4), SqL.of g5, few_sizeLine (by simp; omega), fun pa q5 => ?_⟩
  have u6 := same_new q5 (.lst (us.take k ++ [.ref tj] ++ us.drop k))
  have g6 := upd_same (H := H8) (a := pa) (o := .lst (us.take k ++ [.ref tj] ++ us.drop k))
  generalize upd H8 pa _ = H9 at u6 g6 ⊢
  have U9 := U4.trans (u5.trans u6)
  have S9 := S3.trans U9
  have hRA : AtP (fun t r => SqT K H9 t (roV r)) (us.take k ++ [.ref tj] ++ us.drop k) (insK rs k (.pla "jump" 0)) := at_ins (hR.same S9) hk (SqT.of (u6 _ _ (u5 _ _ (u4 _ _ (u3 _ _ g2)))))
  have hRA : RosAt K H9 (us.take k ++ [.ref tj] ++ us.drop k) (insK rs k (.pla "jump" 0)) := hRA
  have gD9 := U9 _ _ gD3
  have hC9 := hC3.same U9
  generalize hua : us.take k ++ [V.ref tj] ++ us.drop k = ua at hRA g6
  clear u1 u2 u3 u4 u5 u6 g1 g2 g3 g4 g5 q1 q2 q3 q4 q5 qj U4 U9 hC3 gD3 S3 hua
  refine ⟨_, rfl, _, rfl, _, rfl, D, _, rfl, SqL.of gD9, fun c1 q1 => ?_⟩
  rw [cut_take]
  have u1 := same_new q1 (.lst (ws.take k))
  have g1 := upd_same (H := H9) (a := c1) (o := .lst (ws.take k))
  generalize upd H9 c1 _ = H10 at u1 g1 ⊢
  refine ⟨_, rfl, (by show 3 ≤ sizeLine; decide), fun pl ql => ?_⟩
  have u2 : Same H10 (upd H10 pl (.lst [.int b, .int 0, .int 0])) := same_new ql _
  have g2 : upd H10 pl (.lst [.int b, .int 0, .int 0]) pl = some (.lst ((chunkK (X 0)).map V.int)) := by rw [upd_same, hX.chunk]; rfl
  generalize upd H10 pl _ = H11 at u2 g2 ⊢
  refine ⟨(by show 1 ≤ sizeLine; decide), fun c2 q2 => ?_⟩
  have u3 := same_new q2 (.lst [.ref pl])
  have g3 := upd_same (H := H11) (a := c2) (o := .lst [.ref pl])
  generalize upd H11 c2 _ = H12 at u3 g3 ⊢
  refine ⟨c1, c2, _, _, rfl, rfl, SqL.of (u3 _ _ (u2 _ _ g1)), SqL.of g3, few_sizeLine (by simp; omega), fun c3 q3 => ?_⟩
  have u4 := same_new q3 (.lst (ws.take k ++ [.ref pl]))
  have g4 := upd_same (H := H12) (a := c3) (o := .lst (ws.take k ++ [.ref pl]))
  generalize upd H12 c3 _ = H13 at u4 g4 ⊢
  have U4 := u1.trans (u2.trans (u3.trans u4))
  refine ⟨_, rfl, _, rfl, _, rfl, D, _, rfl, SqL.of (U4 _ _ gD9), fun c4 q4 => ?_⟩
  rw [cut_drop (by omega)]
  have u5 := same_new q4 (.lst (ws.drop k))
  have g5 := upd_same (H := H13) (a := c4) (o := .lst (ws.drop k))
  generalize upd H13 c4 _ = H14 at u5 g5 ⊢
  refine ⟨c3, c4, _, _, rfl, rfl, SqL.of (u5 _ _ g4), SqL.of g5, few_sizeLine (by simp; omega), fun pc q5 => ?_⟩
  have u6 := same_new q5 (.lst (ws.take k ++ [.ref pl] ++ ws.drop k))
  have g6' := upd_same (H := H14) (a := pc) (o := .lst (ws.take k ++ [.ref pl] ++ ws.drop k))
  generalize upd H14 pc _ = H15 at u6 g6' ⊢
  have U15 := U4.trans (u5.trans u6)
  have S15 := S9.trans U15
  have hCC : AtP (fun t r => SqL K H15 t ((chunkK r).map V.int)) (ws.take k ++ [.ref pl] ++ ws.drop k) (insK rs k (X 0)) := at_ins (hC9.same U15) hk (SqL.of (u6 _ _ (u5 _ _ (u4 _ _ (u3 _ _ g2)))))
  have hCC : ChAt K H15 (ws.take k ++ [.ref pl] ++ ws.drop k) (insK rs k (X 0)) := hCC
  have ga15 := U15 _ _ g6
  have hRA15 := hRA.same U15
  generalize hwa : ws.take k ++ [V.ref pl] ++ ws.drop k = wa at hCC g6'
  clear u1 u2 u3 u4 u5 u6 g1 g2 g3 g4 g5 q1 q2 q3 q4 q5 ql U4 U15 hC9 gD9 S9 hRA g6 hwa
  have il := ins_len hk (X 0)
  have okx := ins_tl hok hk hX
  have wal := hCC.1
  refine ⟨_, rfl, pc, wa, _, _, rfl, SqL.of g6', hCC, okx, by omega, fun st H16 s16 n16 g16 => ?_⟩
  have S16 := S15.trans s16
  have ga16 := s16 _ _ ga15
  have hRA16 := hRA15.same s16
  have gc16 := s16 _ _ g6'
  have hCC16 := hCC.same s16
  clear ga15 hRA15 g6' hCC s16 n16 S15
  refine ⟨_, _, rfl, rfl, .inl ⟨by decide, by decide⟩, (by show 3 ≤ sizeLine; decide), fun l1 ql1 => ?_⟩
  have u1 := same_new ql1 (.lst (([8 * 13, 255, 254] : List Int).map V.int))
  have g1 : upd H16 l1 (.lst [.int (8 * 13), .int 255, .int 254]) l1 = some (.lst (([8 * 13, 255, 254] : List Int).map V.int)) := upd_same
  have u1 : Same H16 (upd H16 l1 (.lst [.int (8 * 13), .int 255, .int 254])) := u1
  generalize upd H16 l1 _ = H17 at u1 g1 ⊢
  refine ⟨_, rfl, a, ns, _, rfl, (S16.trans u1).seq hA, by decide, by decide, fun v2 H18 s18 => ?_⟩
  obtain ⟨j, ej, lj⟩ := modN (e := v2) (n := 2) (by decide)
  have ej : v2 % 2 = (j : Int) := ej
  obtain ⟨mo1, mo2, mo3⟩ := mo_by lj
  refine ⟨_, _, rfl, rfl, (by show (0 : Int) < 2; decide), l1, _, _, rfl, rfl, s18 _ _ g1, by omega, by omega, ?_, fun pm qm => ?_⟩
  · show 3 * (v2 % 2).toNat ≤ sizeLine
    exact few_sizeLine (by omega)
  have em : (List.replicate (v2 % 2).toNat (([8 * 13, 255, 254] : List Int).map V.int)).flatten = (rawsBy (moR j)).map V.int := by
    rw [← mo1, ej, Int.toNat_natCast, List.map_flatten, List.map_replicate]
  rw [em]
  have u2 := same_new qm (.lst ((rawsBy (moR j)).map V.int))
  have gm := upd_same (H := H18) (a := pm) (o := .lst ((rawsBy (moR j)).map V.int))
  generalize upd H18 pm _ = H19 at u2 gm ⊢
  have U19 := u1.trans (s18.trans u2)
  have S19 := S16.trans U19
  have gst := U19 _ _ g16
  have ga := U19 _ _ ga16
  have hRA19 := hRA16.same U19
  have gc := U19 _ _ gc16
  have hC19 := hCC16.same U19
  clear u1 s18 u2 g1 U19 S16 g16 ga16 hRA16 gc16 hCC16 em ql1 qm ej
  obtain ⟨rl, hrl⟩ : ∃ r, (insK rs k (X 0))[rs.length]? = some r := ⟨_, List.getElem?_eq_getElem (by omega)⟩
  obtain ⟨cl, hcl, hcl2⟩ := hC19.2 _ _ hrl
  have fu := at_full il hrl
  have cll := chunk_len (okx rl (List.mem_of_getElem? hrl))
  have clm : ((chunkK rl).map V.int).length = (chunkK rl).length := List.length_map ..
  have mlm : ((rawsBy (moR j)).map V.int).length = (rawsBy (moR j)).length := List.length_map ..
  have sk {H' : Hp} (s' : Same H19 H') : SqL K H' st ((startsK (insK rs k (X 0))).map V.int) := SqL.of (s' _ _ gst)
  have ck {H' : Hp} (s' : Same H19 H') : SqL K H' pc wa := SqL.of (s' _ _ gc)
  have s0 := Same.refl H19
  have atk : atI ((startsK (insK rs k (X 0))).map V.int) (k : Int) = some (.int (atK (insK rs k (X 0)) k : Int)) := atI_nat (starts_at (by omega))
  refine ⟨_, rfl, _, rfl, st, _, _, _, rfl, rfl, sk s0, atI_last (starts_last il), _, rfl, _, rfl, pc, _, _, _, rfl, rfl, ck s0, atI_end (wal.trans il) hcl, cl, _, rfl, .inl hcl2, _, _, rfl, rfl, _, rfl, pm, _, rfl, .inl (SqL.of gm), _, _, rfl, rfl, ?_⟩
  obtain ⟨Z, hZ⟩ : ∃ Z, Z = atK (insK rs k (X 0)) (insK rs k (X 0)).length + (rawsBy (moR j)).length := ⟨_, rfl⟩
  have eZ : ((atK (insK rs k (X 0)) rs.length : Nat) : Int) + ((((chunkK rl).map V.int).length : Nat) : Int) + ((((rawsBy (moR j)).map V.int).length : Nat) : Int) = (Z : Int) := by omega
  dsimp only [gName]
  rw [eZ]
  have mo5 := raws_few (rr := moR j)
  have ale := at_le (insK rs k (X 0)) (insK rs k (X 0)).length (Nat.le_refl _)
  have alk := at_le (insK rs k (X 0)) k (by omega)
  clear eZ hcl hcl2 cll clm fu hrl
  refine ⟨_, rfl, a, ns, _, rfl, S19.seq hA, by decide, by decide, fun v3 H20 s20 => ⟨_, rfl, pc, _, rfl, .inl (ck s20), _, _, rfl, rfl, (by show (0 : Int) < ((wa.length : Nat) : Int); omega), ?_⟩⟩
  obtain ⟨o, eo, lo⟩ := modN (e := v3) (n := wa.length) (by omega)
  dsimp only [gName]
  rw [eo]
  clear eo
  refine ⟨_, rfl, _, rfl, _, rfl, st, _, _, _, rfl, rfl, sk s20, atk, _, _, rfl, rfl, _, rfl, _, rfl, st, _, _, _, rfl, rfl, sk s20, atk, _, _, rfl, rfl, (by show 4 ≤ sizeLine; decide), fun pg qg => ?_⟩
  have qg0 := fresh_of s20 qg
  have u1 : Same H19 (upd H20 pg (.lst [.int (Z : Int), .int 65535, .int ((atK (insK rs k (X 0)) k : Int) + 1), .int ((atK (insK rs k (X 0)) k : Int) + 2)])) := s20.trans (same_new qg _)
  have g1 : upd H20 pg (.lst [.int (Z : Int), .int 65535, .int ((atK (insK rs k (X 0)) k : Int) + 1), .int ((atK (insK rs k (X 0)) k : Int) + 2)]) pg = _ := upd_same
  generalize upd H20 pg _ = H21 at u1 g1 ⊢
  dsimp only [gName]
  refine ⟨_, rfl, .inl ⟨rfl, _, SqL.of g1⟩, _, rfl, _, rfl, _, _, rfl, rfl, ⟨by decide, by decide⟩, _, _, rfl, rfl, (by show (0 : Int) < 400; decide), _, _, rfl, rfl, pg, _, _, rfl, rfl, g1, (by show 4 < sizeLine; decide), ?_⟩
  have u2 := Same_upd u1 qg0 (.lst (([.int (Z : Int), .int 65535, .int ((atK (insK rs k (X 0)) k : Int) + 1), .int ((atK (insK rs k (X 0)) k : Int) + 2)] : List V) ++ [.int ((Z : Int) + v1 / 97 % 400)]))
  have g2 := upd_same (H := H21) (a := pg) (o := .lst (([.int (Z : Int), .int 65535, .int ((atK (insK rs k (X 0)) k : Int) + 1), .int ((atK (insK rs k (X 0)) k : Int) + 2)] : List V) ++ [.int ((Z : Int) + v1 / 97 % 400)]))
  generalize upd H21 pg _ = H22 at u2 g2 ⊢
  refine ⟨_, rfl, .inl ⟨rfl, _, SqL.of g2⟩, _, rfl, pg, _, _, rfl, rfl, g2, (by show 5 < sizeLine; decide), ?_⟩
  have u3 := Same_upd u2 qg0 (.lst (([.int (Z : Int), .int 65535, .int ((atK (insK rs k (X 0)) k : Int) + 1), .int ((atK (insK rs k (X 0)) k : Int) + 2)] : List V) ++ [.int ((Z : Int) + v1 / 97 % 400)] ++ [.int (Z : Int)]))
  have g3 := upd_same (H := H22) (a := pg) (o := .lst (([.int (Z : Int), .int 65535, .int ((atK (insK rs k (X 0)) k : Int) + 1), .int ((atK (insK rs k (X 0)) k : Int) + 2)] : List V) ++ [.int ((Z : Int) + v1 / 97 % 400)] ++ [.int (Z : Int)]))
  generalize upd H22 pg _ = H23 at u3 g3 ⊢
  have k3 : atK (insK rs k (X 0)) (k + 1) = atK (insK rs k (X 0)) k + 3 := by
    obtain ⟨ra, rc, rq, _, e2, _, _⟩ := rel_at hok h1 hk hX (i := k) (by omega)
    have tk : (rs.take k).length = k := by rw [List.length_take]; omega
    have e3 : (insK rs k (X 0))[k]? = some (X 0) := by
      show (rs.take k ++ [X 0] ++ rs.drop k)[k]? = _
      rw [List.append_assoc, List.getElem?_append_right (by omega), tk, Nat.sub_self]; rfl
    rw [at_succ e3, hX.tl]
  obtain ⟨g, hat, hAm, hg⟩ := goal_at (x := v1 / 97 % 400) (y := v1 / 93 % 6) hZ (by omega) (by omega : k < (insK rs k (X 0)).length) k3 (by omega) (by omega) (by omega)
  refine ⟨_, rfl, _, rfl, _, _, rfl, rfl, ⟨by decide, by decide⟩, _, _, rfl, rfl, (by show (0 : Int) < 6; decide), pg, _, _, .int (g : Int), rfl, rfl, SqL.of g3, hat, ?_⟩
  clear u1 u2 g1 g2 g3 hat s20 qg
  dsimp only [gName]
  refine cutR (R := ?R1) (fun σ' H' => ∃ g : Nat, H' = H23 ∧ Amid (insK rs k (X 0)) (rawsBy (moR j)).length g ∧ g < 65536 ∧ σ' = [some (.ref a), some (.ref p), some (.ref pc), some (.int v1), some (.int (k : Int)), some (.int b), some (.ref pa), some (.ref st), some (.ref pm), some (.int (Z : Int)), some (.int (o : Int)), some (.ref pg), some (.int (g : Int)), none, none, none, none]) (fun kk => ?m1) ?k1
  case m1 =>
    refine ⟨_, rfl, _, _, rfl, rfl, ⟨by decide, by decide⟩, _, _, rfl, rfl, (by show (0 : Int) < 6; decide), rfl, _, rfl, ite2 (fun z1 => ?_) (fun _ => ?_)⟩
    · obtain ⟨ro, hro⟩ : ∃ r, (insK rs k (X 0))[o]? = some r := ⟨_, List.getElem?_eq_getElem (by omega)⟩
      obtain ⟨co, hco, hco2⟩ := hC19.2 _ _ hro
      have col := chunk_len (okx ro (List.mem_of_getElem? hro))
      have com : ((chunkK ro).map V.int).length = (chunkK ro).length := List.length_map ..
      have hco2 := u3.seq hco2
      refine ⟨_, rfl, _, rfl, pc, _, _, _, rfl, rfl, ck u3, atI_nat hco, co, _, rfl, .inl hco2, _, _, rfl, rfl, _, rfl, ite2 (fun z2 => ?_) (fun _ => ?_)⟩
      · have z2' : (1 : Int) < ((((chunkK ro).map V.int).length : Nat) : Int) := of_decide_eq_true z2
        obtain ⟨d, ed, ld⟩ := modN (e := v1 / 560) (n := tlK ro) (by omega)
        have ed : v1 / 560 % (((((chunkK ro).map V.int).length : Nat) : Int) - 1) = (d : Int) := by
          rw [show ((((chunkK ro).map V.int).length : Nat) : Int) - 1 = (tlK ro : Int) by omega]
          exact ed
        refine ⟨_, rfl, _, rfl, st, _, _, _, rfl, rfl, sk u3, atI_nat (starts_at (by omega)), _, _, rfl, rfl, _, rfl, _, _, rfl, rfl, ⟨by decide, by decide⟩, _, rfl, _, rfl, pc, _, _, _, rfl, rfl, ck u3, atI_nat hco, co, _, rfl, .inl hco2, _, _, rfl, rfl, _, _, rfl, rfl, (by show (0 : Int) < ((((chunkK ro).map V.int).length : Nat) : Int) - 1; omega), _, _, rfl, rfl, ?_⟩
        have eg : ((atK (insK rs k (X 0)) o : Nat) : Int) + 1 + v1 / 560 % (((((chunkK ro).map V.int).length : Nat) : Int) - 1) = ((atK (insK rs k (X 0)) o + 1 + d : Nat) : Int) := by rw [ed]; omega
        dsimp only [gName]
        rw [eg]
        have so := at_succ hro
        have aol := at_le (insK rs k (X 0)) o (by omega)
        have tl4 := tl_le ro
        exact kk _ _ ⟨atK (insK rs k (X 0)) o + 1 + d, rfl, .inr ⟨o, by omega, by omega, by omega⟩, by omega, rfl⟩
      · dsimp only [tNext]
        exact kk _ _ ⟨g, rfl, hAm, hg, rfl⟩
    · refine iteF ?_
      dsimp only [tNext]
      exact kk _ _ ⟨g, rfl, hAm, hg, rfl⟩
  rintro σ' H23 ⟨g, rfl, hAm, hg, rfl⟩
  have ga23 := u3 _ _ ga
  have hRA23 := hRA19.same u3
  have hC23 := hC19.same u3
  have S23 := S19.trans u3
  have gm23 := u3 _ _ gm
  have gst23 := u3 _ _ gst
  have gc23 := u3 _ _ gc
  clear sk ck s0 u3 S19 ga hRA19 hC19 gm gst gc
  have lpl : (rawsLp rs k X).length = rs.length + 1 := by
    have : (rawsLp rs k X).length = (insK rs k (X 0)).length := by unfold rawsLp insK; simp
    omega
  refine ⟨(by show 0 ≤ sizeLine; decide), fun l hl => ?_⟩
  have s2 := same_new hl (.lst [])
  have g2 := upd_same (H := H23) (a := l) (o := .lst [])
  generalize upd H23 l (.lst []) = H24 at s2 g2 ⊢
  have S24 := S23.trans s2
  have ga24 := s2 _ _ ga23
  have hRA24 := hRA23.same s2
  have hC24 := hC23.same s2
  have gm24 := s2 _ _ gm23
  have gst24 := s2 _ _ gst23
  have gc24 := s2 _ _ gc23
  clear s2 hl ga23 hRA23 hC23 gm23 gst23 gc23 S23
  have sk {H' : Hp} (s' : Same H24 H') : SqL K H' st ((startsK (insK rs k (X 0))).map V.int) := SqL.of (s' _ _ gst24)
  dsimp only [gName]
  refine ⟨_, rfl, _, rfl, pa, pc, ua, wa, rfl, SqL.of ga24, SqL.of gc24, ?_⟩
  have ual := hRA24.1
  have il2 := ins_len hk (Ro.pla "jump" 0)
  refine for_zip (rs.length + 1) (fun i σ H3 => ∃ (p3 : Addr) (o4 o5 o6 : Option V), σ = [some (.ref a), some (.ref p), some (.ref pc), some (.int v1), some (.int (k : Int)), some (.int b), some (.ref pa), some (.ref st), some (.ref pm), some (.int (Z : Int)), some (.int (o : Int)), some (.ref pg), some (.int (g : Int)), some (.ref p3), o4, o5, o6] ∧ Same H24 H3 ∧ H3 p3 = some (.lst ((rawsBy ((rawsLp rs k X).take i)).map V.int))) (by omega) (by omega) (.inr (by omega)) ⟨l, none, none, none, rfl, Same.refl _, g2⟩ ?_ ?_ ?_
  · rintro i σ H3 hi ⟨p3, o4, o5, o6, rfl, s3, g3⟩
    exact ⟨SqL.of (s3 _ _ ga24), SqL.of (s3 _ _ gc24)⟩
  · rintro i u v σ H3 T hu hv hi ⟨p3, o4, o5, o6, rfl, s3, g3⟩ hTn
    obtain ⟨ra', t, hr1, rfl, hT⟩ := hRA24.item hu
    obtain ⟨rc', c, hr2, rfl, hc⟩ := hC24.item hv
    obtain ⟨ra, rc, rq, e1, e2, e3, rel⟩ := rel_at hok h1 hk hX hi
    rw [hr1] at e1
    cases e1
    rw [hr2] at e2
    cases e2
    have bf := raws_few (rr := (rawsLp rs k X).take i)
    rw [List.length_take] at bf
    have rql := raw_len rq
    have tl4 := tl_le rq
    have sT := same_new hTn (.tup [.ref t, .ref c])
    have gT := upd_same (H := H3) (a := T) (o := .tup [.ref t, .ref c])
    generalize upd H3 T _ = H4 at sT gT ⊢
    have s4 := s3.trans sT
    refine ⟨T, _, rfl, SqT.of gT, rfl, _, _, rfl, _, _, rfl, rfl, ?_⟩
    have g4 := sT _ _ g3
    have hT4 := s4.tup hT
    have hc4 := s4.seq hc
    refine cutR (R := ?R2) (fun σ' H' => ∃ (p5 : Addr) (o6 : Option V), Same H4 H' ∧ SqL K H' p5 ((rawBy rq).map V.int) ∧ σ' = [some (.ref a), some (.ref p), some (.ref pc), some (.int v1), some (.int (k : Int)), some (.int b), some (.ref pa), some (.ref st), some (.ref pm), some (.int (Z : Int)), some (.int (o : Int)), some (.ref pg), some (.int (g : Int)), some (.ref p3), some (.ref t), some (.ref p5), o6]) (fun kk => ?m2) ?k2
    case m2 =>
      refine ⟨_, rfl, t, _, _, _, rfl, rfl, hT4, atI_nat (j := 0) rfl, (by show 3 ≤ sizeLine; decide), fun t2 ht2 => ⟨t2, _, rfl, .inr (SqT.of upd_same), rfl, rfl, _, rfl, ?_⟩⟩
      have s5 := same_new ht2 (.tup [.str "jump", .str "zero", .str "kin"])
      generalize upd H4 t2 (.tup [.str "jump", .str "zero", .str "kin"]) = H5 at s5 ⊢
      refine stepL (l := ["jump", "zero", "kin"]) (fun z => ?_) (fun z => ?_)
      · cases rel with
        | st hs hq => exact absurd z hs
        | go pp hs hl hp b' l' hc' hq =>
          refine ⟨_, rfl, _, rfl, t, _, _, _, rfl, rfl, s5.tup hT4, hl, _, rfl, _, rfl, t, _, _, _, rfl, rfl, s5.tup hT4, hl, _, rfl, _, _, rfl, rfl, .inr ⟨_, rfl, _, _, rfl, rfl, ?_⟩⟩
          have ead : (pp : Int) + (if decide ((k : Int) ≤ (pp : Int)) = true then 1 else 0) = ((adjK k pp : Nat) : Int) := by
            unfold adjK
            by_cases y : k ≤ pp
            · rw [if_pos (by rw [decide_eq_true (by omega)]), if_pos y]; omega
            · rw [if_neg (by rw [decide_eq_false (by omega)]; simp), if_neg y]; omega
          have had : adjK k pp < (insK rs k (X 0)).length := by unfold adjK; split <;> omega
          dsimp only [gName]
          rw [ead]
          refine ⟨_, rfl, _, rfl, c, _, rfl, s5.seq hc4, fun c1 h1 => ?_⟩
          have ec : cutV ((chunkK rc').map V.int) none (some 1) = [.int b'] := by rw [hc']; exact cut_head1
          rw [ec]
          have s6 := same_new h1 (.lst [.int b'])
          have g6 := upd_same (H := H5) (a := c1) (o := .lst [.int b'])
          generalize upd H5 c1 _ = H6 at s6 g6 ⊢
          have S6 := s5.trans s6
          refine ⟨_, rfl, _, rfl, st, _, _, _, rfl, rfl, sk (s4.trans S6), atI_nat (starts_at had), _, 2, rfl, by decide, fun c2 H7 s7 n7 g7 => ?_⟩
          refine ⟨c1, c2, _, _, rfl, rfl, SqL.of (s7 _ _ g6), SqL.of g7, (few_sizeLine (by simp [split_len])), fun c3 h3 => ?_⟩
          dsimp only [gName]
          refine kk _ _ ⟨c3, _, S6.trans (s7.trans (same_new h3 _)), ?_, rfl⟩
          rw [hq]
          exact SqL.of upd_same
      · cases rel with
        | go pp hs => exact absurd hs z
        | st hs hq =>
          dsimp only [tNext]
          refine kk _ _ ⟨c, _, s5, ?_, rfl⟩
          rw [hq]
          exact s5.seq hc4
    rintro σ' H5 ⟨p5, o6', s5, h5, rfl⟩
    refine ⟨_, rfl, _, rfl, p3, p5, _, _, rfl, rfl, SqL.of (s5 _ _ g4), h5, few_sizeLine (by rw [List.length_map, List.length_map]; omega), fun p6 h6 => ?_⟩
    refine ⟨p6, _, _, _, rfl, s4.trans (s5.trans (same_new h6 _)), ?_⟩
    rw [upd_same, raws_succ e3, List.map_append]
  rintro σ H25 ⟨p3, o4, o5, o6, rfl, s25, g25⟩
  rw [List.take_of_length_le (by omega)] at g25
  obtain ⟨lc, lc2⟩ := loop_cut hk hX g
  have rlf := raws_few (rr := rawsLp rs k X)
  have rlm : ((rawsBy (rawsLp rs k X)).map V.int).length = (rawsBy (rawsLp rs k X)).length := List.length_map ..
  refine ⟨_, rfl, _, rfl, _, rfl, st, _, _, _, rfl, rfl, sk s25, atk, _, rfl, p3, _, rfl, SqL.of g25, fun c1 q1 => ?_⟩
  rw [cut_take, ← List.map_take]
  have u1 := same_new q1 (.lst (((rawsBy (rawsLp rs k X)).take (atK (insK rs k (X 0)) k)).map V.int))
  have g1 := upd_same (H := H25) (a := c1) (o := .lst (((rawsBy (rawsLp rs k X)).take (atK (insK rs k (X 0)) k)).map V.int))
  generalize upd H25 c1 _ = H26 at u1 g1 ⊢
  refine ⟨_, rfl, (by show 1 ≤ sizeLine; decide), fun c2 q2 => ?_⟩
  have u2 : Same H26 (upd H26 c2 (.lst [.int b])) := same_new q2 _
  have g2' : upd H26 c2 (.lst [.int b]) c2 = some (.lst (([b] : List Int).map V.int)) := upd_same
  generalize upd H26 c2 _ = H27 at u2 g2' ⊢
  refine ⟨c1, c2, _, _, rfl, rfl, SqL.of (u2 _ _ g1), SqL.of g2', few_sizeLine (by have := List.length_take_le (atK (insK rs k (X 0)) k) (rawsBy (rawsLp rs k X)); simp only [List.length_map, List.length_append, List.length_cons, List.length_nil, split_len, List.length_drop]; omega), fun c3 q3 => ?_⟩
  rw [← List.map_append]
  have u3 := same_new q3 (.lst (((rawsBy (rawsLp rs k X)).take (atK (insK rs k (X 0)) k) ++ [b]).map V.int))
  have g3 := upd_same (H := H27) (a := c3) (o := .lst (((rawsBy (rawsLp rs k X)).take (atK (insK rs k (X 0)) k) ++ [b]).map V.int))
  generalize upd H27 c3 _ = H28 at u3 g3 ⊢
  refine ⟨_, rfl, _, 2, rfl, by decide, fun c4 H29 u4 n4 g4 => ?_⟩
  refine ⟨c3, c4, _, _, rfl, rfl, SqL.of (u4 _ _ g3), SqL.of g4, few_sizeLine (by have := List.length_take_le (atK (insK rs k (X 0)) k) (rawsBy (rawsLp rs k X)); simp only [List.length_map, List.length_append, List.length_cons, List.length_nil, split_len, List.length_drop]; omega), fun c5 q5 => ?_⟩
  rw [← List.map_append]
  have u5 := same_new q5 (.lst (((rawsBy (rawsLp rs k X)).take (atK (insK rs k (X 0)) k) ++ [b] ++ splitK (g : Int) 2).map V.int))
  have g5 := upd_same (H := H29) (a := c5) (o := .lst (((rawsBy (rawsLp rs k X)).take (atK (insK rs k (X 0)) k) ++ [b] ++ splitK (g : Int) 2).map V.int))
  generalize upd H29 c5 _ = H30 at u5 g5 ⊢
  have U30 := u1.trans (u2.trans (u3.trans (u4.trans u5)))
  refine ⟨_, rfl, _, rfl, _, rfl, st, _, _, _, rfl, rfl, sk (s25.trans U30), atk, _, _, rfl, rfl, _, rfl, p3, _, rfl, SqL.of (U30 _ _ g25), fun c6 q6 => ?_⟩
  have ek3 : ((atK (insK rs k (X 0)) k : Nat) : Int) + 3 = ((atK (insK rs k (X 0)) k + 3 : Nat) : Int) := by omega
  rw [ek3, cut_drop (by omega), ← List.map_drop]
  have u6 := same_new q6 (.lst (((rawsBy (rawsLp rs k X)).drop (atK (insK rs k (X 0)) k + 3)).map V.int))
  have g6 := upd_same (H := H30) (a := c6) (o := .lst (((rawsBy (rawsLp rs k X)).drop (atK (insK rs k (X 0)) k + 3)).map V.int))
  generalize upd H30 c6 _ = H31 at u6 g6 ⊢
  refine ⟨c5, c6, _, _, rfl, rfl, SqL.of (u6 _ _ g5), SqL.of g6, few_sizeLine (by have := List.length_take_le (atK (insK rs k (X 0)) k) (rawsBy (rawsLp rs k X)); simp only [List.length_map, List.length_append, List.length_cons, List.length_nil, split_len, List.length_drop]; omega), fun c7 q7 => ?_⟩
  rw [← List.map_append, lc]
  have u7 := same_new q7 (.lst ((rawsBy (rawsIn rs k X g [])).map V.int))
  have g7 := upd_same (H := H31) (a := c7) (o := .lst ((rawsBy (rawsIn rs k X g [])).map V.int))
  generalize upd H31 c7 _ = H32 at u7 g7 ⊢
  have U32 := s25.trans (U30.trans (u6.trans u7))
  dsimp only [gName]
  have er : rawsBy (rawsIn rs k X g []) ++ rawsBy (moR j) = rawsBy (rawsIn rs k X g (moR j)) := by
    rw [← raws_app]
    congr 1
    unfold rawsIn
    rw [List.append_nil]
  have erl : (rawsBy (rawsIn rs k X g (moR j))).length ≤ 300 := by
    have h1 := raws_few (rr := rawsIn rs k X g (moR j))
    have h2 : (rawsIn rs k X g (moR j)).length = (insK rs k (X 0)).length + (moR j).length := by unfold rawsIn insK; simp; omega
    omega
  refine ⟨_, rfl, _, rfl, c7, pm, _, _, rfl, rfl, SqL.of g7, SqL.of (U32 _ _ gm24), few_sizeLine (by rw [List.length_map, List.length_map, ← List.length_append, er]; omega), fun l5 h5 => ?_⟩
  rw [← List.map_append, er]
  have s8 := same_new h5 (.lst ((rawsBy (rawsIn rs k X g (moR j))).map V.int))
  have g8 := upd_same (H := H32) (a := l5) (o := .lst ((rawsBy (rawsIn rs k X g (moR j))).map V.int))
  generalize upd H32 l5 _ = H33 at s8 g8 ⊢
  refine ⟨l5, _, _, "amid", rfl, SqL.of g8, raws_byt (rin_ok hok (by omega) hk hX hg mo2), amid_err hok (by omega) hk hX hg mo2 mo3 (amid_no hk hX hAm), fun t5 H34 s9 hT5 => ?_⟩
  have U34 := U32.trans (s8.trans s9)
  refine ⟨_, rfl, _, rfl, st, _, _, _, rfl, rfl, sk U34, atk, (by show 2 ≤ sizeLine; decide), fun t6 h6 => ?_⟩
  have s10 := same_new h6 (.tup [.int (atK (insK rs k (X 0)) k : Int), .str "amid"])
  have g10 := upd_same (H := H34) (a := t6) (o := .tup [.int (atK (insK rs k (X 0)) k : Int), .str "amid"])
  generalize upd H34 t6 _ = H35 at s10 g10 ⊢
  refine ⟨_, _, RdV.tup' (s10.tup hT5) (.cons (.int _) (.cons (.str _) .nil)), RdV.tup' (SqT.of g10) (.cons (.int _) (.cons (.str _) .nil)), iw_ok _ kn, iw_ok _ kn, ?_⟩
  rw [iw_self _ kn]
  exact q H35 (S24.trans (U34.trans s10))
theorem sc__law_bytes : FnScope ["_law_rows_here", "_law_chunks", "_law_starts_here", "_law_some", "_law_row_here", "_law_chunk_here"] ["_law_rows_here", "_law_chunks"] (defScope s_law_bytes) := ⟨rfl, rfl, rfl, by decide +kernel, rfl, by decide +kernel, by decide +kernel⟩
theorem ok__law_bytes {f : Addr} {fd : FuncData} (F : Fun K "_law_bytes" "_law_bytes" s_law_bytes f fd) (z_zip : mg "zip" = none) (h__law_ended : Has P w K mg base CX0 "_law_ended" 1 ["_law_number", "_law_size_here"] (sp_law_ended K)) (h__law_starts : Has P w K mg base CX0 "_law_starts" 1 ["_law_chunks"] (sp_law_starts K)) : FnOk P w K mg base CX0 2 f fd ["_law_rows_here", "_law_chunks"] (sp_law_bytes K) := by
  refine F.ok sc__law_bytes (fun vs H Q E h => ?_) (fun cdv A outer s H vs Q E hr h => ?_)
  · obtain ⟨a, b, us, ws, rs, rfl, hS, hR, hS2, hC, hok, h1, q⟩ := h
    rfl
  obtain ⟨a, b, us, ws, rs, rfl, hS, hR, hS2, hC, hok, h1, q⟩ := h
  refine ⟨_, (pss_cons (ps_set (i := 2) sc__law_bytes.nd rfl (Or.inl rfl) (pe_ch h__law_starts (hr.mono (by decide)) rfl (pa_cons (pv 1) pa_nil)))
      (pss_cons (ps_set (i := 3) sc__law_bytes.nd rfl (Or.inl rfl) (pe_lst pa_nil))
      (pss_cons (ps_for PassesOwn.never rfl (pi_zip true true rfl z_zip (pa_cons (pv 0) (pa_cons (pv 1) pa_nil))) (pg_tup rfl (pgs_cons (pg_name (i := 4) sc__law_bytes.nd rfl (Or.inl rfl)) (pgs_cons (pg_name (i := 5) sc__law_bytes.nd rfl (Or.inl rfl)) pgs_nil))) (pss_cons (ps_if (pt_cmpR op_in_seq (pe_ix ix_tup (pv 4) pe_int (fun _ _ => rfl)) (pe_tup (pa_cons pe_str (pa_cons pe_str (pa_cons pe_str pa_nil)))) rfl) (pss_one (ps_set (i := 5) sc__law_bytes.nd rfl (Or.inl rfl) (pe_op op_catS (pe_slice sl_list (pv 5) po_none (po_some pe_int)) (pe_ch h__law_ended (hr.mono (by decide)) rfl (pa_cons (pe_ix ix_list (pv 2) (pe_ix ix_tup (pv 4) (pe_un un_neg pe_int) (fun _ _ => rfl)) (fun _ _ => rfl)) (pa_cons pe_int pa_nil)))))) pss_nil)
      (pss_one (ps_set (i := 3) sc__law_bytes.nd rfl (Or.inl rfl) (pe_op op_catS (pv 3) (pv 5))))))
      (pss_one (ps_ret (pv 3)))))), ?_⟩
  refine ⟨_, rfl, b, ws, rs, _, rfl, hS2, hC, hok, by omega, fun st H1 s1 n1 g1 => ?_⟩
  refine ⟨(by show 0 ≤ sizeLine; decide), fun l hl => ?_⟩
  have s2 := same_new hl (.lst [])
  have g2 := upd_same (H := H1) (a := l) (o := .lst [])
  generalize upd H1 l (.lst []) = H2 at s2 g2 ⊢
  have gs2 := s2 _ _ g1
  have S2 := s1.trans s2
  have hlH := fresh_of s1 hl
  clear s1 s2 g1 hl
  refine ⟨_, rfl, _, rfl, a, b, us, ws, rfl, S2.seq hS, S2.seq hS2, ?_⟩
  refine for_zip rs.length (fun i σ H3 => ∃ (p3 : Addr) (o4 o5 : Option V), σ = [some (.ref a), some (.ref b), some (.ref st), some (.ref p3), o4, o5] ∧ Same H2 H3 ∧ H p3 = none ∧ H3 p3 = some (.lst ((byK rs i).map V.int))) (by rw [hR.1]; exact Nat.le_refl _) (by rw [hC.1]; exact Nat.le_refl _) (.inl (by rw [hR.1]; exact Nat.le_refl _)) ⟨l, none, none, rfl, Same.refl _, hlH, by rw [by_zero]; exact g2⟩ ?_ ?_ ?_
  · rintro i σ H3 hi ⟨p3, o4, o5, rfl, s3, np, g3⟩
    exact ⟨s3.seq (S2.seq hS), s3.seq (S2.seq hS2)⟩
  · rintro i u v σ H3 T hu hv hi ⟨p3, o4, o5, rfl, s3, np, g3⟩ hTn
    obtain ⟨r, t, hr', rfl, hT⟩ := hR.item hu
    obtain ⟨r2, c, hr2, rfl, hc⟩ := hC.item hv
    rw [hr'] at hr2
    cases hr2
    have ok := hok r (List.mem_of_getElem? hr')
    have bf := by_few rs (i := i) (by omega)
    have tl4 := tl_le r
    have sT := same_new hTn (.tup [.ref t, .ref c])
    have gT := upd_same (H := H3) (a := T) (o := .tup [.ref t, .ref c])
    generalize upd H3 T _ = H4 at sT gT ⊢
    have S4 := S2.trans (s3.trans sT)
    refine ⟨T, _, rfl, SqT.of gT, rfl, _, _, rfl, _, _, rfl, rfl, ?_⟩
    have g4 := sT _ _ g3
    have s4 := s3.trans sT
    have hT4 := S4.tup hT
    have hc4 := S4.seq hc
    refine cutR (R := ?R) (fun σ' H' => ∃ p5, Same H4 H' ∧ SqL K H' p5 ((rowBy rs r).map V.int) ∧ σ' = [some (.ref a), some (.ref b), some (.ref st), some (.ref p3), some (.ref t), some (.ref p5)]) (fun kk => ?mm) ?kk
    case mm =>
      refine ⟨_, rfl, t, _, _, _, rfl, rfl, hT4, atI_nat (j := 0) rfl, (by show 3 ≤ sizeLine; decide), fun t2 ht2 => ⟨t2, _, rfl, .inr (SqT.of upd_same), rfl, rfl, _, rfl, ?_⟩⟩
      have s5 := same_new ht2 (.tup [.str "jump", .str "zero", .str "kin"])
      generalize upd H4 t2 (.tup [.str "jump", .str "zero", .str "kin"]) = H5 at s5 ⊢
      refine stepL (l := ["jump", "zero", "kin"]) (fun z => ?_) (fun z => ?_)
      · obtain ⟨p, e1, e2, e3, e4⟩ := due_place ok z rs
        refine ⟨_, rfl, _, rfl, c, _, rfl, s5.seq hc4, fun c1 h1 => ?_⟩
        have ec : cutV ((chunkK r).map V.int) none (some 1) = [.int ((8 * signNo (roS r) + lowK r : Nat) : Int)] := cut_head1
        rw [ec]
        have s6 := same_new h1 (.lst [.int ((8 * signNo (roS r) + lowK r : Nat) : Int)])
        have g6 := upd_same (H := H5) (a := c1) (o := .lst [.int ((8 * signNo (roS r) + lowK r : Nat) : Int)])
        generalize upd H5 c1 _ = H6 at s6 g6 ⊢
        have S6 := s5.trans s6
        refine ⟨_, rfl, _, rfl, _, rfl, t, _, _, _, rfl, rfl, S6.tup hT4, e1, st, _, _, _, rfl, rfl, SqL.of (S6 _ _ (s4 _ _ gs2)), atI_nat (starts_at e2), _, 2, rfl, by decide, fun c2 H7 s7 n7 g7 => ?_⟩
        refine ⟨c1, c2, _, _, rfl, rfl, SqL.of (s7 _ _ g6), SqL.of g7, (few_sizeLine (by simp [split_len])), fun c3 h3 => ?_⟩
        dsimp only [gName]
        refine kk _ _ ⟨c3, S6.trans (s7.trans (same_new h3 _)), ?_, rfl⟩
        have er : rowBy rs r = [((8 * signNo (roS r) + lowK r : Nat) : Int)] ++ splitK (atK rs p : Int) 2 := by
          unfold rowBy
          rw [e3, e4]
          rfl
        rw [er, List.map_append]
        exact SqL.of upd_same
      · dsimp only [tNext]
        refine kk _ _ ⟨c, s5, ?_, rfl⟩
        rw [chunk_row rs ok z]
        exact s5.seq hc4
    rintro σ' H5 ⟨p5, s5, h5, rfl⟩
    refine ⟨_, rfl, _, rfl, p3, p5, _, _, rfl, rfl, SqL.of (s5 _ _ g4), h5, few_sizeLine (by simp [row_len]; omega), fun p6 h6 => ?_⟩
    have S5 := S4.trans s5
    refine ⟨p6, _, _, rfl, s4.trans (s5.trans (same_new h6 _)), fresh_of S5 h6, ?_⟩
    rw [upd_same, by_succ hr', List.map_append]
  · rintro σ H3 ⟨p3, o4, o5, rfl, s3, np, g3⟩
    exact ⟨_, rfl, q p3 H3 (S2.trans s3) np g3⟩
theorem sc__law_word : FnScope ["_law_cell_here", "_law_edge"] ["_law_cell_here"] (defScope s_law_word) := ⟨rfl, rfl, rfl, by decide +kernel, rfl, by decide +kernel, by decide +kernel⟩
theorem ok__law_word {f : Addr} {fd : FuncData} (F : Fun K "_law_word" "_law_word" s_law_word f fd) (z_max : mg "max" = none) (z_min : mg "min" = none) : FnOk P w K mg base CX0 1 f fd ["_law_cell_here"] (sp_law_word K) := by
  refine F.ok sc__law_word (fun vs H Q E h => ?_) (fun cdv A outer s H vs Q E hr h => ?_)
  · obtain ⟨c, rfl, q⟩ := h
    rfl
  obtain ⟨c, rfl, q⟩ := h
  refine ⟨_, (pss_cons (ps_if (pt_cmpR op_eq (pe_op op_mod (pv 0) pe_int) pe_int (nomark _)) (pss_one (ps_ret (pe_op op_sub (pe_op op_mod (pe_op op_fdiv (pv 0) pe_int) pe_int) pe_int))) pss_nil)
      (pss_cons (ps_if (pt_cmpR op_eq (pe_op op_mod (pv 0) pe_int) pe_int (nomark _)) (pss_one (ps_ret (pe_op op_sub (pe_op op_mod (pe_op op_mul (pe_op op_fdiv (pv 0) pe_int) pe_int) pe_int) pe_int))) pss_nil)
      (pss_cons (ps_if (pt_cmpR op_eq (pe_op op_mod (pv 0) pe_int) pe_int (nomark _)) (pss_cons (ps_set (i := 1) sc__law_word.nd rfl (Or.inl rfl) (pe_op op_sub (pe_op op_add (pe_op op_shl pe_int (pe_op op_mod (pe_op op_fdiv (pv 0) pe_int) pe_int)) (pe_op op_mod (pe_op op_fdiv (pv 0) pe_int) pe_int)) pe_int))
      (pss_one (ps_ret (pe_callB (call_max2 rfl) rfl z_max bt_max (pa_cons (pe_callB (call_min2 rfl) rfl z_min bt_min (pa_cons (pe_ix ix_list (pe_lst (pa_cons (pv 1) (pa_cons (pe_op op_sub pe_int (pv 1)) pa_nil))) (pe_op op_mod (pe_op op_fdiv (pv 0) pe_int) pe_int) (fun _ _ => rfl)) (pa_cons pe_int pa_nil))) (pa_cons (pe_op op_sub pe_int pe_int) pa_nil)))))) pss_nil)
      (pss_one (ps_ret (pe_op op_sub (pe_op op_mod (pe_op op_fdiv (pv 0) pe_int) pe_int) pe_int)))))), ?_⟩
  have d4 : (0 : Int) < 4 ∧ (4 : Int) < 1073741824 := by decide
  refine ⟨_, rfl, _, _, rfl, rfl, (by show (0 : Int) < 4; decide), rfl, _, rfl, ?_⟩
  refine ite2 (fun _ => ?_) (fun _ => ?_)
  · refine ⟨_, rfl, _, _, rfl, rfl, d4, _, _, rfl, rfl, (by show (0 : Int) < 9; decide), _, _, rfl, rfl, q _ _ (Same.refl _) ?_⟩
    show -2147483648 ≤ c / 4 % 9 - 4 ∧ c / 4 % 9 - 4 ≤ 2147483647
    omega
  refine ⟨_, rfl, _, _, rfl, rfl, (by show (0 : Int) < 4; decide), rfl, _, rfl, ?_⟩
  refine ite2 (fun _ => ?_) (fun _ => ?_)
  · refine ⟨_, rfl, _, _, rfl, rfl, d4, _, _, rfl, rfl, .inr ⟨by decide, by decide⟩, _, _, rfl, rfl, (by show (0 : Int) < 4294967296; decide), _, _, rfl, rfl, q _ _ (Same.refl _) ?_⟩
    show -2147483648 ≤ c / 4 * 2654435761 % 4294967296 - 2147483648 ∧ c / 4 * 2654435761 % 4294967296 - 2147483648 ≤ 2147483647
    omega
  refine ⟨_, rfl, _, _, rfl, rfl, (by show (0 : Int) < 4; decide), rfl, _, rfl, ?_⟩
  refine ite2 (fun _ => ?_) (fun _ => ?_)
  · refine ⟨_, rfl, _, _, rfl, rfl, d4, _, _, rfl, rfl, (by show (0 : Int) < 32; decide), _, _, rfl, rfl, ⟨by show 0 ≤ c / 4 % 32; omega, by show c / 4 % 32 ≤ 1000000; omega, by decide⟩, ?_⟩
    refine ⟨_, rfl, _, _, rfl, rfl, (by show (0 : Int) < 128 ∧ (128 : Int) < 1073741824; decide), _, _, rfl, rfl, (by show (0 : Int) < 3; decide), _, _, rfl, rfl, _, _, rfl, rfl, ?_⟩
    obtain ⟨e, he⟩ : ∃ e : Int, e = 1 * 2 ^ (c / 4 % 32).toNat + c / 128 % 3 - 1 := ⟨_, rfl⟩
    refine ⟨_, rfl, _, rfl, _, _, rfl, rfl, (by show 2 ≤ sizeLine; decide), fun l hl => ?_⟩
    have s1 := same_fresh hl (.lst [.int (1 * 2 ^ (c / 4 % 32).toNat + c / 128 % 3 - 1), .int (0 - (1 * 2 ^ (c / 4 % 32).toNat + c / 128 % 3 - 1))])
    refine ⟨_, rfl, _, _, rfl, rfl, (by show (0 : Int) < 384 ∧ (384 : Int) < 1073741824; decide), _, _, rfl, rfl, (by show (0 : Int) < 2; decide), ?_⟩
    obtain ⟨x, hx⟩ : ∃ x : Int, atI [V.int e, V.int (0 - e)] (c / 384 % 2) = some (V.int x) := by
      rcases (by omega : c / 384 % 2 = 0 ∨ c / 384 % 2 = 1) with z | z <;> rw [z]
      · exact ⟨_, atI_nat (j := 0) rfl⟩
      · exact ⟨_, atI_nat (j := 1) rfl⟩
    rw [he] at hx
    refine ⟨l, _, _, _, rfl, rfl, SqL.of upd_same, hx, ?_⟩
    refine ⟨_, _, rfl, _, _, rfl, rfl, _, _, rfl, q _ _ s1 ?_⟩
    show -2147483648 ≤ (if (0 - 2147483648 : Int) > (if (2147483647 : Int) < x then 2147483647 else x) then (0 - 2147483648 : Int) else if (2147483647 : Int) < x then 2147483647 else x) ∧ (if (0 - 2147483648 : Int) > (if (2147483647 : Int) < x then 2147483647 else x) then (0 - 2147483648 : Int) else if (2147483647 : Int) < x then 2147483647 else x) ≤ 2147483647
    split <;> split <;> omega
  · refine ⟨_, rfl, _, _, rfl, rfl, d4, _, _, rfl, rfl, (by show (0 : Int) < 4294967296; decide), _, _, rfl, rfl, q _ _ (Same.refl _) ?_⟩
    show -2147483648 ≤ c / 4 % 4294967296 - 2147483648 ∧ c / 4 % 4294967296 - 2147483648 ≤ 2147483647
    omega
theorem sc__law_row : FnScope ["_law_cell_here", "_law_other", "_law_many_here", "_law_sign"] ["_law_cell_here", "_law_other", "_law_many_here"] (defScope s_law_row) := ⟨rfl, rfl, rfl, by decide +kernel, rfl, by decide +kernel, by decide +kernel⟩
theorem ok__law_row {f : Addr} {fd : FuncData} (F : Fun K "_law_row" "_law_row" s_law_row f fd) (h__law_signs : Has P w K mg base CX0 "_law_signs" 1 [] (sp_law_signs K)) (h__law_word : Has P w K mg base CX0 "_law_word" 1 ["_law_cell_here"] (sp_law_word K)) : FnOk P w K mg base CX0 2 f fd ["_law_cell_here", "_law_other", "_law_many_here"] (sp_law_row K) := by
  refine F.ok sc__law_row (fun vs H Q E h => ?_) (fun cdv A outer s H vs Q E hr h => ?_)
  · obtain ⟨c, d, m, rfl, hm, q⟩ := h
    rfl
  obtain ⟨c, d, m, rfl, hm, q⟩ := h
  refine ⟨_, (pss_cons (ps_set (i := 3) sc__law_row.nd rfl (Or.inl rfl) (pe_ix ix_list (pe_ch0 h__law_signs (hr.mono (by decide)) rfl) (pe_op op_mod (pv 0) pe_int) (fun _ _ => rfl)))
      (pss_cons (ps_if (pt_cmpR op_eq (pv 3) pe_str (nomark _)) (pss_one (ps_ret (pe_tup (pa_cons (pv 3) (pa_cons (pe_ch h__law_word (hr.mono (by decide)) rfl (pa_cons (pv 1) pa_nil)) pa_nil))))) pss_nil)
      (pss_cons (ps_if (pt_cmpR op_in_seq (pv 3) (pe_tup (pa_cons pe_str (pa_cons pe_str pa_nil))) rfl) (pss_one (ps_ret (pe_tup (pa_cons (pv 3) (pa_cons (pe_op op_mod (pv 1) (pv 2)) pa_nil))))) pss_nil)
      (pss_cons (ps_if (pt_cmpR op_eq (pv 3) pe_str (nomark _)) (pss_one (ps_ret (pe_tup (pa_cons (pv 3) (pa_cons (pe_op op_mod (pe_op op_fdiv (pv 0) pe_int) pe_int) (pa_cons (pe_op op_mod (pv 1) (pv 2)) pa_nil)))))) pss_nil)
      (pss_cons (ps_if (pt_cmpR op_in_seq (pv 3) (pe_tup (pa_cons pe_str (pa_cons pe_str (pa_cons pe_str pa_nil)))) rfl) (pss_one (ps_ret (pe_tup (pa_cons (pv 3) (pa_cons (pe_op op_mod (pe_op op_fdiv (pv 0) pe_int) pe_int) (pa_cons (pe_op op_mod (pv 1) pe_int) pa_nil)))))) pss_nil)
      (pss_cons (ps_if (pt_cmpR op_in_seq (pv 3) (pe_tup (pa_cons pe_str (pa_cons pe_str (pa_cons pe_str (pa_cons pe_str (pa_cons pe_str pa_nil)))))) rfl) (pss_one (ps_ret (pe_tup (pa_cons (pv 3) (pa_cons (pe_op op_mod (pv 1) pe_int) pa_nil))))) pss_nil)
      (pss_one (ps_ret (pe_tup (pa_cons (pv 3) pa_nil)))))))))), ?_⟩
  refine ⟨rfl, fun sl H1 s1 n1 g1 => ?_⟩
  obtain ⟨i, hi, hil⟩ := modN (e := c) (n := 25) (by decide)
  have hsl : signsL.length = 25 := rfl
  have hxi := List.getElem?_eq_getElem (l := signsL) (i := i) (by omega)
  have hx := List.getElem_mem (l := signsL) (n := i) (by omega)
  generalize signsL[i] = x at hxi hx
  refine ⟨_, rfl, _, _, rfl, rfl, (by show (0 : Int) < 25; decide), sl, _, _, .str x, rfl, rfl, SqL.of g1, ?_, ?_⟩
  · show atI (signsL.map V.str) (c % 25) = some (.str x)
    rw [show c % 25 = (i : Int) from hi]
    exact atI_nat (by rw [List.getElem?_map, hxi]; rfl)
  clear hxi hsl hil hi g1 n1
  obtain ⟨pd, hpd, lpd⟩ := modN (e := d) hm
  obtain ⟨d8, hd8, ld8⟩ := modN (e := d) (n := 8) (by decide)
  obtain ⟨c8, hc8, lc8⟩ := modN (e := c / 25) (n := 8) (by decide)
  refine ⟨_, rfl, rfl, _, rfl, stepS (fun z => ?_) (fun z1 => ?_)⟩
  · refine ⟨_, rfl, _, rfl, d, rfl, fun w H2 s2 hw => ⟨(by show 2 ≤ sizeLine; decide), fun t ht => ?_⟩⟩
    exact q (.push w) t _ hw (s1.trans (s2.trans (same_new ht _))) (SqT.of (by rw [upd_same, z]; rfl))
  dsimp only [tNext]
  refine ⟨_, rfl, (by show 2 ≤ sizeLine; decide), fun t ht => ⟨t, _, rfl, .inr (SqT.of upd_same), rfl, rfl, _, rfl, ?_⟩⟩
  have s2 := s1.trans (same_new ht (.tup [.str "jump", .str "zero"]))
  generalize upd H1 t (.tup [.str "jump", .str "zero"]) = H2 at s2 ⊢
  clear ht s1
  refine stepL (l := ["jump", "zero"]) (fun z => ?_) (fun z2 => ?_)
  · refine ⟨_, rfl, _, rfl, _, rfl, _, _, rfl, rfl, (by show (0 : Int) < (m : Int); omega), (by show 2 ≤ sizeLine; decide), fun t ht => ?_⟩
    exact q (.pla x pd) t _ ⟨z, lpd⟩ (s2.trans (same_new ht _)) (SqT.of (by rw [upd_same]; show some (HO.tup [.str x, .int (d % (m : Int))]) = _; rw [hpd]; rfl))
  dsimp only [tNext]
  refine ⟨_, rfl, rfl, _, rfl, stepS (fun z => ?_) (fun z3 => ?_)⟩
  · refine ⟨_, rfl, _, rfl, _, _, rfl, rfl, ⟨by decide, by decide⟩, _, _, rfl, rfl, (by show (0 : Int) < 8; decide), _, rfl, _, rfl, _, _, rfl, rfl, (by show (0 : Int) < (m : Int); omega), (by show 3 ≤ sizeLine; decide), fun t ht => ?_⟩
    exact q (.kin c8 pd) t _ ⟨lc8, lpd⟩ (s2.trans (same_new ht _)) (SqT.of (by rw [upd_same, z]; show some (HO.tup [.str "kin", .int (c / 25 % 8), .int (d % (m : Int))]) = _; rw [hpd, show c / 25 % 8 = (c8 : Int) from hc8]; rfl))
  dsimp only [tNext]
  refine ⟨_, rfl, (by show 3 ≤ sizeLine; decide), fun t ht => ⟨t, _, rfl, .inr (SqT.of upd_same), rfl, rfl, _, rfl, ?_⟩⟩
  have s3 := s2.trans (same_new ht (.tup [.str "fill", .str "get", .str "put"]))
  generalize upd H2 t (.tup [.str "fill", .str "get", .str "put"]) = H3 at s3 ⊢
  clear ht s2
  refine stepL (l := ["fill", "get", "put"]) (fun z => ?_) (fun z4 => ?_)
  · refine ⟨_, rfl, _, rfl, _, _, rfl, rfl, ⟨by decide, by decide⟩, _, _, rfl, rfl, (by show (0 : Int) < 8; decide), _, rfl, _, _, rfl, rfl, (by show (0 : Int) < 8; decide), (by show 3 ≤ sizeLine; decide), fun t ht => ?_⟩
    exact q (.fld x c8 d8) t _ ⟨z, lc8, ld8⟩ (s3.trans (same_new ht _)) (SqT.of (by rw [upd_same]; show some (HO.tup [.str x, .int (c / 25 % 8), .int (d % 8)]) = _; rw [show d % 8 = (d8 : Int) from hd8, show c / 25 % 8 = (c8 : Int) from hc8]; rfl))
  dsimp only [tNext]
  refine ⟨_, rfl, (by show 5 ≤ sizeLine; decide), fun t ht => ⟨t, _, rfl, .inr (SqT.of upd_same), rfl, rfl, _, rfl, ?_⟩⟩
  have s4 := s3.trans (same_new ht (.tup [.str "load", .str "store", .str "make", .str "begin", .str "call"]))
  generalize upd H3 t (.tup [.str "load", .str "store", .str "make", .str "begin", .str "call"]) = H4 at s4 ⊢
  clear ht s3
  refine stepL (l := ["load", "store", "make", "begin", "call"]) (fun z => ?_) (fun z5 => ?_)
  · refine ⟨_, rfl, _, rfl, _, _, rfl, rfl, (by show (0 : Int) < 8; decide), (by show 2 ≤ sizeLine; decide), fun t ht => ?_⟩
    exact q (.low x d8) t _ ⟨z, ld8⟩ (s4.trans (same_new ht _)) (SqT.of (by rw [upd_same]; show some (HO.tup [.str x, .int (d % 8)]) = _; rw [show d % 8 = (d8 : Int) from hd8]; rfl))
  dsimp only [tNext]
  refine ⟨_, rfl, (by show 1 ≤ sizeLine; decide), fun t ht => ?_⟩
  exact q (.bare x) t _ (bare_else x hx z1 z2 z3 z4 z5) (s4.trans (same_new ht _)) (SqT.of (by rw [upd_same]; rfl))
theorem sc__law_cut : FnScope ["_law_script", "_law_rows_here", "_law_some", "_law_cell_here", "_law_chunk_here", "_law_part", "_law_last"] ["_law_script", "_law_rows_here"] (defScope s_law_cut) := ⟨rfl, rfl, rfl, by decide +kernel, rfl, by decide +kernel, by decide +kernel⟩
theorem ok__law_cut {f : Addr} {fd : FuncData} (F : Fun K "_law_cut" "_law_cut" s_law_cut f fd) (z_len : mg "len" = none) (h__law_bytes : Has P w K mg base CX0 "_law_bytes" 2 ["_law_rows_here", "_law_chunks"] (sp_law_bytes K)) (h__law_cell : Has P w K mg base CX0 "_law_cell" 1 ["_law_script", "_law_k"] (sp_law_cell K)) (h__law_chunk : Has P w K mg base CX0 "_law_chunk" 2 ["_law_row_here"] (sp_law_chunk K)) (h__law_row : Has P w K mg base CX0 "_law_row" 2 ["_law_cell_here", "_law_other", "_law_many_here"] (sp_law_row K)) (h__law_told : Has P w K mg base CX0 "_law_told" 6 ["_law_some"] (sp_law_told K)) : FnOk P w K mg base CX0 7 f fd ["_law_script", "_law_rows_here"] (sp_law_cut K) := by
  refine F.ok sc__law_cut (fun vs H Q E h => ?_) (fun cdv A outer s H vs Q E hr h => ?_)
  · obtain ⟨a, p, ns, us, rs, rfl, hA, hP, hR, hok, h1, h31, q⟩ := h
    rfl
  obtain ⟨a, p, ns, us, rs, rfl, hA, hP, hR, hok, h1, h31, q⟩ := h
  refine ⟨_, (pss_cons (ps_set (i := 2) sc__law_cut.nd rfl (Or.inl rfl) (pe_ch h__law_bytes (hr.mono (by decide)) rfl (pa_cons (pv 1) (pa_cons (pe_lc 1 ["_law_row_here"] [] ⟨rfl, rfl, rfl, rfl, rfl, rfl, rfl, rfl⟩ (pi_list (pv 1)) (fun _ _ _ _ => ⟨(pg_name (i := 0) (show List.Nodup (["_law_row_here"] : List Str) by decide +kernel) rfl (Or.inl rfl)), pif_nil, (pe_ch h__law_chunk (hr.mono (by decide)) rfl (pa_cons (pv 0) pa_nil))⟩)) pa_nil))))
      (pss_cons (ps_set (i := 3) sc__law_cut.nd rfl (Or.inl rfl) (pe_ch h__law_cell (hr.mono (by decide)) rfl (pa_cons (pv 0) (pa_cons pe_int pa_nil))))
      (pss_cons (ps_set (i := 4) sc__law_cut.nd rfl (Or.inl rfl) (pe_ch h__law_chunk (hr.mono (by decide)) rfl (pa_cons (pe_ch h__law_row (hr.mono (by decide)) rfl (pa_cons (pv 3) (pa_cons (pe_ch h__law_cell (hr.mono (by decide)) rfl (pa_cons (pv 0) (pa_cons pe_int pa_nil))) (pa_cons (pe_callB call_len_seq rfl z_len bt_len (pa_cons (pv 1) pa_nil)) pa_nil)))) pa_nil)))
      (pss_cons (ps_if (pt_cmpR op_gt (pe_callB call_len_seq rfl z_len bt_len (pa_cons (pv 4) pa_nil)) pe_int (nomark _)) (pss_cons (ps_set (i := 5) sc__law_cut.nd rfl (Or.inl rfl) (pe_slice sl_list (pv 4) po_none (po_some (pe_op op_add pe_int (pe_op op_mod (pe_op op_fdiv (pv 3) pe_int) (pe_op op_sub (pe_callB call_len_seq rfl z_len bt_len (pa_cons (pv 4) pa_nil)) pe_int))))))
      (pss_one (ps_ret (pe_cmpR (op_eqD (hr.units)) (pe_ch h__law_told (hr.mono (by decide)) rfl (pa_cons (pe_op op_catS (pv 2) (pv 5)) pa_nil)) (pe_tup (pa_cons (pe_callB call_len_seq rfl z_len bt_len (pa_cons (pv 2) pa_nil)) (pa_cons pe_str pa_nil))) (nomark _))))) pss_nil)
      (pss_cons (ps_set (i := 6) sc__law_cut.nd rfl (Or.inl rfl) (pe_lst (pa_cons (pe_lst (pa_cons pe_int pa_nil)) (pa_cons (pe_lst (pa_cons (pe_op op_mul pe_int pe_int) pa_nil)) (pa_cons (pe_lst (pa_cons (pe_op op_add (pe_op op_mul pe_int pe_int) pe_int) (pa_cons pe_int pa_nil))) (pa_cons (pe_lst (pa_cons (pe_op op_mul pe_int pe_int) pa_nil)) pa_nil))))))
      (pss_cons (ps_set (i := 6) sc__law_cut.nd rfl (Or.inl rfl) (pe_op op_catS (pv 6) (pe_lst (pa_cons (pe_lst (pa_cons pe_int (pa_cons pe_int (pa_cons pe_int (pa_cons pe_int pa_nil))))) (pa_cons (pe_lst (pa_cons (pe_op op_mul pe_int pe_int) (pa_cons pe_int pa_nil))) (pa_cons (pe_lst (pa_cons pe_int (pa_cons pe_int pa_nil))) (pa_cons (pe_lst (pa_cons (pe_op op_add (pe_op op_mul pe_int pe_int) pe_int) pa_nil)) pa_nil)))))))
      (pss_cons (ps_set (i := 6) sc__law_cut.nd rfl (Or.inl rfl) (pe_op op_catS (pv 6) (pe_lst (pa_cons (pe_lst (pa_cons pe_int (pa_cons pe_int pa_nil))) (pa_cons (pe_lst (pa_cons pe_int (pa_cons pe_int (pa_cons pe_int (pa_cons pe_int pa_nil))))) pa_nil)))))
      (pss_one (ps_ret (pe_cmpR (op_eqD (hr.units)) (pe_ch h__law_told (hr.mono (by decide)) rfl (pa_cons (pe_op op_catS (pv 2) (pe_ix ix_list (pv 6) (pe_op op_mod (pv 3) pe_int) (fun _ _ => rfl))) pa_nil)) (pe_tup (pa_cons (pe_callB call_len_seq rfl z_len bt_len (pa_cons (pv 2) pa_nil)) (pa_cons pe_str pa_nil))) (nomark _))))))))))), ?_⟩
  have ul : us.length = rs.length := hR.1
  have kn : ("short" : Str) ∈ codeW := by decide +kernel
  refine ⟨_, rfl, _, rfl, p, rfl, ⟨_, hP⟩, fun D hD => ?_⟩
  refine lc_list (xs := us) (fun i ys H3 => Same H H3 ∧ H3 D = some (.lst ys) ∧ ChX H3 D ys (rs.take i)) (few_sizeLine (by omega)) ⟨same_new hD _, upd_same, .nil⟩ ?_ ?_ ?_
  · rintro i ys H3 hi ⟨s3, g3, hC⟩
    refine ⟨g3, ?_, s3.seq hP⟩
    rw [hC.1, List.length_take]
    omega
  · rintro i x ys H3 hx ⟨s3, g3, hC⟩
    obtain ⟨r, t, hr', rfl, hT⟩ := hR.item hx
    refine ⟨rfl, _, rfl, t, r, rs.length, rfl, s3.tup hT, hok r (List.mem_of_getElem? hr'), fun c H4 s4 n4 g4 => ⟨s4 _ _ g3, Same_upd (s3.trans s4) hD _, upd_same, ?_⟩⟩
    rw [List.take_add_one, hr']
    exact hC.step g3 s4 n4 g4
  rintro ws H1 ⟨s1, gD, hC⟩
  rw [List.take_of_length_le (by omega)] at hC
  refine ⟨p, D, us, ws, rs, rfl, s1.seq hP, hR.same s1, SqL.of gD, hC.at_, hok, by omega, fun sb H2 s2 n2 gb2 => ?_⟩
  have S2 := s1.trans s2
  have hby := bytes_in hok
  have bl : (bytesK rs).length ≤ 160 := by
    rw [bytes_len]
    have := at_le rs rs.length (Nat.le_refl _)
    omega
  have lm : ((bytesK rs).map V.int).length = (bytesK rs).length := List.length_map ..
  refine ⟨_, rfl, a, ns, _, rfl, S2.seq hA, by decide, by decide, fun v1 H3 s3 => ?_⟩
  refine ⟨_, rfl, _, rfl, a, ns, _, rfl, (S2.trans s3).seq hA, by decide, by decide, fun v2 H4 s4 => ?_⟩
  have S4 := S2.trans (s3.trans s4)
  refine ⟨_, rfl, p, _, rfl, .inl (S4.seq hP), v1, v2, us.length, rfl, by omega, fun r t H5 ok s5 hT => ?_⟩
  refine ⟨t, r, _, rfl, hT, ok, fun pc H6 s6 n6 g6 => ?_⟩
  have S6 := S4.trans (s5.trans s6)
  have gb6 := s6 _ _ (s5 _ _ (s4 _ _ (s3 _ _ gb2)))
  have cl := chunk_len ok
  have cm : ((chunkK r).map V.int).length = (chunkK r).length := List.length_map ..
  have tl4 := tl_le r
  clear s3 s4 s5 s6 n6 hT gb2
  refine ⟨_, rfl, pc, _, rfl, .inl (SqL.of g6), _, _, rfl, rfl, _, rfl, ite2 (fun z => ?_) (fun z => ?_)⟩
  · have z' : (1 : Int) < ((((chunkK r).map V.int).length : Nat) : Int) := of_decide_eq_true z
    obtain ⟨j, ej, lj⟩ := modN (e := v1 / 31) (n := tlK r) (by omega)
    have ej : v1 / 31 % (((((chunkK r).map V.int).length : Nat) : Int) - 1) = (j : Int) := by
      rw [show ((((chunkK r).map V.int).length : Nat) : Int) - 1 = (tlK r : Int) by omega]
      exact ej
    refine ⟨_, rfl, _, rfl, _, _, rfl, rfl, ⟨by decide, by decide⟩, _, rfl, pc, _, rfl, .inl (SqL.of g6), _, _, rfl, rfl, _, _, rfl, rfl, (by show (0 : Int) < ((((chunkK r).map V.int).length : Nat) : Int) - 1; omega), _, _, rfl, rfl, _, rfl, pc, _, rfl, SqL.of g6, fun c hc => ?_⟩
    have ec : ∀ x : Int, x = 1 + v1 / 31 % (((((chunkK r).map V.int).length : Nat) : Int) - 1) → cutV ((chunkK r).map V.int) none (some x) = ((chunkK r).take (1 + j)).map V.int := fun x ex => by
      rw [ex, ej, show (1 : Int) + (j : Int) = ((1 + j : Nat) : Int) by omega, cut_take, List.map_take]
    rw [ec _ rfl]
    have s7 := same_new hc (.lst (((chunkK r).take (1 + j)).map V.int))
    have g7 := upd_same (H := H6) (a := c) (o := .lst (((chunkK r).take (1 + j)).map V.int))
    generalize upd H6 c _ = H7 at s7 g7 ⊢
    have gb7 := s7 _ _ gb6
    refine ⟨_, rfl, _, rfl, sb, c, _, _, rfl, rfl, SqL.of gb7, SqL.of g7, few_sizeLine (by simp; omega), fun l5 h5 => ?_⟩
    have s8 : Same H7 (upd H7 l5 (.lst ((bytesK rs).map V.int ++ ((chunkK r).take (1 + j)).map V.int))) := same_new h5 _
    have g8 : upd H7 l5 (.lst ((bytesK rs).map V.int ++ ((chunkK r).take (1 + j)).map V.int)) l5 = some (.lst ((bytesK rs ++ (chunkK r).take (1 + j)).map V.int)) := by rw [upd_same, List.map_append]
    generalize upd H7 l5 _ = H8 at s8 g8 ⊢
    refine ⟨l5, _, _, "short", rfl, SqL.of g8, byt_app hby (fun x hx => chunk_byt ok x (List.mem_of_mem_take hx)), short_err hok (by omega) (chunk_short ok (by omega)), fun t5 H9 s9 hT5 => ?_⟩
    refine ⟨_, rfl, sb, _, rfl, .inl (SqL.of ((s8.trans s9) _ _ gb7)), (by show 2 ≤ sizeLine; decide), fun t6 h6 => ?_⟩
    have s10 : Same H9 (upd H9 t6 (.tup [.int ((((bytesK rs).map V.int).length : Nat) : Int), .str "short"])) := same_new h6 _
    have g10 : upd H9 t6 (.tup [.int ((((bytesK rs).map V.int).length : Nat) : Int), .str "short"]) t6 = some (.tup [.int (((bytesK rs).length : Nat) : Int), .str "short"]) := by rw [upd_same, lm]
    generalize upd H9 t6 _ = H10 at s10 g10 ⊢
    refine ⟨_, _, RdV.tup' (s10.tup hT5) (.cons (.int _) (.cons (.str _) .nil)), RdV.tup' (SqT.of g10) (.cons (.int _) (.cons (.str _) .nil)), iw_ok _ kn, iw_ok _ kn, ?_⟩
    rw [iw_self _ kn]
    exact q H10 (S6.trans (s7.trans (s8.trans (s9.trans s10))))
  dsimp only [tNext]
  generalize H6 = G0 at *
  refine ⟨(by show 1 ≤ sizeLine; decide), fun p1 q1 => ?_⟩
  have u1 : Same G0 (upd G0 p1 (.lst [.int 1])) := same_new q1 _
  have g1 : upd G0 p1 (.lst [.int 1]) p1 = some (.lst (([1] : List Int).map V.int)) := upd_same
  generalize upd G0 p1 _ = G1 at u1 g1 ⊢
  refine ⟨_, _, rfl, rfl, .inl ⟨by decide, by decide⟩, (by show 1 ≤ sizeLine; decide), fun p2 q2 => ?_⟩
  have u2 : Same G1 (upd G1 p2 (.lst [.int (8 * 13)])) := same_new q2 _
  have g2 : upd G1 p2 (.lst [.int (8 * 13)]) p2 = some (.lst (([8 * 13] : List Int).map V.int)) := upd_same
  generalize upd G1 p2 _ = G2 at u2 g2 ⊢
  refine ⟨_, _, rfl, rfl, .inl ⟨by decide, by decide⟩, _, _, rfl, rfl, (by show 2 ≤ sizeLine; decide), fun p3 q3 => ?_⟩
  have u3 : Same G2 (upd G2 p3 (.lst [.int (8 * 15 + 7), .int 0])) := same_new q3 _
  have g3 : upd G2 p3 (.lst [.int (8 * 15 + 7), .int 0]) p3 = some (.lst (([8 * 15 + 7, 0] : List Int).map V.int)) := upd_same
  generalize upd G2 p3 _ = G3 at u3 g3 ⊢
  refine ⟨_, _, rfl, rfl, .inl ⟨by decide, by decide⟩, (by show 1 ≤ sizeLine; decide), fun p4 q4 => ?_⟩
  have u4 : Same G3 (upd G3 p4 (.lst [.int (8 * 17)])) := same_new q4 _
  have g4 : upd G3 p4 (.lst [.int (8 * 17)]) p4 = some (.lst (([8 * 17] : List Int).map V.int)) := upd_same
  generalize upd G3 p4 _ = G4 at u4 g4 ⊢
  refine ⟨(by show 4 ≤ sizeLine; decide), fun p5 q5 => ?_⟩
  have u5 := same_new q5 (.lst [.ref p1, .ref p2, .ref p3, .ref p4])
  have g5 := upd_same (H := G4) (a := p5) (o := .lst [.ref p1, .ref p2, .ref p3, .ref p4])
  generalize upd G4 p5 _ = G5 at u5 g5 ⊢
  have L0 : LsAt K G5 [.ref p1, .ref p2, .ref p3, .ref p4] ([[1], [8 * 13], [8 * 15 + 7, 0], [8 * 17]] : List (List Int)) := (.cons (SqL.of (u5 _ _ (u4 _ _ (u3 _ _ (u2 _ _ g1))))) (.cons (SqL.of (u5 _ _ (u4 _ _ (u3 _ _ g2)))) (.cons (SqL.of (u5 _ _ (u4 _ _ g3))) (.cons (SqL.of (u5 _ _ g4)) .nil))))
  refine ⟨_, rfl, ?_⟩
  refine ⟨(by show 4 ≤ sizeLine; decide), fun p6 q6 => ?_⟩
  have u6 : Same G5 (upd G5 p6 (.lst [.int 4, .int 1, .int 2, .int 3])) := same_new q6 _
  have g6 : upd G5 p6 (.lst [.int 4, .int 1, .int 2, .int 3]) p6 = some (.lst (([4, 1, 2, 3] : List Int).map V.int)) := upd_same
  generalize upd G5 p6 _ = G6 at u6 g6 ⊢
  refine ⟨_, _, rfl, rfl, .inl ⟨by decide, by decide⟩, (by show 2 ≤ sizeLine; decide), fun p7 q7 => ?_⟩
  have u7 : Same G6 (upd G6 p7 (.lst [.int (8 * 14), .int 9])) := same_new q7 _
  have g7 : upd G6 p7 (.lst [.int (8 * 14), .int 9]) p7 = some (.lst (([8 * 14, 9] : List Int).map V.int)) := upd_same
  generalize upd G6 p7 _ = G7 at u7 g7 ⊢
  refine ⟨(by show 2 ≤ sizeLine; decide), fun p8 q8 => ?_⟩
  have u8 : Same G7 (upd G7 p8 (.lst [.int 3, .int 255])) := same_new q8 _
  have g8 : upd G7 p8 (.lst [.int 3, .int 255]) p8 = some (.lst (([3, 255] : List Int).map V.int)) := upd_same
  generalize upd G7 p8 _ = G8 at u8 g8 ⊢
  refine ⟨_, _, rfl, rfl, .inl ⟨by decide, by decide⟩, _, _, rfl, rfl, (by show 1 ≤ sizeLine; decide), fun p9 q9 => ?_⟩
  have u9 : Same G8 (upd G8 p9 (.lst [.int (8 * 20 + 5)])) := same_new q9 _
  have g9 : upd G8 p9 (.lst [.int (8 * 20 + 5)]) p9 = some (.lst (([8 * 20 + 5] : List Int).map V.int)) := upd_same
  generalize upd G8 p9 _ = G9 at u9 g9 ⊢
  refine ⟨(by show 4 ≤ sizeLine; decide), fun p10 q10 => ?_⟩
  have u10 := same_new q10 (.lst [.ref p6, .ref p7, .ref p8, .ref p9])
  have g10 := upd_same (H := G9) (a := p10) (o := .lst [.ref p6, .ref p7, .ref p8, .ref p9])
  generalize upd G9 p10 _ = G10 at u10 g10 ⊢
  have L1 : LsAt K G10 [.ref p6, .ref p7, .ref p8, .ref p9] ([[4, 1, 2, 3], [8 * 14, 9], [3, 255], [8 * 20 + 5]] : List (List Int)) := (.cons (SqL.of (u10 _ _ (u9 _ _ (u8 _ _ (u7 _ _ g6))))) (.cons (SqL.of (u10 _ _ (u9 _ _ (u8 _ _ g7)))) (.cons (SqL.of (u10 _ _ (u9 _ _ g8))) (.cons (SqL.of (u10 _ _ g9)) .nil))))
  have c1 : Same G5 G10 := (u6.trans (u7.trans (u8.trans (u9.trans u10))))
  refine ⟨p5, p10, _, _, rfl, rfl, SqL.of (c1 _ _ g5), SqL.of g10, (by show 8 ≤ sizeLine; decide), fun p11 q11 => ?_⟩
  have u11 := same_new q11 (.lst (([.ref p1, .ref p2, .ref p3, .ref p4] : List V) ++ [.ref p6, .ref p7, .ref p8, .ref p9]))
  have g11 := upd_same (H := G10) (a := p11) (o := .lst (([.ref p1, .ref p2, .ref p3, .ref p4] : List V) ++ [.ref p6, .ref p7, .ref p8, .ref p9]))
  generalize upd G10 p11 _ = G11 at u11 g11 ⊢
  have M1 : LsAt K G11 (([.ref p1, .ref p2, .ref p3, .ref p4] : List V) ++ [.ref p6, .ref p7, .ref p8, .ref p9]) (([[1], [8 * 13], [8 * 15 + 7, 0], [8 * 17]] : List (List Int)) ++ [[4, 1, 2, 3], [8 * 14, 9], [3, 255], [8 * 20 + 5]]) := ((L0.same c1).app L1).same u11
  refine ⟨_, rfl, ?_⟩
  refine ⟨(by show 2 ≤ sizeLine; decide), fun p12 q12 => ?_⟩
  have u12 : Same G11 (upd G11 p12 (.lst [.int 2, .int 0])) := same_new q12 _
  have g12 : upd G11 p12 (.lst [.int 2, .int 0]) p12 = some (.lst (([2, 0] : List Int).map V.int)) := upd_same
  generalize upd G11 p12 _ = G12 at u12 g12 ⊢
  refine ⟨(by show 4 ≤ sizeLine; decide), fun p13 q13 => ?_⟩
  have u13 : Same G12 (upd G12 p13 (.lst [.int 4, .int 0, .int 0, .int 0])) := same_new q13 _
  have g13 : upd G12 p13 (.lst [.int 4, .int 0, .int 0, .int 0]) p13 = some (.lst (([4, 0, 0, 0] : List Int).map V.int)) := upd_same
  generalize upd G12 p13 _ = G13 at u13 g13 ⊢
  refine ⟨(by show 2 ≤ sizeLine; decide), fun p14 q14 => ?_⟩
  have u14 := same_new q14 (.lst [.ref p12, .ref p13])
  have g14 := upd_same (H := G13) (a := p14) (o := .lst [.ref p12, .ref p13])
  generalize upd G13 p14 _ = G14 at u14 g14 ⊢
  have L2 : LsAt K G14 [.ref p12, .ref p13] ([[2, 0], [4, 0, 0, 0]] : List (List Int)) := (.cons (SqL.of (u14 _ _ (u13 _ _ g12))) (.cons (SqL.of (u14 _ _ g13)) .nil))
  have c2 : Same G11 G14 := (u12.trans (u13.trans u14))
  refine ⟨p11, p14, _, _, rfl, rfl, SqL.of (c2 _ _ g11), SqL.of g14, (by show 10 ≤ sizeLine; decide), fun p15 q15 => ?_⟩
  have u15 := same_new q15 (.lst ((([.ref p1, .ref p2, .ref p3, .ref p4] : List V) ++ [.ref p6, .ref p7, .ref p8, .ref p9]) ++ [.ref p12, .ref p13]))
  have g15 := upd_same (H := G14) (a := p15) (o := .lst ((([.ref p1, .ref p2, .ref p3, .ref p4] : List V) ++ [.ref p6, .ref p7, .ref p8, .ref p9]) ++ [.ref p12, .ref p13]))
  generalize upd G14 p15 _ = G15 at u15 g15 ⊢
  have M2 : LsAt K G15 ((([.ref p1, .ref p2, .ref p3, .ref p4] : List V) ++ [.ref p6, .ref p7, .ref p8, .ref p9]) ++ [.ref p12, .ref p13]) ((([[1], [8 * 13], [8 * 15 + 7, 0], [8 * 17]] : List (List Int)) ++ [[4, 1, 2, 3], [8 * 14, 9], [3, 255], [8 * 20 + 5]]) ++ [[2, 0], [4, 0, 0, 0]]) := ((M1.same c2).app L2).same u15
  have SS : Same G0 G15 := (u1.trans (u2.trans (u3.trans (u4.trans (u5.trans (u6.trans (u7.trans (u8.trans (u9.trans (u10.trans (u11.trans (u12.trans (u13.trans (u14.trans u15))))))))))))))
  obtain ⟨l, hl, pl, hat, hpl⟩ := M2.pick (n := 10) (by decide) rfl v1
  obtain ⟨k1, k2, k3⟩ := last_sh l hl
  have gbE := SS _ _ gb6
  refine ⟨_, rfl, _, rfl, _, rfl, _, _, rfl, rfl, (by show (0 : Int) < 10; decide), p15, _, _, .ref pl, rfl, rfl, SqL.of g15, hat, sb, pl, _, _, rfl, rfl, SqL.of gbE, hpl, few_sizeLine (by simp; omega), fun l5 h5 => ?_⟩
  have s8 : Same G15 (upd G15 l5 (.lst ((bytesK rs).map V.int ++ l.map V.int))) := same_new h5 _
  have g8' : upd G15 l5 (.lst ((bytesK rs).map V.int ++ l.map V.int)) l5 = some (.lst ((bytesK rs ++ l).map V.int)) := by rw [upd_same, List.map_append]
  generalize upd G15 l5 _ = H8 at s8 g8' ⊢
  refine ⟨l5, _, _, "short", rfl, SqL.of g8', byt_app hby k2, short_err hok (by omega) (sh_of k1), fun t5 H9 s9 hT5 => ?_⟩
  refine ⟨_, rfl, sb, _, rfl, .inl (SqL.of ((s8.trans s9) _ _ gbE)), (by show 2 ≤ sizeLine; decide), fun t6 h6 => ?_⟩
  have s10 : Same H9 (upd H9 t6 (.tup [.int ((((bytesK rs).map V.int).length : Nat) : Int), .str "short"])) := same_new h6 _
  have g10' : upd H9 t6 (.tup [.int ((((bytesK rs).map V.int).length : Nat) : Int), .str "short"]) t6 = some (.tup [.int (((bytesK rs).length : Nat) : Int), .str "short"]) := by rw [upd_same, lm]
  generalize upd H9 t6 _ = H10 at s10 g10' ⊢
  refine ⟨_, _, RdV.tup' (s10.tup hT5) (.cons (.int _) (.cons (.str _) .nil)), RdV.tup' (SqT.of g10') (.cons (.int _) (.cons (.str _) .nil)), iw_ok _ kn, iw_ok _ kn, ?_⟩
  rw [iw_self _ kn]
  exact q H10 (S6.trans (SS.trans (s8.trans (s9.trans s10))))
theorem sc__law_many : FnScope ["_law_script", "_law_rows_here", "_law_some", "_law_more", "_law_last"] ["_law_script", "_law_rows_here"] (defScope s_law_many) := ⟨rfl, rfl, rfl, by decide +kernel, rfl, by decide +kernel, by decide +kernel⟩
theorem pew_ix {X : Cx} {a b : Expr} {pos : Pos} {ta tb : TE} {r : R2} (hr : IxR X r) (ha : PEw X a ta) (hb : PE X b tb) (hs : PlainIx b) : PEw X (.Subscript a b pos) (tOp r ta tb) := ⟨pe_ix hr ha.h hb hs⟩
theorem psw_setE {X : Cx} {i : Nat} {x : Str} {a b : Expr} {p pos pos' : Pos} {tl : TE} (hf : X.fn x = true ∨ X.env.scope.names.lookup x = some .local) (hN : X.N.Nodup) (hi : X.N[i]? = some x) (hx : Loc X.env.scope x) (he : PEw X (.Subscript a b p) tl) : PSw X (.Assign [.Name x pos'] (.Subscript a b p) pos) (tAsg tl (gName i)) := ⟨ps_set hN hi hx he.h rfl hf⟩
def mlE : Expr := match (defBody s_law_many).getD 3 (.Pass ⟨0, 0, 0, 0⟩) with | .Assign _ (.Subscript e _ _) _ => e | _ => .Constant .none 0 ⟨0, 0, 0, 0⟩
theorem ml_ok {X : Cx} : PEw X mlE (tLst (tCons (tLst (tCons (tC (.int 24)) tNil)) (tCons (tLst (tCons (tC (.int 255)) tNil)) (tCons (tLst (tCons (tC (.int 1)) tNil)) (tCons (tLst (tCons (tOp (rI0 fun i j => .int (i + j)) (tOp (rI CMul fun i j => .int (i * j)) (tC (.int 8)) (tC (.int 17))) (tC (.int 1))) (tCons (tC (.int 9)) tNil))) tNil))))) := by
  constructor
  show PE X (.List [.List [.Constant _ _ _] _, .List [.Constant _ _ _] _, .List [.Constant _ _ _] _, .List [.BinOp (.BinOp (.Constant _ _ _) _ (.Constant _ _ _) _) _ (.Constant _ _ _) _, .Constant _ _ _] _] _) _
  refine pe_lst ?_
  refine pa_cL ?_ ?_
  · refine pe_lst ?_
    refine pa_cC ?_ ?_
    · exact pe_int
    exact pa_nil
  refine pa_cL ?_ ?_
  · refine pe_lst ?_
    refine pa_cC ?_ ?_
    · exact pe_int
    exact pa_nil
  refine pa_cL ?_ ?_
  · refine pe_lst ?_
    refine pa_cC ?_ ?_
    · exact pe_int
    exact pa_nil
  refine pa_cL ?_ ?_
  · refine pe_lst ?_
    refine pa_cB ?_ ?_
    · refine pe_op op_add ?_ ?_
      · refine pe_op op_mul ?_ ?_
        · exact pe_int
        · exact pe_int
      · exact pe_int
    refine pa_cC ?_ ?_
    · exact pe_int
    exact pa_nil
  exact pa_nil
theorem ok__law_many {f : Addr} {fd : FuncData} (F : Fun K "_law_many" "_law_many" s_law_many f fd) (z_len : mg "len" = none) (h__law_bytes : Has P w K mg base CX0 "_law_bytes" 2 ["_law_rows_here", "_law_chunks"] (sp_law_bytes K)) (h__law_cell : Has P w K mg base CX0 "_law_cell" 1 ["_law_script", "_law_k"] (sp_law_cell K)) (h__law_chunk : Has P w K mg base CX0 "_law_chunk" 2 ["_law_row_here"] (sp_law_chunk K)) (h__law_told : Has P w K mg base CX0 "_law_told" 6 ["_law_some"] (sp_law_told K)) (h_rows_of : Has P w K mg base (CX2 P w) "rows_of" 5 ["some"] (sp_rows_of K mg)) : FnOk P w K mg base CX0 7 f fd ["_law_script", "_law_rows_here"] (sp_law_many K) := by
  refine F.ok sc__law_many (fun vs H Q E h => ?_) (fun cdv A outer s H vs Q E hr h => ?_)
  · obtain ⟨a, p, ns, us, rs, rfl, hA, hP, hR, hok, h1, h31, q⟩ := h
    rfl
  obtain ⟨a, p, ns, us, rs, rfl, hA, hP, hR, hok, h1, h31, q⟩ := h
  have e1 := @ml_ok (cxOf CX0 P w K mg base ["_law_script", "_law_rows_here", "_law_some", "_law_more", "_law_last"] "_law_many" (defScope s_law_many) f cdv A outer s H E).nox
  refine ⟨_, (pss_cons (ps_set (i := 2) sc__law_many.nd rfl (Or.inl rfl) (pe_ch h__law_bytes (hr.mono (by decide)) rfl (pa_cons (pv 1) (pa_cons (pe_lc 1 ["_law_row_here"] [] ⟨rfl, rfl, rfl, rfl, rfl, rfl, rfl, rfl⟩ (pi_list (pv 1)) (fun _ _ _ _ => ⟨(pg_name (i := 0) (show List.Nodup (["_law_row_here"] : List Str) by decide +kernel) rfl (Or.inl rfl)), pif_nil, (pe_ch h__law_chunk (hr.mono (by decide)) rfl (pa_cons (pv 0) pa_nil))⟩)) pa_nil))))
      (pss_cons (ps_set (i := 3) sc__law_many.nd rfl (Or.inl rfl) (pe_op op_rep (pe_lst (pa_cons (pe_op op_add pe_int (pe_op op_mul pe_int (pe_op op_mod (pe_ch h__law_cell (hr.mono (by decide)) rfl (pa_cons (pv 0) (pa_cons pe_int pa_nil))) pe_int))) pa_nil)) (pe_op op_sub pe_int (pe_callB call_len_seq rfl z_len bt_len (pa_cons (pv 1) pa_nil)))))
      (pss_cons (ps_if (pt_cmpR op_ne (pe_callB call_len_seq rfl z_len bt_len (pa_cons (pe_chF h_rows_of passNF (hr.mono (by decide)) rfl (pa_cons (pe_op op_catS (pv 2) (pv 3)) pa_nil)) pa_nil)) pe_int (nomark _)) (pss_one (ps_ret pe_bl)) pss_nil)
      (@pss_consW _ _ _ _ _ (psw_setE (i := 4) (Or.inr rfl) sc__law_many.nd rfl (Or.inl rfl) (pew_ix ix_list e1 (pe_op op_mod (pe_ch h__law_cell (hr.mono (by decide)) rfl (pa_cons (pv 0) (pa_cons pe_int pa_nil))) pe_int) (fun _ _ => rfl)))
      (pss_one (ps_ret (pe_cmpR (op_eqD (hr.units)) (pe_ch h__law_told (hr.mono (by decide)) rfl (pa_cons (pe_op op_catS (pe_op op_catS (pv 2) (pv 3)) (pv 4)) pa_nil)) (pe_tup (pa_cons (pe_callB call_len_seq rfl z_len bt_len (pa_cons (pe_op op_catS (pv 2) (pv 3)) pa_nil)) (pa_cons pe_str pa_nil))) (nomark _)))))))), ?_⟩
  have ul : us.length = rs.length := hR.1
  refine ⟨_, rfl, _, rfl, p, rfl, ⟨_, hP⟩, fun D hD => ?_⟩
  refine lc_list (xs := us) (fun i ys H3 => Same H H3 ∧ H3 D = some (.lst ys) ∧ ChX H3 D ys (rs.take i)) (few_sizeLine (by omega)) ⟨same_new hD _, upd_same, .nil⟩ ?_ ?_ ?_
  · rintro i ys H3 hi ⟨s3, g3, hC⟩
    refine ⟨g3, ?_, s3.seq hP⟩
    rw [hC.1, List.length_take]
    omega
  · rintro i x ys H3 hx ⟨s3, g3, hC⟩
    obtain ⟨r, t, hr', rfl, hT⟩ := hR.item hx
    refine ⟨rfl, _, rfl, t, r, rs.length, rfl, s3.tup hT, hok r (List.mem_of_getElem? hr'), fun c H4 s4 n4 g4 => ⟨s4 _ _ g3, Same_upd (s3.trans s4) hD _, upd_same, ?_⟩⟩
    rw [List.take_add_one, hr']
    exact hC.step g3 s4 n4 g4
  rintro ws H1 ⟨s1, gD, hC⟩
  rw [List.take_of_length_le (by omega)] at hC
  refine ⟨p, D, us, ws, rs, rfl, s1.seq hP, hR.same s1, SqL.of gD, hC.at_, hok, by omega, fun sb H2 s2 n2 g2 => ?_⟩
  have S2 := s1.trans s2
  have hby := bytes_in hok
  have bl : (bytesK rs).length ≤ 160 := by
    rw [bytes_len]
    have := at_le rs rs.length (Nat.le_refl _)
    omega
  refine ⟨_, rfl, a, ns, _, rfl, S2.seq hA, by decide, by decide, fun v1 H3 s3 => ⟨_, _, rfl, rfl, (by show (0 : Int) < 9; decide), _, _, rfl, rfl, .inl ⟨by decide, by decide⟩, _, _, rfl, rfl, (by show 1 ≤ sizeLine; decide), fun l1 h1' => ?_⟩⟩
  have s4 := same_new h1' (.lst [.int (24 + 8 * (v1 % 9))])
  have g4 := upd_same (H := H3) (a := l1) (o := .lst [.int (24 + 8 * (v1 % 9))])
  generalize upd H3 l1 _ = H4 at s4 g4 ⊢
  have S4 := S2.trans (s3.trans s4)
  refine ⟨_, rfl, p, _, rfl, .inl (S4.seq hP), _, _, rfl, rfl, l1, _, _, rfl, rfl, g4, by omega, by omega, ?_, fun l2 h2 => ?_⟩
  · show 1 * (100 - ((us.length : Nat) : Int)).toNat ≤ sizeLine
    exact few_sizeLine (by omega)
  rw [rep_one, show (100 - ((us.length : Nat) : Int)).toNat = 100 - rs.length by omega]
  obtain ⟨s, hs, es⟩ := nine_bare v1
  obtain ⟨rs2, e1, e2, e3⟩ := bare_more hs (100 - rs.length) rs hok
  rw [es] at e3
  have l100 : rs2.length = 100 := by omega
  have s5 := same_new h2 (.lst (List.replicate (100 - rs.length) (V.int (24 + 8 * (v1 % 9)))))
  have g5 := upd_same (H := H4) (a := l2) (o := .lst (List.replicate (100 - rs.length) (V.int (24 + 8 * (v1 % 9)))))
  generalize upd H4 l2 _ = H5 at s5 g5 ⊢
  have S5 := S4.trans s5
  have gb5 := s5 _ _ (s4 _ _ (s3 _ _ g2))
  have eb : (bytesK rs).map V.int ++ List.replicate (100 - rs.length) (V.int (24 + 8 * (v1 % 9))) = (bytesK rs2).map V.int := by rw [e3, List.map_append, List.map_replicate]
  have bl2 : (bytesK rs2).length ≤ 300 := by rw [e3, List.length_append, List.length_replicate]; omega
  clear g2 g4 s3 s4 s5 h1' h2
  refine ⟨_, rfl, _, rfl, sb, l2, _, _, rfl, rfl, SqL.of gb5, SqL.of g5, few_sizeLine (by simp; omega), fun l3 h3 => ?_⟩
  rw [eb]
  have s6 := same_new h3 (.lst ((bytesK rs2).map V.int))
  have g6 := upd_same (H := H5) (a := l3) (o := .lst ((bytesK rs2).map V.int))
  generalize upd H5 l3 _ = H6 at s6 g6 ⊢
  have rb := rows_bytes e2 (by omega)
  refine ⟨l3, _, rfl, SqL.of g6, bytes_in e2, fun rs' hrs f uf H7 s7 n7 g7 hF => ?_, fun i w hw => by rw [rb] at hw; cases hw⟩
  rw [rb] at hrs
  cases hrs
  refine ⟨f, _, rfl, .inl (SqL.of g7), rfl, _, rfl, ?_⟩
  refine ifNn (by rw [hF.1, l100]; rfl) ?_
  dsimp only [tNext]
  have S7 := s6.trans s7
  have gb7 := S7 _ _ gb5
  have gm7 := S7 _ _ g5
  have SA := S5.trans S7
  clear g6 s6 s7 g7 hF n7
  refine ⟨(by show 1 ≤ sizeLine; decide), fun p1 q1 => ?_⟩
  have s8 := same_new q1 (.lst (([24] : List Int).map V.int))
  have g8 : upd H7 p1 (.lst [.int 24]) p1 = some (.lst (([24] : List Int).map V.int)) := upd_same
  have s8 : Same H7 (upd H7 p1 (.lst [.int 24])) := s8
  generalize upd H7 p1 _ = H8 at s8 g8 ⊢
  refine ⟨(by show 1 ≤ sizeLine; decide), fun p2 q2 => ?_⟩
  have s9 := same_new q2 (.lst (([255] : List Int).map V.int))
  have g9 : upd H8 p2 (.lst [.int 255]) p2 = some (.lst (([255] : List Int).map V.int)) := upd_same
  have s9 : Same H8 (upd H8 p2 (.lst [.int 255])) := s9
  generalize upd H8 p2 _ = H9 at s9 g9 ⊢
  refine ⟨(by show 1 ≤ sizeLine; decide), fun p3 q3 => ?_⟩
  have s10 := same_new q3 (.lst (([1] : List Int).map V.int))
  have g10 : upd H9 p3 (.lst [.int 1]) p3 = some (.lst (([1] : List Int).map V.int)) := upd_same
  have s10 : Same H9 (upd H9 p3 (.lst [.int 1])) := s10
  generalize upd H9 p3 _ = H10 at s10 g10 ⊢
  refine ⟨_, _, rfl, rfl, .inl ⟨by decide, by decide⟩, _, _, rfl, rfl, (by show 2 ≤ sizeLine; decide), fun p4 q4 => ?_⟩
  have s11 := same_new q4 (.lst (([8 * 17 + 1, 9] : List Int).map V.int))
  have g11 : upd H10 p4 (.lst [.int (8 * 17 + 1), .int 9]) p4 = some (.lst (([8 * 17 + 1, 9] : List Int).map V.int)) := upd_same
  have s11 : Same H10 (upd H10 p4 (.lst [.int (8 * 17 + 1), .int 9])) := s11
  generalize upd H10 p4 _ = H11 at s11 g11 ⊢
  refine ⟨(by show 4 ≤ sizeLine; decide), fun p5 q5 => ?_⟩
  have s12 := same_new q5 (.lst [.ref p1, .ref p2, .ref p3, .ref p4])
  have g12 := upd_same (H := H11) (a := p5) (o := .lst [.ref p1, .ref p2, .ref p3, .ref p4])
  generalize upd H11 p5 _ = H12 at s12 g12 ⊢
  have S12 := s8.trans (s9.trans (s10.trans (s11.trans s12)))
  refine ⟨_, rfl, a, ns, _, rfl, (SA.trans S12).seq hA, by decide, by decide, fun v2 H13 s13 => ?_⟩
  have hLs : LsAt K H13 [.ref p1, .ref p2, .ref p3, .ref p4] [[24], [255], [1], [8 * 17 + 1, 9]] := by
    refine .cons (SqL.of (s13 _ _ (s12 _ _ (s11 _ _ (s10 _ _ (s9 _ _ g8)))))) (.cons (SqL.of (s13 _ _ (s12 _ _ (s11 _ _ (s10 _ _ g9))))) (.cons (SqL.of (s13 _ _ (s12 _ _ (s11 _ _ g10)))) (.cons (SqL.of (s13 _ _ (s12 _ _ g11))) .nil)))
  obtain ⟨l, hl, pl, hat, hpl⟩ := hLs.pick (n := 4) (by decide) rfl v2
  obtain ⟨k1, k2, k3⟩ := (by decide +kernel : ∀ l ∈ ([[24], [255], [1], [8 * 17 + 1, 9]] : List (List Int)), l ≠ [] ∧ (∀ x ∈ l, 0 ≤ x ∧ x ≤ 255) ∧ l.length ≤ 2) l hl
  refine ⟨_, _, rfl, rfl, (by show (0 : Int) < 4; decide), p5, _, _, .ref pl, rfl, rfl, SqL.of (s13 _ _ g12), hat, ?_⟩
  have S13 := S12.trans s13
  have gb13 := S13 _ _ gb7
  have gm13 := S13 _ _ gm7
  refine ⟨_, rfl, _, rfl, sb, l2, _, _, rfl, rfl, SqL.of gb13, SqL.of gm13, few_sizeLine (by simp; omega), fun l4 h4 => ?_⟩
  rw [eb]
  have s14 := same_new h4 (.lst ((bytesK rs2).map V.int))
  have g14 := upd_same (H := H13) (a := l4) (o := .lst ((bytesK rs2).map V.int))
  generalize upd H13 l4 _ = H14 at s14 g14 ⊢
  refine ⟨_, rfl, l4, pl, _, _, rfl, rfl, SqL.of g14, s14.seq hpl, few_sizeLine (by simp; omega), fun l5 h5 => ?_⟩
  have s15 : Same H14 (upd H14 l5 (.lst ((bytesK rs2).map V.int ++ l.map V.int))) := same_new h5 _
  have g15 : upd H14 l5 (.lst ((bytesK rs2).map V.int ++ l.map V.int)) l5 = some (.lst ((bytesK rs2 ++ l).map V.int)) := by rw [upd_same, List.map_append]
  generalize upd H14 l5 _ = H15 at s15 g15 ⊢
  refine ⟨l5, _, _, "many", rfl, SqL.of g15, byt_app (bytes_in e2) k2, many_err e2 l100 k1, fun t5 H16 s16 hT5 => ?_⟩
  have S16 := s14.trans (s15.trans s16)
  refine ⟨_, rfl, _, rfl, sb, l2, _, _, rfl, rfl, SqL.of (S16 _ _ gb13), SqL.of (S16 _ _ gm13), few_sizeLine (by simp; omega), fun l6 h6 => ?_⟩
  rw [eb]
  have s17 := same_new h6 (.lst ((bytesK rs2).map V.int))
  have g17 := upd_same (H := H16) (a := l6) (o := .lst ((bytesK rs2).map V.int))
  generalize upd H16 l6 _ = H17 at s17 g17 ⊢
  refine ⟨l6, _, rfl, .inl (SqL.of g17), (by show 2 ≤ sizeLine; decide), fun t6 h6' => ?_⟩
  have lm : ((bytesK rs2).map V.int).length = (bytesK rs2).length := List.length_map ..
  have s18 : Same H17 (upd H17 t6 (.tup [.int ((((bytesK rs2).map V.int).length : Nat) : Int), .str "many"])) := same_new h6' _
  have g18 : upd H17 t6 (.tup [.int ((((bytesK rs2).map V.int).length : Nat) : Int), .str "many"]) t6 = some (.tup [.int (((bytesK rs2).length : Nat) : Int), .str "many"]) := by rw [upd_same, lm]
  generalize upd H17 t6 _ = H18 at s18 g18 ⊢
  have kn : ("many" : Str) ∈ codeW := by decide +kernel
  refine ⟨_, _, RdV.tup' ((s17.trans s18).tup hT5) (.cons (.int _) (.cons (.str _) .nil)), RdV.tup' (SqT.of g18) (.cons (.int _) (.cons (.str _) .nil)), iw_ok _ kn, iw_ok _ kn, ?_⟩
  rw [iw_self _ kn]
  exact q H18 (SA.trans (S13.trans (S16.trans (s17.trans s18))))
theorem sc__law_long : FnScope ["_law_cell_here", "_law_size_here", "_law_word_here", "_law_edge"] ["_law_cell_here"] (defScope s_law_long) := ⟨rfl, rfl, rfl, by decide +kernel, rfl, by decide +kernel, by decide +kernel⟩
theorem ok__law_long {f : Addr} {fd : FuncData} (F : Fun K "_law_long" "_law_long" s_law_long f fd) (h__law_ended : Has P w K mg base CX0 "_law_ended" 1 ["_law_number", "_law_size_here"] (sp_law_ended K)) : FnOk P w K mg base CX0 2 f fd ["_law_cell_here"] (sp_law_long K) := by
  refine F.ok sc__law_long (fun vs H Q E h => ?_) (fun cdv A outer s H vs Q E hr h => ?_)
  · obtain ⟨c, rfl, q⟩ := h
    rfl
  obtain ⟨c, rfl, q⟩ := h
  refine ⟨_, (pss_cons (ps_set (i := 1) sc__law_long.nd rfl (Or.inl rfl) (pe_op op_add pe_int (pe_op op_mod (pv 0) pe_int)))
      (pss_cons (ps_set (i := 2) sc__law_long.nd rfl (Or.inl rfl) pe_int)
      (pss_cons (ps_if (pt_cmpR op_gt (pv 1) pe_int (nomark _)) (pss_cons (ps_set (i := 3) sc__law_long.nd rfl (Or.inl rfl) (pe_op op_shl pe_int (pe_op op_sub (pe_op op_mul pe_int (pe_op op_sub (pv 1) pe_int)) pe_int)))
      (pss_cons (ps_set (i := 2) sc__law_long.nd rfl (Or.inl rfl) (pe_op op_sub (pe_op op_mod (pe_op op_mul (pe_op op_fdiv (pv 0) pe_int) pe_int) (pe_op op_mul pe_int (pv 3))) (pv 3)))
      (pss_one (ps_if (pt_cmpR op_eq (pe_op op_mod (pe_op op_fdiv (pv 0) pe_int) pe_int) pe_int (nomark _)) (pss_one (ps_set (i := 2) sc__law_long.nd rfl (Or.inl rfl) (pe_ix ix_list (pe_lst (pa_cons (pe_op op_sub (pv 3) pe_int) (pa_cons (pe_op op_sub pe_int (pv 3)) pa_nil))) (pe_op op_mod (pe_op op_fdiv (pv 0) pe_int) pe_int) (fun _ _ => rfl)))) pss_nil)))) pss_nil)
      (pss_one (ps_ret (pe_op op_catS (pe_lst (pa_cons (pv 1) pa_nil)) (pe_ch h__law_ended (hr.mono (by decide)) rfl (pa_cons (pv 2) (pa_cons (pv 1) pa_nil))))))))), ?_⟩
  obtain ⟨j, ej, lj⟩ := modN (e := c) (n := 4) (by decide)
  have ej : c % 4 = (j : Int) := ej
  obtain ⟨k, hk⟩ : ∃ k : Nat, k = 1 + j := ⟨_, rfl⟩
  refine ⟨_, rfl, _, _, rfl, rfl, (by show (0 : Int) < 4; decide), _, _, rfl, rfl, ?_⟩
  dsimp only [gName]
  rw [show 1 + c % 4 = (k : Int) by omega]
  refine cutR (R := ?R) (fun σ' H' => ∃ (w : Int) (o : Option V), Same H H' ∧ psz w < k ∧ σ' = [some (.int c), some (.int (k : Int)), some (.int w), o]) (fun kk => ?mm) ?kk
  case mm =>
    refine ⟨_, rfl, _, _, rfl, rfl, _, rfl, ite2 (fun z => ?_) (fun z => ?_)⟩
    · have k2 : (1 : Int) < (k : Int) := of_decide_eq_true z
      obtain ⟨e, he, hE⟩ : ∃ e : Int, (1 * 2 ^ (8 * ((k : Int) - 1) - 1).toNat : Int) = e ∧ ((k = 2 ∧ e = 128) ∨ (k = 3 ∧ e = 32768) ∨ (k = 4 ∧ e = 8388608)) := by
        rcases (by omega : k = 2 ∨ k = 3 ∨ k = 4) with rfl | rfl | rfl
        · exact ⟨128, by decide, .inl ⟨rfl, rfl⟩⟩
        · exact ⟨32768, by decide, .inr (.inl ⟨rfl, rfl⟩)⟩
        · exact ⟨8388608, by decide, .inr (.inr ⟨rfl, rfl⟩)⟩
      have e0 : 0 < e ∧ e ≤ 8388608 := by omega
      refine ⟨_, rfl, _, _, rfl, rfl, _, _, rfl, rfl, .inl ⟨by decide, by decide⟩, _, _, rfl, rfl, _, _, rfl, rfl, ⟨by omega, by omega, by decide⟩, ?_⟩
      dsimp only [gName]
      rw [he]
      refine ⟨_, rfl, _, _, rfl, rfl, ⟨by decide, by decide⟩, _, _, rfl, rfl, .inr ⟨by decide, by decide⟩, _, rfl, _, _, rfl, rfl, .inl ⟨by decide, by decide⟩, _, _, rfl, rfl, (by show (0 : Int) < 2 * e; omega), _, rfl, _, _, rfl, rfl, ?_⟩
      have w1 := Int.emod_nonneg (c / 4 * 7919) (show 2 * e ≠ 0 by omega)
      have w2 := Int.emod_lt_of_pos (c / 4 * 7919) (show 0 < 2 * e by omega)
      refine ⟨_, rfl, _, _, rfl, rfl, ⟨by decide, by decide⟩, _, _, rfl, rfl, (by show (0 : Int) < 3; decide), rfl, _, rfl, ite2 (fun y => ?_) (fun y => ?_)⟩
      · obtain ⟨v, hv, hv2⟩ := two_at' (e - 1) (0 - e) (c / 9)
        refine ⟨_, rfl, _, _, rfl, rfl, _, rfl, _, _, rfl, rfl, (by show 2 ≤ sizeLine; decide), fun D hD => ?_⟩
        refine ⟨_, rfl, _, _, rfl, rfl, ⟨by decide, by decide⟩, _, _, rfl, rfl, (by show (0 : Int) < 2; decide), D, _, _, .int v, rfl, rfl, SqL.of upd_same, hv, ?_⟩
        dsimp only [gName]
        exact kk _ _ ⟨v, _, same_new hD _, psz_lt (by omega) (by omega) hE (by omega), rfl⟩
      · dsimp only [tNext]
        exact kk _ _ ⟨_, _, Same.refl _, psz_lt (by omega) (by omega) hE ⟨by omega, by omega⟩, rfl⟩
    · dsimp only [tNext]
      exact kk _ _ ⟨0, _, Same.refl _, by show 0 < k; omega, rfl⟩
  rintro σ' H1 ⟨w, o, s1, hp, rfl⟩
  refine ⟨_, rfl, (by show 1 ≤ sizeLine; decide), fun l1 h1 => ?_⟩
  have s2 := same_new h1 (.lst [.int (k : Int)])
  have g2 := upd_same (H := H1) (a := l1) (o := .lst [.int (k : Int)])
  generalize upd H1 l1 _ = H2 at s2 g2 ⊢
  refine ⟨_, rfl, _, rfl, w, k, rfl, by omega, fun l2 H3 s3 n3 g3 => ?_⟩
  refine ⟨l1, l2, _, _, rfl, rfl, SqL.of (s3 _ _ g2), SqL.of g3, few_sizeLine (by simp [split_len]; omega), fun l3 h3 => ?_⟩
  have S3 := s1.trans (s2.trans s3)
  exact q l3 ((k : Int) :: splitK w k) _ (S3.trans (same_new h3 _)) (fresh_of S3 h3) upd_same (wr_long (by omega) (by omega) hp)
theorem sc__law_low : FnScope ["_law_cell_here", "_law_signs_here"] ["_law_cell_here"] (defScope s_law_low) := ⟨rfl, rfl, rfl, by decide +kernel, rfl, by decide +kernel, by decide +kernel⟩
def lowE : Expr := match (defBody s_law_low).getD 0 (.Pass ⟨0, 0, 0, 0⟩) with | .Assign _ e _ => e | _ => .Constant .none 0 ⟨0, 0, 0, 0⟩
theorem low_okw {X : Cx} : PEw X lowE (tLst (tCons (tC (.int 3)) (tCons (tC (.int 4)) (tCons (tC (.int 5)) (tCons (tC (.int 6)) (tCons (tC (.int 7)) (tCons (tC (.int 8)) (tCons (tC (.int 9)) (tCons (tC (.int 10)) (tCons (tC (.int 11)) (tCons (tC (.int 12)) (tCons (tC (.int 13)) (tCons (tC (.int 14)) (tCons (tC (.int 22)) (tCons (tC (.int 23)) (tCons (tC (.int 24)) tNil)))))))))))))))) := by
  constructor
  show PE X (.List [_, _, _, _, _, _, _, _, _, _, _, _, _, _, _] _) _
  refine pe_lst15 ?_ ?_ ?_ ?_ ?_ ?_ ?_ ?_ ?_ ?_ ?_ ?_ ?_ ?_ ?_ ?_ ?_ ?_ ?_ ?_ ?_ ?_ ?_ ?_ ?_ ?_ ?_ ?_ ?_ ?_
  · exact pe_int
  · exact ns_C
  · exact pe_int
  · exact ns_C
  · exact pe_int
  · exact ns_C
  · exact pe_int
  · exact ns_C
  · exact pe_int
  · exact ns_C
  · exact pe_int
  · exact ns_C
  · exact pe_int
  · exact ns_C
  · exact pe_int
  · exact ns_C
  · exact pe_int
  · exact ns_C
  · exact pe_int
  · exact ns_C
  · exact pe_int
  · exact ns_C
  · exact pe_int
  · exact ns_C
  · exact pe_int
  · exact ns_C
  · exact pe_int
  · exact ns_C
  · exact pe_int
  · exact ns_C
theorem ok__law_low {f : Addr} {fd : FuncData} (F : Fun K "_law_low" "_law_low" s_law_low f fd) : FnOk P w K mg base CX0 1 f fd ["_law_cell_here"] (sp_law_low K) := by
  refine F.ok sc__law_low (fun vs H Q E h => ?_) (fun cdv A outer s H vs Q E hr h => ?_)
  · obtain ⟨c, rfl, q⟩ := h
    rfl
  obtain ⟨c, rfl, q⟩ := h
  refine ⟨_, (@pss_consW _ _ _ _ _ (psw_setL (i := 1) sc__law_low.nd rfl (Or.inl rfl) low_okw (.inr rfl))
      (@pss_cons _ _ _ _ _ (ps_if (pt_cmpR op_eq (pe_op op_mod (pv 0) pe_int) pe_int (nomark _)) (pss_one (ps_ret (pe_lst (pa_cB (pe_op op_add pe_int (pe_op op_mod (pe_op op_fdiv (pv 0) pe_int) pe_int)) pa_nil)))) pss_nil)
      (@pss_one _ _ _ (ps_ret (pe_lst (pa_cB (pe_op op_add (pe_op op_add (pe_op op_mul pe_int (pe_ix ix_list (pv 1) (pe_op op_mod (pe_op op_fdiv (pv 0) pe_int) pe_int) (fun _ _ => rfl))) pe_int) (pe_op op_mod (pe_op op_fdiv (pv 0) pe_int) pe_int)) (pa_cC pe_int (pa_cC pe_int pa_nil)))))))), ?_⟩
  refine ⟨(by show 15 ≤ sizeLine; decide), fun p1 h1 => ?_⟩
  have s1 := same_new h1 (.lst (lowSg.map V.int))
  have g1 : upd H p1 (.lst [.int 3, .int 4, .int 5, .int 6, .int 7, .int 8, .int 9, .int 10, .int 11, .int 12, .int 13, .int 14, .int 22, .int 23, .int 24]) p1 = some (.lst (lowSg.map V.int)) := upd_same
  have s1 : Same H (upd H p1 (.lst [.int 3, .int 4, .int 5, .int 6, .int 7, .int 8, .int 9, .int 10, .int 11, .int 12, .int 13, .int 14, .int 22, .int 23, .int 24])) := s1
  generalize upd H p1 _ = H1 at s1 g1 ⊢
  refine ⟨_, rfl, _, _, rfl, rfl, (by show (0 : Int) < 4; decide), rfl, _, rfl, ite2 (fun z => ?_) (fun z => ?_)⟩
  · refine ⟨_, rfl, _, _, rfl, rfl, ⟨by decide, by decide⟩, _, _, rfl, rfl, (by show (0 : Int) < 3; decide), _, _, rfl, rfl, (by show 1 ≤ sizeLine; decide), fun p2 h2 => ?_⟩
    refine q p2 [5 + c / 4 % 3] _ (s1.trans (same_new h2 _)) (fresh_of s1 h2) upd_same ?_
    refine wr_low (s := "push") (by omega) (fun x h => nomatch h) (by simp) (by rw [show ((5 + c / 4 % 3) / 8).toNat = 0 by omega]; rfl) ?_
    rw [low_of (show lowW "push" = some ("word" : Str) by decide +kernel)]
    exact decide_eq_false (by omega)
  dsimp only [tNext]
  obtain ⟨x, hx, hxa⟩ := pickI (l := lowSg) (n := 15) (by decide) rfl (c / 4)
  obtain ⟨x0, x1, s, hs, es, el⟩ := low_sg x hx
  refine ⟨_, rfl, _, rfl, _, _, rfl, rfl, ⟨by decide, by decide⟩, _, _, rfl, rfl, (by show (0 : Int) < 15; decide), p1, _, _, .int x, rfl, rfl, SqL.of g1, hxa, _, _, rfl, rfl, .inl ⟨by decide, by decide⟩, _, _, rfl, rfl, _, rfl, _, _, rfl, rfl, ⟨by decide, by decide⟩, _, _, rfl, rfl, (by show (0 : Int) < 7; decide), _, _, rfl, rfl, (by show 3 ≤ sizeLine; decide), fun p2 h2 => ?_⟩
  refine q p2 [8 * x + 1 + c / 60 % 7, 0, 0] _ (s1.trans (same_new h2 _)) (fresh_of s1 h2) upd_same ?_
  refine wr_low (s := s) (by omega) (fun x h => by simp at h; omega) (by simp) (by rw [show ((8 * x + 1 + c / 60 % 7) / 8).toNat = x.toNat by omega]; exact es) ?_
  rw [low_of el]
  exact decide_eq_false (by omega)
theorem sc__law_wrong : FnScope ["_law_way", "_law_cell_here"] ["_law_way", "_law_cell_here"] (defScope s_law_wrong) := ⟨rfl, rfl, rfl, by decide +kernel, rfl, by decide +kernel, by decide +kernel⟩
def w1E : Expr := match (defBody s_law_wrong).getD 0 (.Pass ⟨0, 0, 0, 0⟩) with | .If _ (.Return (some e) _ :: _) _ _ => e | _ => .Constant .none 0 ⟨0, 0, 0, 0⟩
def w4E : Expr := match (defBody s_law_wrong).getD 3 (.Pass ⟨0, 0, 0, 0⟩) with | .Return (some e) _ => e | _ => .Constant .none 0 ⟨0, 0, 0, 0⟩
theorem w1_ok {X : Cx} (hv : ∀ t, PE X (.Name "_law_cell_here" t) (tVar 1)) : PEw X w1E (tTup (tCons (tC (.str "word")) (tCons (tLst (tCons (tOp (rI0 fun i j => .int (i + j)) (tOp (rI CMul fun i j => .int (i * j)) (tC (.int 8)) (tOp (rI0 fun i j => .int (i + j)) (tC (.int 25)) (tOp (rI (fun _ j => 0 < j) fun i j => .int (i % j)) (tVar 1) (tC (.int 7))))) (tOp (rI (fun _ j => 0 < j) fun i j => .int (i % j)) (tOp (rI CDiv fun i j => .int (i / j)) (tVar 1) (tC (.int 7))) (tC (.int 8)))) (tCons (tOp (rI (fun _ j => 0 < j) fun i j => .int (i % j)) (tOp (rI CDiv fun i j => .int (i / j)) (tVar 1) (tC (.int 56))) (tC (.int 256))) tNil))) tNil))) := by
  constructor
  show PE X (.Tuple [.Constant _ _ _, .List [.BinOp _ _ _ _, .BinOp _ _ _ _] _] _ _) _
  refine pe_tup (pa_cC pe_str (pa_cL ?_ pa_nil))
  refine pe_lst (pa_cB ?_ (pa_cB ?_ pa_nil))
  · refine pe_op op_add ?_ ?_
    · refine pe_op op_mul pe_int ?_
      refine pe_op op_add pe_int ?_
      exact pe_op op_mod (hv _) pe_int
    · refine pe_op op_mod ?_ pe_int
      exact pe_op op_fdiv (hv _) pe_int
  · refine pe_op op_mod ?_ pe_int
    exact pe_op op_fdiv (hv _) pe_int
theorem w4_ok {X : Cx} (hv : ∀ t, PE X (.Name "_law_cell_here" t) (tVar 1)) : PEw X w4E (tTup (tCons (tC (.str "low")) (tCons (tLst (tCons (tOp (rI0 fun i j => .int (i + j)) (tOp (rI CMul fun i j => .int (i * j)) (tC (.int 8)) (tOp (rIxL X.K) (tLst (tCons (tC (.int 17)) (tCons (tC (.int 19)) (tCons (tC (.int 20)) tNil)))) (tOp (rI (fun _ j => 0 < j) fun i j => .int (i % j)) (tVar 1) (tC (.int 3))))) (tOp (rI (fun _ j => 0 < j) fun i j => .int (i % j)) (tOp (rI CDiv fun i j => .int (i / j)) (tVar 1) (tC (.int 3))) (tC (.int 8)))) (tCons (tOp (rI0 fun i j => .int (i + j)) (tC (.int 8)) (tOp (rI (fun _ j => 0 < j) fun i j => .int (i % j)) (tOp (rI CDiv fun i j => .int (i / j)) (tVar 1) (tC (.int 24))) (tC (.int 248)))) tNil))) tNil))) := by
  constructor
  show PE X (.Tuple [.Constant _ _ _, .List [.BinOp (.BinOp _ _ (.Subscript (.List [_, _, _] _) (.BinOp _ _ _ _) _) _) _ _ _, .BinOp _ _ _ _] _] _ _) _
  refine pe_tup ?_
  refine pa_cC ?_ ?_
  · exact pe_str
  refine pa_cL ?_ ?_
  · refine pe_lst ?_
    refine pa_cB ?_ ?_
    · refine pe_op op_add ?_ ?_
      · refine pe_op op_mul ?_ ?_
        · exact pe_int
        refine pe_ix ix_list ?_ ?_ ?_
        · refine pe_lst ?_
          refine pa_cC ?_ ?_
          · exact pe_int
          refine pa_cC ?_ ?_
          · exact pe_int
          refine pa_cC ?_ ?_
          · exact pe_int
          exact pa_nil
        · refine pe_op op_mod ?_ ?_
          · exact hv _
          · exact pe_int
        · exact fun _ _ => rfl
      · refine pe_op op_mod ?_ ?_
        · refine pe_op op_fdiv ?_ ?_
          · exact hv _
          · exact pe_int
        · exact pe_int
    · refine pa_cB ?_ ?_
      · refine pe_op op_add ?_ ?_
        · exact pe_int
        refine pe_op op_mod ?_ ?_
        · refine pe_op op_fdiv ?_ ?_
          · exact hv _
          · exact pe_int
        · exact pe_int
      · exact pa_nil
  · exact pa_nil
theorem ok__law_wrong {f : Addr} {fd : FuncData} (F : Fun K "_law_wrong" "_law_wrong" s_law_wrong f fd) (h__law_long : Has P w K mg base CX0 "_law_long" 2 ["_law_cell_here"] (sp_law_long K)) (h__law_low : Has P w K mg base CX0 "_law_low" 1 ["_law_cell_here"] (sp_law_low K)) : FnOk P w K mg base CX0 3 f fd ["_law_way", "_law_cell_here"] (sp_law_wrong K) := by
  refine F.ok sc__law_wrong (fun vs H Q E h => ?_) (fun cdv A outer s H vs Q E hr h => ?_)
  · obtain ⟨j, c, rfl, j0, j4, q⟩ := h
    rfl
  obtain ⟨j, c, rfl, j0, j4, q⟩ := h
  have hv : ∀ t, PE (cxOf CX0 P w K mg base ["_law_way", "_law_cell_here"] "_law_wrong" (defScope s_law_wrong) f cdv A outer s H E).nox (.Name "_law_cell_here" t) (tVar 1) := fun _ => pv 1
  have e1 := w1_ok hv
  have e4 := w4_ok hv
  refine ⟨_, (@pss_cons _ _ _ _ _ (ps_if (pt_cmpR op_eq (pv 0) pe_int (nomark _)) (pss_one (ps_retW e1)) pss_nil)
      (@pss_cons _ _ _ _ _ (ps_if (pt_cmpR op_eq (pv 0) pe_int (nomark _)) (pss_one (ps_ret (pe_tup (pa_cC pe_str (pa_cons (pe_ch h__law_low (hr.mono (by decide)) rfl (pa_cons (pv 1) pa_nil)) pa_nil))))) pss_nil)
      (@pss_cons _ _ _ _ _ (ps_if (pt_cmpR op_eq (pv 0) pe_int (nomark _)) (pss_one (ps_ret (pe_tup (pa_cC pe_str (pa_cons (pe_ch h__law_long (hr.mono (by decide)) rfl (pa_cons (pv 1) pa_nil)) pa_nil))))) pss_nil)
      (@pss_one _ _ _ (ps_retW e4))))), ?_⟩
  refine ⟨_, rfl, rfl, _, rfl, ite2 (fun z => ?_) (fun z => ?_)⟩
  · refine ⟨_, rfl, _, _, rfl, rfl, (by show (0 : Int) < 7; decide), _, _, rfl, rfl, _, _, rfl, rfl, .inl ⟨by decide, by decide⟩, _, rfl, _, _, rfl, rfl, ⟨by decide, by decide⟩, _, _, rfl, rfl, (by show (0 : Int) < 8; decide), _, _, rfl, rfl, _, rfl, _, _, rfl, rfl, ⟨by decide, by decide⟩, _, _, rfl, rfl, (by show (0 : Int) < 256; decide), (by show 2 ≤ sizeLine; decide), fun p hp => ?_⟩
    have s1 := same_new hp (.lst ([8 * (25 + c % 7) + c / 7 % 8, c / 56 % 256].map V.int))
    have g1 : upd H p (.lst [.int (8 * (25 + c % 7) + c / 7 % 8), .int (c / 56 % 256)]) p = some (.lst ([8 * (25 + c % 7) + c / 7 % 8, c / 56 % 256].map V.int)) := upd_same
    have s1 : Same H (upd H p (.lst [.int (8 * (25 + c % 7) + c / 7 % 8), .int (c / 56 % 256)])) := s1
    generalize upd H p _ = H1 at s1 g1 ⊢
    refine ⟨(by show 2 ≤ sizeLine; decide), fun t ht => ?_⟩
    have s2 := same_new ht (.tup [.str "word", .ref p])
    exact q t p "word" _ _ (s1.trans s2) (SqT.of upd_same) hp (s2 _ _ g1) (wr_word (by omega) (by omega) (by omega))
  dsimp only [tNext]
  refine ⟨_, rfl, rfl, _, rfl, ite2 (fun z1 => ?_) (fun z1 => ?_)⟩
  · refine ⟨_, rfl, c, rfl, fun p l H1 s1 n1 g1 hw => ⟨(by show 2 ≤ sizeLine; decide), fun t ht => ?_⟩⟩
    have s2 := same_new ht (.tup [.str "low", .ref p])
    exact q t p "low" l _ (s1.trans s2) (SqT.of upd_same) n1 (s2 _ _ g1) hw
  dsimp only [tNext]
  refine ⟨_, rfl, rfl, _, rfl, ite2 (fun z2 => ?_) (fun z2 => ?_)⟩
  · refine ⟨_, rfl, c, rfl, fun p l H1 s1 n1 g1 hw => ⟨(by show 2 ≤ sizeLine; decide), fun t ht => ?_⟩⟩
    have s2 := same_new ht (.tup [.str "long", .ref p])
    exact q t p "long" l _ (s1.trans s2) (SqT.of upd_same) n1 (s2 _ _ g1) hw
  dsimp only [tNext]
  obtain ⟨x, hx, hxa⟩ := pickI (l := [17, 19, 20]) (n := 3) (by decide) rfl c
  obtain ⟨x0, x1, s, hs, es⟩ := (by decide +kernel : ∀ x ∈ ([17, 19, 20] : List Int), 0 ≤ x ∧ x ≤ 24 ∧ ∃ s ∈ fldL, signsL[x.toNat]? = some s) x hx
  refine ⟨(by show 3 ≤ sizeLine; decide), fun D hD => ?_⟩
  have s0 := same_new hD (.lst (([17, 19, 20] : List Int).map V.int))
  have g0 : upd H D (.lst [.int 17, .int 19, .int 20]) D = some (.lst (([17, 19, 20] : List Int).map V.int)) := upd_same
  have s0 : Same H (upd H D (.lst [.int 17, .int 19, .int 20])) := s0
  generalize upd H D _ = H0 at s0 g0 ⊢
  refine ⟨_, rfl, _, _, rfl, rfl, (by show (0 : Int) < 3; decide), D, _, _, .int x, rfl, rfl, SqL.of g0, hxa, _, _, rfl, rfl, .inl ⟨by decide, by decide⟩, _, rfl, _, _, rfl, rfl, ⟨by decide, by decide⟩, _, _, rfl, rfl, (by show (0 : Int) < 8; decide), _, _, rfl, rfl, _, rfl, _, _, rfl, rfl, ⟨by decide, by decide⟩, _, _, rfl, rfl, (by show (0 : Int) < 248; decide), _, _, rfl, rfl, (by show 2 ≤ sizeLine; decide), fun p hp => ?_⟩
  have s1 := same_new hp (.lst ([8 * x + c / 3 % 8, 8 + c / 24 % 248].map V.int))
  have g1 : upd H0 p (.lst [.int (8 * x + c / 3 % 8), .int (8 + c / 24 % 248)]) p = some (.lst ([8 * x + c / 3 % 8, 8 + c / 24 % 248].map V.int)) := upd_same
  have s1 : Same H0 (upd H0 p (.lst [.int (8 * x + c / 3 % 8), .int (8 + c / 24 % 248)])) := s1
  generalize upd H0 p _ = H1 at s1 g1 ⊢
  refine ⟨(by show 2 ≤ sizeLine; decide), fun t ht => ?_⟩
  have s2 := same_new ht (.tup [.str "low", .ref p])
  exact q t p "low" _ _ (s0.trans (s1.trans s2)) (SqT.of upd_same) (fresh_of s0 hp) (s2 _ _ g1) (wr_field (s := s) (by omega) (by rw [show ((8 * x + c / 3 % 8) / 8).toNat = x.toNat by omega]; exact es) hs (by omega))
theorem sc__law_put_in : FnScope ["_law_script", "_law_rows_here", "_law_cell_here", "_law_way", "_law_at", "_law_chunks", "_law_word_here", "_law_wrong_here", "_law_behind", "_law_start", "_law_other", "_law_more", "_law_some", "_law_ahead"] ["_law_script", "_law_rows_here"] (defScope s_law_put_in) := ⟨rfl, rfl, rfl, by decide +kernel, rfl, by decide +kernel, by decide +kernel⟩
theorem ok__law_put_in {f : Addr} {fd : FuncData} (F : Fun K "_law_put_in" "_law_put_in" s_law_put_in f fd) (z_len : mg "len" = none) (z_sum : mg "sum" = none) (h__law_bytes : Has P w K mg base CX0 "_law_bytes" 2 ["_law_rows_here", "_law_chunks"] (sp_law_bytes K)) (h__law_cell : Has P w K mg base CX0 "_law_cell" 1 ["_law_script", "_law_k"] (sp_law_cell K)) (h__law_chunk : Has P w K mg base CX0 "_law_chunk" 2 ["_law_row_here"] (sp_law_chunk K)) (h__law_told : Has P w K mg base CX0 "_law_told" 6 ["_law_some"] (sp_law_told K)) (h__law_wrong : Has P w K mg base CX0 "_law_wrong" 3 ["_law_way", "_law_cell_here"] (sp_law_wrong K)) : FnOk P w K mg base CX0 7 f fd ["_law_script", "_law_rows_here"] (sp_law_put_in K) := by
  refine F.ok sc__law_put_in (fun vs H Q E h => ?_) (fun cdv A outer s H vs Q E hr h => ?_)
  · obtain ⟨a, p, ns, us, rs, rfl, hA, hP, hR, hok, h1, h31, q⟩ := h
    rfl
  obtain ⟨a, p, ns, us, rs, rfl, hA, hP, hR, hok, h1, h31, q⟩ := h
  refine ⟨_, (pss_cons (ps_set (i := 2) sc__law_put_in.nd rfl (Or.inl rfl) (pe_ch h__law_cell (hr.mono (by decide)) rfl (pa_cons (pv 0) (pa_cons pe_int pa_nil))))
      (pss_cons (ps_set (i := 3) sc__law_put_in.nd rfl (Or.inl rfl) (pe_op op_mod (pe_ch h__law_cell (hr.mono (by decide)) rfl (pa_cons (pv 0) (pa_cons pe_int pa_nil))) pe_int))
      (pss_cons (ps_set (i := 4) sc__law_put_in.nd rfl (Or.inl rfl) (pe_op op_mod (pv 2) (pe_op op_add (pe_callB call_len_seq rfl z_len bt_len (pa_cons (pv 1) pa_nil)) pe_int)))
      (pss_cons (ps_setLC (i := 5) sc__law_put_in.nd rfl (Or.inl rfl) 1 ["_law_row_here"] [] ⟨rfl, rfl, rfl, rfl, rfl, rfl, rfl, rfl⟩ (pi_list (pv 1)) (fun _ _ _ _ => ⟨(pg_name (i := 0) (show List.Nodup (["_law_row_here"] : List Str) by decide +kernel) rfl (Or.inl rfl)), pif_nil, (pe_ch h__law_chunk (hr.mono (by decide)) rfl (pa_cons (pv 0) pa_nil))⟩))
      (pss_cons (ps_asg (pe_ch h__law_wrong (hr.mono (by decide)) rfl (pa_cons (pv 3) (pa_cons (pe_op op_fdiv (pv 2) pe_int) pa_nil))) (pg_tup rfl (pgs_cons (pg_name (i := 6) sc__law_put_in.nd rfl (Or.inl rfl)) (pgs_cons (pg_name (i := 7) sc__law_put_in.nd rfl (Or.inl rfl)) pgs_nil))))
      (pss_cons (ps_set (i := 8) sc__law_put_in.nd rfl (Or.inl rfl) (pe_ch h__law_bytes (hr.mono (by decide)) rfl (pa_cons (pv 1) (pa_cons (pv 5) pa_nil))))
      (pss_cons (ps_set (i := 9) sc__law_put_in.nd rfl (Or.inl rfl) (pe_callB (call_sumP rfl) rfl z_sum bt_sum (pa_cons (pe_lc 1 ["_law_chunk_here"] [] ⟨rfl, rfl, rfl, rfl, rfl, rfl, rfl, rfl⟩ (pi_list (pe_slice sl_list (pv 5) po_none (po_some (pv 4)))) (fun _ _ _ _ => ⟨(pg_name (i := 0) (show List.Nodup (["_law_chunk_here"] : List Str) by decide +kernel) rfl (Or.inl rfl)), pif_nil, (pe_callB (r := rLen K) call_len_seq rfl z_len bt_len (pa_cons (pv 0) pa_nil))⟩)) pa_nil)))
      (pss_cons (ps_if (pt_cmpR op_eq (pe_op op_mod (pe_ch h__law_cell (hr.mono (by decide)) rfl (pa_cons (pv 0) (pa_cons pe_int pa_nil))) pe_int) pe_int (nomark _)) (pss_cons (ps_asg (pe_ch h__law_wrong (hr.mono (by decide)) rfl (pa_cons (pe_op op_mod (pe_ch h__law_cell (hr.mono (by decide)) rfl (pa_cons (pv 0) (pa_cons pe_int pa_nil))) pe_int) (pa_cons (pe_op op_fdiv (pe_ch h__law_cell (hr.mono (by decide)) rfl (pa_cons (pv 0) (pa_cons pe_int pa_nil))) pe_int) pa_nil))) (pg_tup rfl (pgs_cons (pg_name (i := 10) sc__law_put_in.nd rfl (Or.inl rfl)) (pgs_cons (pg_name (i := 11) sc__law_put_in.nd rfl (Or.inl rfl)) pgs_nil))))
      (pss_one (ps_set (i := 8) sc__law_put_in.nd rfl (Or.inl rfl) (pe_op op_catS (pv 8) (pv 11))))) pss_nil)
      (pss_cons (ps_set (i := 12) sc__law_put_in.nd rfl (Or.inl rfl) (pe_op op_catS (pe_op op_catS (pe_slice sl_list (pv 8) po_none (po_some (pv 9))) (pv 7)) (pe_slice sl_list (pv 8) (po_some (pv 9)) po_none)))
      (pss_cons (ps_set (i := 13) sc__law_put_in.nd rfl (Or.inl rfl) pe_int)
      (pss_cons (ps_if (pt_cmpR op_eq (pe_op op_mod (pe_ch h__law_cell (hr.mono (by decide)) rfl (pa_cons (pv 0) (pa_cons pe_int pa_nil))) pe_int) pe_int (nomark _)) (pss_cons (ps_set (i := 12) sc__law_put_in.nd rfl (Or.inl rfl) (pe_op op_catS (pe_lst (pa_cons (pe_op op_mul pe_int pe_int) (pa_cons pe_int (pa_cons (pe_op op_sub pe_int (pe_op op_mod (pv 2) pe_int)) pa_nil)))) (pv 12)))
      (pss_one (ps_set (i := 13) sc__law_put_in.nd rfl (Or.inl rfl) pe_int))) pss_nil)
      (pss_one (ps_ret (pe_cmpR (op_eqD (hr.units)) (pe_ch h__law_told (hr.mono (by decide)) rfl (pa_cons (pv 12) pa_nil)) (pe_tup (pa_cons (pe_op op_add (pv 9) (pv 13)) (pa_cons (pv 6) pa_nil))) (nomark _))))))))))))))), ?_⟩
  have ul : us.length = rs.length := hR.1
  refine ⟨_, rfl, a, ns, _, rfl, hA, by decide, by decide, fun v1 H1 s1 => ?_⟩
  refine ⟨_, rfl, a, ns, _, rfl, s1.seq hA, by decide, by decide, fun v0 H2 s2 => ⟨_, _, rfl, rfl, (by show (0 : Int) < 4; decide), ?_⟩⟩
  have S2 := s1.trans s2
  obtain ⟨k, ek, lk⟩ := modN (e := v1) (n := rs.length + 1) (by omega)
  have ek : v1 % (((us.length : Nat) : Int) + 1) = (k : Int) := by rw [ul]; exact ek
  refine ⟨_, rfl, _, rfl, p, _, rfl, .inl (S2.seq hP), _, _, rfl, rfl, _, _, rfl, rfl, (by show (0 : Int) < (((us.length : Nat) : Int)) + 1; omega), ?_⟩
  dsimp only [gName]
  rw [ek]
  clear ek
  refine ⟨_, rfl, p, rfl, ⟨_, S2.seq hP⟩, fun D hD => ?_⟩
  have hDH := fresh_of S2 hD
  refine lc_list (xs := us) (fun i ys H3 => Same H2 H3 ∧ H3 D = some (.lst ys) ∧ ChX H3 D ys (rs.take i)) (few_sizeLine (by omega)) ⟨same_new hD _, upd_same, .nil⟩ ?_ ?_ ?_
  · rintro i ys H3 hi ⟨s3, g3, hC⟩
    refine ⟨g3, ?_, s3.seq (S2.seq hP)⟩
    rw [hC.1, List.length_take]
    omega
  · rintro i x ys H3 hx ⟨s3, g3, hC⟩
    obtain ⟨r, t, hr', rfl, hT⟩ := hR.item hx
    refine ⟨rfl, _, rfl, t, r, rs.length, rfl, s3.tup (S2.tup hT), hok r (List.mem_of_getElem? hr'), fun c H4 s4 n4 g4 => ⟨s4 _ _ g3, Same_upd (s3.trans s4) hD _, upd_same, ?_⟩⟩
    rw [List.take_add_one, hr']
    exact hC.step g3 s4 n4 g4
  rintro ws H3 ⟨s3, gD, hC⟩
  rw [List.take_of_length_le (by omega)] at hC
  have S3 := S2.trans s3
  have hCA : ChAt K H3 ws rs := hC.at_
  have wl := hCA.1
  clear hC s3 hD
  refine ⟨_, rfl, _, rfl, _, _, rfl, rfl, ⟨by decide, by decide⟩, _, _, rfl, by omega, by omega, fun t pw w l H4 s4 hT npw gw hW => ?_⟩
  refine ⟨t, _, rfl, hT, rfl, _, _, rfl, _, _, rfl, rfl, ?_⟩
  have S4 := S3.trans s4
  have gD4 := s4 _ _ gD
  have hCA4 := hCA.same s4
  refine ⟨_, rfl, _, rfl, p, D, us, ws, rs, rfl, S4.seq hP, hR.same S4, SqL.of gD4, hCA4, hok, by omega, fun sb H5 s5 n5 g5 => ?_⟩
  have S5 := S4.trans s5
  have gD5 := s5 _ _ gD4
  have gw5 := s5 _ _ gw
  have hCA5 := hCA4.same s5
  clear hT hCA hCA4 gD gD4 gw s4 S4 S3
  refine ⟨_, rfl, _, rfl, _, rfl, D, _, rfl, SqL.of gD5, fun c hc => ?_⟩
  rw [cut_take]
  have s6 := same_new hc (.lst (ws.take k))
  have g6 := upd_same (H := H5) (a := c) (o := .lst (ws.take k))
  generalize upd H5 c _ = H6 at s6 g6 ⊢
  refine ⟨c, rfl, ⟨_, SqL.of g6⟩, fun D2 hD2 => ?_⟩
  refine lc_list (xs := ws.take k) (fun i ys H7 => Same H6 H7 ∧ H7 D2 = some (.lst ys) ∧ ys = (((rs.take k).map fun r => ((1 + tlK r : Nat) : Int)).take i).map V.int) (few_sizeLine (by rw [List.length_take]; omega)) ⟨same_new hD2 _, upd_same, rfl⟩ ?_ ?_ ?_
  · rintro i ys H7 hi ⟨s7, g7, rfl⟩
    exact ⟨g7, by rw [List.length_map, List.length_take]; omega, s7.seq (SqL.of g6)⟩
  · rintro i x ys H7 hx ⟨s7, g7, rfl⟩
    have hik : i < k := by
      have := (List.getElem?_eq_some_iff.mp hx).1
      rw [List.length_take] at this
      omega
    rw [List.getElem?_take_of_lt hik] at hx
    obtain ⟨r, pc, hr', rfl, hc'⟩ := hCA5.item hx
    refine ⟨rfl, _, rfl, pc, _, rfl, .inl ((s6.trans s7).seq hc'), g7, Same_upd s7 hD2 _, upd_same, ?_⟩
    have e1 : ((rs.take k).map fun r => ((1 + tlK r : Nat) : Int))[i]? = some ((1 + tlK r : Nat) : Int) := by rw [List.getElem?_map, List.getElem?_take_of_lt hik, hr']; rfl
    rw [List.take_add_one (l := (rs.take k).map fun r => ((1 + tlK r : Nat) : Int)), e1, List.map_append, List.length_map, chunk_len (hok r (List.mem_of_getElem? hr'))]
    rfl
  rintro ys H7 ⟨s7, g7, rfl⟩
  rw [List.take_of_length_le (by rw [List.length_map, List.length_take, List.length_take]; omega)] at g7
  refine ⟨D2, _, rfl, SqL.of g7, ?_⟩
  rw [sum_cast]
  have ea : ((rs.take k).map fun r => 1 + tlK r).sum = atK rs k := rfl
  dsimp only [gName]
  rw [ea]
  have S7 := S5.trans (s6.trans s7)
  have gb7 := (s6.trans s7) _ _ g5
  have gw7 := (s6.trans s7) _ _ gw5
  clear g7 hD2 g6 s6 s7 hc hCA5 gD5 gw5 g5 s5 S5
  have hby := bytes_in hok
  have bl : (bytesK rs).length ≤ 160 := by
    rw [bytes_len]
    have := at_le rs rs.length (Nat.le_refl _)
    omega
  have hk : k ≤ rs.length := by omega
  refine cutR (R := ?R) (fun σ' H' => ∃ (pb : Addr) (mo : List Int) (o10 o11 : Option V), Same H7 H' ∧ H' pb = some (.lst ((bytesK rs ++ mo).map V.int)) ∧ byt mo ∧ mo.length ≤ 5 ∧ σ' = [some (.ref a), some (.ref p), some (.int v1), some (.int (v0 % 4)), some (.int (k : Int)), some (.ref D), some (.str w), some (.ref pw), some (.ref pb), some (.int (atK rs k : Int)), o10, o11, none, none]) (fun kk => ?mm) ?kk
  case mm =>
    refine ⟨_, rfl, a, ns, _, rfl, S7.seq hA, by decide, by decide, fun v2 H8 s8 => ⟨_, _, rfl, rfl, (by show (0 : Int) < 3; decide), rfl, _, rfl, ite2 (fun z => ?_) (fun z => ?_)⟩⟩
    · refine ⟨_, rfl, a, ns, _, rfl, (S7.trans s8).seq hA, by decide, by decide, fun v3 H9 s9 => ⟨_, _, rfl, rfl, (by show (0 : Int) < 4; decide), ?_⟩⟩
      refine ⟨_, rfl, a, ns, _, rfl, (S7.trans (s8.trans s9)).seq hA, by decide, by decide, fun v4 H10 s10 => ⟨_, _, rfl, rfl, ⟨by decide, by decide⟩, _, _, rfl, by omega, by omega, fun t2 p2 w2 l2' H11 s11 hT2 n2 g2 hW2 => ?_⟩⟩
      refine ⟨t2, _, rfl, hT2, rfl, _, _, rfl, _, _, rfl, rfl, ?_⟩
      have S11 := s8.trans (s9.trans (s10.trans s11))
      have f2 := hW2.few
      refine ⟨_, rfl, _, rfl, sb, p2, _, _, rfl, rfl, SqL.of (S11 _ _ gb7), SqL.of g2, few_sizeLine (by simp; omega), fun p3 h3 => ?_⟩
      dsimp only [gName]
      refine kk _ _ ⟨p3, l2', _, _, S11.trans (same_new h3 _), ?_, hW2.by_, f2, rfl⟩
      rw [upd_same, List.map_append]
    · dsimp only [tNext]
      refine kk _ _ ⟨sb, [], _, _, s8, ?_, (fun x h => nomatch h), by simp, rfl⟩
      rw [List.append_nil]
      exact s8 _ _ gb7
  rintro σ' H8 ⟨pb, mo, o10, o11, s8, gb8, hmo, lmo, rfl⟩
  have gw8 := s8 _ _ gw7
  have S8 := S7.trans s8
  obtain ⟨t1, u, t2, t3⟩ := by_take (rs := rs) k hk mo
  have hbm : byt (bytesK rs ++ mo) := byt_app hby hmo
  have fl := hW.few
  have ale : atK rs k ≤ (bytesK rs ++ mo).length := by
    rw [t3, List.length_append, by_len rs k hk]; omega
  have lbm : (bytesK rs ++ mo).length ≤ 165 := by rw [List.length_append]; omega
  have bb : byt (byK rs k) ∧ byt u := byt_of (by rw [← t3]; exact hbm)
  have lu : (byK rs k).length + u.length ≤ 165 := by rw [← List.length_append, ← t3]; exact lbm
  refine ⟨_, rfl, _, rfl, _, rfl, pb, _, rfl, SqL.of gb8, fun c1 h1' => ?_⟩
  rw [cut_take, ← List.map_take, t1]
  have s9 := same_new h1' (.lst ((byK rs k).map V.int))
  have g9 := upd_same (H := H8) (a := c1) (o := .lst ((byK rs k).map V.int))
  generalize upd H8 c1 _ = H9 at s9 g9 ⊢
  refine ⟨_, rfl, c1, pw, _, _, rfl, rfl, SqL.of g9, SqL.of (s9 _ _ gw8), few_sizeLine (by simp; omega), fun c2 h2 => ?_⟩
  have s10 := same_new h2 (.lst ((byK rs k).map V.int ++ l.map V.int))
  have g10 := upd_same (H := H9) (a := c2) (o := .lst ((byK rs k).map V.int ++ l.map V.int))
  generalize upd H9 c2 _ = H10 at s10 g10 ⊢
  refine ⟨_, rfl, _, rfl, _, rfl, pb, _, rfl, SqL.of (s10 _ _ (s9 _ _ gb8)), fun c3 h3 => ?_⟩
  rw [cut_drop (by rw [List.length_map]; exact ale), ← List.map_drop, t2]
  have s11 := same_new h3 (.lst (u.map V.int))
  have g11 := upd_same (H := H10) (a := c3) (o := .lst (u.map V.int))
  generalize upd H10 c3 _ = H11 at s11 g11 ⊢
  refine ⟨c2, c3, _, _, rfl, rfl, SqL.of (s11 _ _ g10), SqL.of g11, few_sizeLine (by simp; omega), fun c4 h4 => ?_⟩
  have s12 := same_new h4 (.lst ((byK rs k ++ (l ++ u)).map V.int))
  have g12 : upd H11 c4 (.lst ((byK rs k).map V.int ++ l.map V.int ++ u.map V.int)) c4 = some (.lst ((byK rs k ++ (l ++ u)).map V.int)) := by rw [upd_same]; simp
  have s12 : Same H11 (upd H11 c4 (.lst ((byK rs k).map V.int ++ l.map V.int ++ u.map V.int))) := same_new h4 _
  generalize upd H11 c4 _ = H12 at s12 g12 ⊢
  have S12 := S8.trans (s9.trans (s10.trans (s11.trans s12)))
  clear g11 s11 g10 s10 g9 s9 gw8 gb8 s8
  have hby2 : byt (byK rs k ++ (l ++ u)) := byt_app bb.1 (byt_app hW.by_ bb.2)
  refine cutR (R := ?R2) (fun σ' H' => ∃ (ps : Addr) (bs : List Int) (e : Nat), Same H H' ∧ H' ps = some (.lst (bs.map V.int)) ∧ byt bs ∧ rowsOf bs = .error (atK rs k + e, w) ∧ σ' = [some (.ref a), some (.ref p), some (.int v1), some (.int (v0 % 4)), some (.int (k : Int)), some (.ref D), some (.str w), some (.ref pw), some (.ref pb), some (.int (atK rs k : Int)), o10, o11, some (.ref ps), some (.int (e : Int))]) (fun k2 => ?m2) ?k2
  case m2 =>
    refine ⟨_, rfl, a, ns, _, rfl, S12.seq hA, by decide, by decide, fun v5 H13 s13 => ⟨_, _, rfl, rfl, (by show (0 : Int) < 3; decide), rfl, _, rfl, ite2 (fun z => ?_) (fun z => ?_)⟩⟩
    · refine ⟨_, _, rfl, rfl, .inl ⟨by decide, by decide⟩, _, rfl, _, _, rfl, rfl, (by show (0 : Int) < 7; decide), _, _, rfl, rfl, (by show 3 ≤ sizeLine; decide), fun c5 h5 => ?_⟩
      have s14 := same_new h5 (.lst (([8 * 13, 255, 255 - v1 % 7] : List Int).map V.int))
      have g14 : upd H13 c5 (.lst [.int (8 * 13), .int 255, .int (255 - v1 % 7)]) c5 = some (.lst (([8 * 13, 255, 255 - v1 % 7] : List Int).map V.int)) := upd_same
      have s14 : Same H13 (upd H13 c5 (.lst [.int (8 * 13), .int 255, .int (255 - v1 % 7)])) := s14
      generalize upd H13 c5 _ = H14 at s14 g14 ⊢
      refine ⟨_, rfl, c5, c4, _, _, rfl, rfl, SqL.of g14, SqL.of (s14 _ _ (s13 _ _ g12)), few_sizeLine (by simp; omega), fun c6 h6 => ?_⟩
      dsimp only [gName]
      refine k2 _ _ ⟨c6, [8 * 13, 255, 255 - v1 % 7] ++ (byK rs k ++ (l ++ u)), 3, S12.trans (s13.trans (s14.trans (same_new h6 _))), ?_, ?_, put_err2 hok (by omega) hk hW u (by omega), rfl⟩
      · rw [upd_same]; simp
      · refine byt_app (fun x hx => ?_) hby2
        simp at hx
        omega
    · dsimp only [tNext]
      exact k2 _ _ ⟨c4, _, 0, S12.trans s13, s13 _ _ g12, hby2, put_err hok (by omega) hk hW u, rfl⟩
  rintro σ' H13 ⟨ps, bs, e, S13, gs13, hbs, hrw, rfl⟩
  refine ⟨_, rfl, ps, bs, _, w, rfl, SqL.of gs13, hbs, hrw, fun t5 H14 s14 hT5 => ?_⟩
  refine ⟨_, rfl, _, rfl, _, _, rfl, rfl, _, rfl, (by show 2 ≤ sizeLine; decide), fun t6 h6 => ?_⟩
  have e6 : (atK rs k : Int) + (e : Int) = ((atK rs k + e : Nat) : Int) := by omega
  have s15 := same_new h6 (.tup [.int ((atK rs k + e : Nat) : Int), .str w])
  have g15 : upd H14 t6 (.tup [.int ((atK rs k : Int) + (e : Int)), .str w]) t6 = some (.tup [.int ((atK rs k + e : Nat) : Int), .str w]) := by rw [upd_same, e6]
  have s15 : Same H14 (upd H14 t6 (.tup [.int ((atK rs k : Int) + (e : Int)), .str w])) := same_new h6 _
  generalize upd H14 t6 _ = H15 at s15 g15 ⊢
  refine ⟨_, _, RdV.tup' (s15.tup hT5) (.cons (.int _) (.cons (.str _) .nil)), RdV.tup' (SqT.of g15) (.cons (.int _) (.cons (.str _) .nil)), iw_ok _ hW.kn, iw_ok _ hW.kn, ?_⟩
  rw [iw_self _ hW.kn]
  exact q H15 (S13.trans (s14.trans s15))
theorem sc__law_rows : FnScope ["_law_script", "_law_many_here", "_law_rows_here", "_law_k"] ["_law_script"] (defScope s_law_rows) := ⟨rfl, rfl, rfl, by decide +kernel, rfl, by decide +kernel, by decide +kernel⟩
theorem ok__law_rows {f : Addr} {fd : FuncData} (F : Fun K "_law_rows" "_law_rows" s_law_rows f fd) (z_len : mg "len" = none) (z_range : mg "range" = none) (h__law_cell : Has P w K mg base CX0 "_law_cell" 1 ["_law_script", "_law_k"] (sp_law_cell K)) (h__law_row : Has P w K mg base CX0 "_law_row" 2 ["_law_cell_here", "_law_other", "_law_many_here"] (sp_law_row K)) : FnOk P w K mg base CX0 3 f fd ["_law_script"] (sp_law_rows K) := by
  refine F.ok sc__law_rows (fun vs H Q E h => ?_) (fun cdv A outer s H vs Q E hr h => ?_)
  · obtain ⟨a, ns, rfl, hS, h63, q⟩ := h
    rfl
  obtain ⟨a, ns, rfl, hS, h63, q⟩ := h
  refine ⟨_, (pss_cons (ps_set (i := 1) sc__law_rows.nd rfl (Or.inl rfl) (pe_op op_add pe_int (pe_callB call_len_seq rfl z_len bt_len (pa_cons (pe_slice sl_list (pv 0) (po_some pe_int) (po_some pe_int)) pa_nil))))
      (pss_cons (ps_set (i := 2) sc__law_rows.nd rfl (Or.inl rfl) (pe_lst pa_nil))
      (pss_cons (ps_for PassesOwn.never rfl (pi_range1 rfl z_range (pa_cons (pv 1) pa_nil)) (pg_name (i := 3) sc__law_rows.nd rfl (Or.inl rfl)) (pss_one (ps_expr (pe_bm PySem.F.plainAttrs_list PySem.F.slot_list_append PySem.F.type_list_append mt_append (pv 2) (pa_cons (pe_ch h__law_row (hr.mono (by decide)) rfl (pa_cons (pe_ch h__law_cell (hr.mono (by decide)) rfl (pa_cons (pv 0) (pa_cons (pe_op op_add pe_int (pv 3)) pa_nil))) (pa_cons (pe_op op_add (pe_op op_mul (pe_op op_fdiv (pe_ch h__law_cell (hr.mono (by decide)) rfl (pa_cons (pv 0) (pa_cons (pe_op op_add pe_int (pv 3)) pa_nil))) pe_int) pe_int) (pv 3)) (pa_cons (pv 1) pa_nil)))) pa_nil)))))
      (pss_one (ps_ret (pv 2)))))), ?_⟩
  refine ⟨_, rfl, _, rfl, _, rfl, a, _, rfl, hS, fun c hc => ?_⟩
  have cf := cut_434 (xs := ns.map V.int)
  have s1 := same_new hc (.lst (cutV (ns.map V.int) (some 4) (some 34)))
  have g1 := upd_same (H := H) (a := c) (o := .lst (cutV (ns.map V.int) (some 4) (some 34)))
  generalize cutV (ns.map V.int) (some 4) (some 34) = cs at s1 g1 cf ⊢
  generalize upd H c _ = H1 at s1 g1 ⊢
  refine ⟨c, cs, rfl, .inl (SqL.of g1), _, _, rfl, rfl, ?_⟩
  obtain ⟨m, hm⟩ : ∃ m : Nat, m = 1 + cs.length := ⟨_, rfl⟩
  dsimp only [gName]
  rw [show (1 : Int) + ((cs.length : Nat) : Int) = (m : Int) by omega]
  refine ⟨(by show 0 ≤ sizeLine; decide), fun p hp => ?_⟩
  have hpH := fresh_of s1 hp
  refine ⟨_, rfl, _, rfl, by omega, by omega, ?_⟩
  refine for_range (lo := 0) (n := ((m : Nat) : Int).toNat) (fun i σ H2 => ∃ (o : Option V) (us : List V) (rs : List Ro), σ = [some (.ref a), some (.int (m : Int)), some (.ref p), o] ∧ Same H H2 ∧ H2 p = some (.lst us) ∧ RosAt K H2 us rs ∧ (∀ r ∈ rs, r.Ok m) ∧ rs.length = i) ⟨none, [], [], rfl, Same_upd s1 hpH _, upd_same, .nil, (fun r h => nomatch h), rfl⟩ ?_ ?_
  · rintro i σ H2 hi ⟨o, us, rs, rfl, s2, g, hR, hok, hl⟩
    have ul := hR.1
    refine ⟨_, rfl, .inl ⟨rfl, _, SqL.of g⟩, _, rfl, _, rfl, _, _, rfl, rfl, a, ns, _, rfl, s2.seq hS, by omega, by omega, fun v1 H3 s3 => ?_⟩
    refine ⟨_, rfl, _, rfl, _, _, rfl, rfl, a, ns, _, rfl, (s2.trans s3).seq hS, by omega, by omega, fun v2 H4 s4 => ⟨_, _, rfl, rfl, ⟨by decide, by decide⟩, _, _, rfl, rfl, .inr ⟨by decide, by decide⟩, _, rfl, _, _, rfl, rfl, _, rfl, v1, _, m, rfl, by omega, fun r t H5 ok s5 ht => ?_⟩⟩
    have S5 := s3.trans (s4.trans s5)
    have g5 := S5 _ _ g
    exact ⟨p, us, _, rfl, rfl, g5, small1000 (by omega), _, us ++ [.ref t], rs ++ [r], rfl, Same_upd (s2.trans S5) hpH _, upd_same, (RosAt.snoc (hR.same S5) ht).updL g5, (fun r' h' => (List.mem_append.mp h').elim (hok r') (fun h => by rw [List.mem_singleton.mp h]; exact ok)), by rw [List.length_append, hl]; rfl⟩
  · rintro σ H2 ⟨o, us, rs, rfl, s2, g, hR, hok, hl⟩
    have hl' : rs.length = m := by omega
    exact ⟨_, rfl, q p us rs H2 s2 hpH g hR (by rw [hl']; exact hok) (by omega) (by omega)⟩
theorem sc_law : FnScope ["_law_script", "_law_rows_here", "_law_plain", "_law_way", "_law_right"] ["_law_script"] (defScope s_law) := ⟨rfl, rfl, rfl, by decide +kernel, rfl, by decide +kernel, by decide +kernel⟩
theorem ok_law {f : Addr} {fd : FuncData} (F : Fun K "law" "law" s_law f fd) (h__law_amid : Has P w K mg base CX0 "_law_amid" 7 ["_law_script", "_law_rows_here"] (sp_law_amid K)) (h__law_bytes : Has P w K mg base CX0 "_law_bytes" 2 ["_law_rows_here", "_law_chunks"] (sp_law_bytes K)) (h__law_cell : Has P w K mg base CX0 "_law_cell" 1 ["_law_script", "_law_k"] (sp_law_cell K)) (h__law_chunk : Has P w K mg base CX0 "_law_chunk" 2 ["_law_row_here"] (sp_law_chunk K)) (h__law_cut : Has P w K mg base CX0 "_law_cut" 7 ["_law_script", "_law_rows_here"] (sp_law_cut K)) (h__law_many : Has P w K mg base CX0 "_law_many" 7 ["_law_script", "_law_rows_here"] (sp_law_many K)) (h__law_put_in : Has P w K mg base CX0 "_law_put_in" 7 ["_law_script", "_law_rows_here"] (sp_law_put_in K)) (h__law_rows : Has P w K mg base CX0 "_law_rows" 3 ["_law_script"] (sp_law_rows K)) (h_rows_of : Has P w K mg base (CX2 P w) "rows_of" 5 ["some"] (sp_rows_of K mg)) : FnOk P w K mg base CX0 8 f fd ["_law_script"] (sp_law K) := by
  refine F.ok sc_law (fun vs H Q E h => ?_) (fun cdv A outer s H vs Q E hr h => ?_)
  · obtain ⟨a, ns, rfl, hS, h63, q⟩ := h
    rfl
  obtain ⟨a, ns, rfl, hS, h63, q⟩ := h
  refine ⟨_, (pss_cons (ps_set (i := 1) sc_law.nd rfl (Or.inl rfl) (pe_ch h__law_rows (hr.mono (by decide)) rfl (pa_cons (pv 0) pa_nil)))
      (pss_cons (ps_set (i := 2) sc_law.nd rfl (Or.inl rfl) (pe_ch h__law_bytes (hr.mono (by decide)) rfl (pa_cons (pv 1) (pa_cons (pe_lc 1 ["_law_row_here"] [] ⟨rfl, rfl, rfl, rfl, rfl, rfl, rfl, rfl⟩ (pi_list (pv 1)) (fun _ _ _ _ => ⟨(pg_name (i := 0) (show List.Nodup (["_law_row_here"] : List Str) by decide +kernel) rfl (Or.inl rfl)), pif_nil, (pe_ch h__law_chunk (hr.mono (by decide)) rfl (pa_cons (pv 0) pa_nil))⟩)) pa_nil))))
      (pss_cons (ps_if (pt_cmpR (op_neD (hr.units)) (pe_chF h_rows_of passNF (hr.mono (by decide)) rfl (pa_cons (pv 2) pa_nil)) (pv 1) (nomark _)) (pss_one (ps_ret pe_bl)) pss_nil)
      (pss_cons (ps_set (i := 3) sc_law.nd rfl (Or.inl rfl) (pe_op op_mod (pe_ch h__law_cell (hr.mono (by decide)) rfl (pa_cons (pv 0) (pa_cons pe_int pa_nil))) pe_int))
      (pss_cons (ps_if (pt_cmpR op_lt (pv 3) pe_int (nomark _)) (pss_one (ps_set (i := 4) sc_law.nd rfl (Or.inl rfl) (pe_ch h__law_put_in (hr.mono (by decide)) rfl (pa_cons (pv 0) (pa_cons (pv 1) pa_nil))))) (pss_one (ps_if (pt_cmpR op_eq (pv 3) pe_int (nomark _)) (pss_one (ps_set (i := 4) sc_law.nd rfl (Or.inl rfl) (pe_ch h__law_cut (hr.mono (by decide)) rfl (pa_cons (pv 0) (pa_cons (pv 1) pa_nil))))) (pss_one (ps_if (pt_cmpR op_eq (pv 3) pe_int (nomark _)) (pss_one (ps_set (i := 4) sc_law.nd rfl (Or.inl rfl) (pe_ch h__law_many (hr.mono (by decide)) rfl (pa_cons (pv 0) (pa_cons (pv 1) pa_nil))))) (pss_one (ps_set (i := 4) sc_law.nd rfl (Or.inl rfl) (pe_ch h__law_amid (hr.mono (by decide)) rfl (pa_cons (pv 0) (pa_cons (pv 1) pa_nil))))))))))
      (pss_one (ps_ret (pe_and (pv 4) (pe_one (pe_cmpR (op_eqD (hr.units)) (pe_chF h_rows_of passNF (hr.mono (by decide)) rfl (pa_cons (pv 2) pa_nil)) (pv 1) (nomark _))))))))))), ?_⟩
  refine ⟨_, rfl, a, ns, rfl, hS, h63, fun p us rs H1 s1 n1 g1 hR hok h1 h31 => ?_⟩
  have ul : us.length = rs.length := hR.1
  refine ⟨_, rfl, _, rfl, p, rfl, ⟨_, SqL.of g1⟩, fun D hD => ?_⟩
  refine lc_list (xs := us) (fun i ys H3 => Same H1 H3 ∧ H3 D = some (.lst ys) ∧ ChX H3 D ys (rs.take i)) (few_sizeLine (by omega)) ⟨same_new hD _, upd_same, .nil⟩ ?_ ?_ ?_
  · rintro i ys H3 hi ⟨s3, g3, hC⟩
    refine ⟨g3, ?_, s3.seq (SqL.of g1)⟩
    rw [hC.1, List.length_take]
    omega
  · rintro i x ys H3 hx ⟨s3, g3, hC⟩
    obtain ⟨r, t, hr', rfl, hT⟩ := hR.item hx
    refine ⟨rfl, _, rfl, t, r, rs.length, rfl, s3.tup hT, hok r (List.mem_of_getElem? hr'), fun c H4 s4 n4 g4 => ⟨s4 _ _ g3, Same_upd (s3.trans s4) hD _, upd_same, ?_⟩⟩
    rw [List.take_add_one, hr']
    exact hC.step g3 s4 n4 g4
  rintro ws H2 ⟨s2, gD, hC⟩
  rw [List.take_of_length_le (by omega)] at hC
  have gp2 := s2 _ _ g1
  have hR2 := hR.same s2
  refine ⟨p, D, us, ws, rs, rfl, SqL.of gp2, hR2, SqL.of gD, hC.at_, hok, by omega, fun sm H3 s3 n3 g3 => ?_⟩
  have hby : byt (bytesK rs) := bytes_in hok
  have rb := rows_bytes hok (by omega)
  have gp3 := s3 _ _ gp2
  have hR3 := hR2.same s3
  have S3 := s1.trans (s2.trans s3)
  clear s1 n1 g1 hR hD s2 gD hC gp2 hR2 s3 n3
  refine ⟨_, rfl, sm, bytesK rs, rfl, SqL.of g3, hby, fun rs' hrs f uf H5 s5 n5 g5 hF => ?_, fun i w hw => by rw [rb] at hw; cases hw⟩
  rw [rb] at hrs
  cases hrs
  have gp5 := s5 _ _ gp3
  have gs5 := s5 _ _ g3
  have hR5 := hR3.same s5
  have S5 := S3.trans s5
  refine ⟨_, rfl, _, _, rd_ros (SqL.of g5) hF, rd_ros (SqL.of gp5) hR5, ros_ok hok, ros_ok hok, ?_⟩
  rw [ros_self hok]
  refine ⟨_, rfl, iteF ?_⟩
  dsimp only [tNext]
  clear s5 g5 hF n5 gp3 g3 hR3 S3
  refine ⟨_, rfl, a, ns, _, rfl, S5.seq hS, by decide, by decide, fun v0 H6 s6 => ⟨_, _, rfl, rfl, (by show (0 : Int) < 7; decide), ?_⟩⟩
  have gp6 := s6 _ _ gp5
  have gs6 := s6 _ _ gs5
  have hR6 := hR5.same s6
  have hA6 := (S5.trans s6).seq hS
  clear s6 gp5 gs5 hR5 S5
  refine cutR (R := ?R) (fun σ' H' => Same H6 H' ∧ σ' = [some (.ref a), some (.ref p), some (.ref sm), some (.int (v0 % 7)), some (.bl true)]) (fun kk => ?mm) ?kk
  case mm =>
    refine ⟨_, rfl, _, _, rfl, rfl, _, rfl, ite2 (fun z => ?_) (fun z => ?_)⟩
    · refine ⟨_, rfl, _, rfl, a, p, ns, us, rs, rfl, hA6, SqL.of gp6, hR6, hok, h1, h31, fun H7 s7 => ?_⟩
      dsimp only [gName]
      exact kk _ _ ⟨s7, rfl⟩
    · refine ⟨_, rfl, rfl, _, rfl, ite2 (fun z2 => ?_) (fun z2 => ?_)⟩
      · refine ⟨_, rfl, _, rfl, a, p, ns, us, rs, rfl, hA6, SqL.of gp6, hR6, hok, h1, h31, fun H7 s7 => ?_⟩
        dsimp only [gName]
        exact kk _ _ ⟨s7, rfl⟩
      · refine ⟨_, rfl, rfl, _, rfl, ite2 (fun z3 => ?_) (fun z3 => ?_)⟩
        · refine ⟨_, rfl, _, rfl, a, p, ns, us, rs, rfl, hA6, SqL.of gp6, hR6, hok, h1, h31, fun H7 s7 => ?_⟩
          dsimp only [gName]
          exact kk _ _ ⟨s7, rfl⟩
        · refine ⟨_, rfl, _, rfl, a, p, ns, us, rs, rfl, hA6, SqL.of gp6, hR6, hok, h1, h31, fun H7 s7 => ?_⟩
          dsimp only [gName]
          exact kk _ _ ⟨s7, rfl⟩
  rintro σ' H7 ⟨s7, rfl⟩
  refine ⟨_, rfl, _, rfl, iteT ?_⟩
  refine ⟨_, rfl, sm, bytesK rs, rfl, SqL.of (s7 _ _ gs6), hby, fun rs' hrs f uf H8 s8 n8 g8 hF8 => ?_, fun i w hw => by rw [rb] at hw; cases hw⟩
  rw [rb] at hrs
  cases hrs
  refine ⟨_, rfl, _, _, rd_ros (SqL.of g8) hF8, rd_ros (SqL.of (s8 _ _ (s7 _ _ gp6))) ((hR6.same s7).same s8), ros_ok hok, ros_ok hok, ?_⟩
  rw [ros_self hok]
  exact q H8
end
theorem all_mk {l : PySem.W.OpenLaw} {w : World} {K : PySem.W.Frag} {h : Heap} {mg : Str → Option Value} {fa f0 f1 f2 f3 f4 f5 f6 f7 f8 f9 f10 f11 f12 f13 f14 f15 f16 f17 f18 f19 f20 f21 f22 f23 f24 f25 f26 f27 f28 f29 f30 : Addr} (X : K.In h) (G : h.Ns mainGlobals mg) (hfa : mg "law" = some (.ref fa))
    {od0 an0 od1 an1 od2 an2 od3 an3 od4 an4 od5 an5 od6 an6 od7 an7 od8 an8 od9 an9 od10 an10 od11 an11 od12 an12 od13 an13 od14 an14 od15 an15 od16 an16 od17 an17 od18 an18 od19 an19 od20 an20 od21 an21 od22 an22 od23 an23 od24 an24 od25 an25 od26 an26 od27 an27 od28 an28 od29 an29 od30 an30 : Option Addr} {sl0 sl1 sl2 sl3 sl4 sl5 sl6 sl7 sl8 sl9 sl10 sl11 sl12 sl13 sl14 sl15 sl16 sl17 sl18 sl19 sl20 sl21 sl22 sl23 sl24 sl25 sl26 sl27 sl28 sl29 sl30 : Array (Option Value)} {oc0 kV0 dc0 pm0 cd0 ct0 oc1 kV1 dc1 pm1 cd1 ct1 oc2 kV2 dc2 pm2 cd2 ct2 oc3 kV3 dc3 pm3 cd3 ct3 oc4 kV4 dc4 pm4 cd4 ct4 oc5 kV5 dc5 pm5 cd5 ct5 oc6 kV6 dc6 pm6 cd6 ct6 oc7 kV7 dc7 pm7 cd7 ct7 oc8 kV8 dc8 pm8 cd8 ct8 oc9 kV9 dc9 pm9 cd9 ct9 oc10 kV10 dc10 pm10 cd10 ct10 oc11 kV11 dc11 pm11 cd11 ct11 oc12 kV12 dc12 pm12 cd12 ct12 oc13 kV13 dc13 pm13 cd13 ct13 oc14 kV14 dc14 pm14 cd14 ct14 oc15 kV15 dc15 pm15 cd15 ct15 oc16 kV16 dc16 pm16 cd16 ct16 oc17 kV17 dc17 pm17 cd17 ct17 oc18 kV18 dc18 pm18 cd18 ct18 oc19 kV19 dc19 pm19 cd19 ct19 oc20 kV20 dc20 pm20 cd20 ct20 oc21 kV21 dc21 pm21 cd21 ct21 oc22 kV22 dc22 pm22 cd22 ct22 oc23 kV23 dc23 pm23 cd23 ct23 oc24 kV24 dc24 pm24 cd24 ct24 oc25 kV25 dc25 pm25 cd25 ct25 oc26 kV26 dc26 pm26 cd26 ct26 oc27 kV27 dc27 pm27 cd27 ct27 oc28 kV28 dc28 pm28 cd28 ct28 oc29 kV29 dc29 pm29 cd29 ct29 oc30 kV30 dc30 pm30 cd30 ct30 : Value}
    {C_NoCode C_NoRow C_Nought C_WardenError : Addr}
    {t_MOST_FIELD t_MOST_PUSH t_MOST_ROWS : Tok}
    {r_SIGNS_26 : Addr} {t_SIGNS_1 t_SIGNS_2 t_SIGNS_3 t_SIGNS_4 t_SIGNS_5 t_SIGNS_6 t_SIGNS_7 t_SIGNS_8 t_SIGNS_9 t_SIGNS_10 t_SIGNS_11 t_SIGNS_12 t_SIGNS_13 t_SIGNS_14 t_SIGNS_15 t_SIGNS_16 t_SIGNS_17 t_SIGNS_18 t_SIGNS_19 t_SIGNS_20 t_SIGNS_21 t_SIGNS_22 t_SIGNS_23 t_SIGNS_24 t_SIGNS_25 : Tok}
    {ep_WANTS : Nat}
    {r_WANTS_3 r_WANTS_7 r_WANTS_11 r_WANTS_15 r_WANTS_19 r_WANTS_24 r_WANTS_28 r_WANTS_33 r_WANTS_37 r_WANTS_42 r_WANTS_47 r_WANTS_51 d_WANTS : Addr} {t_WANTS_1 t_WANTS_2 t_WANTS_5 t_WANTS_6 t_WANTS_9 t_WANTS_10 t_WANTS_13 t_WANTS_14 t_WANTS_17 t_WANTS_18 t_WANTS_21 t_WANTS_22 t_WANTS_23 t_WANTS_26 t_WANTS_27 t_WANTS_30 t_WANTS_31 t_WANTS_32 t_WANTS_35 t_WANTS_36 t_WANTS_39 t_WANTS_40 t_WANTS_41 t_WANTS_44 t_WANTS_45 t_WANTS_46 t_WANTS_49 t_WANTS_50 : Tok}
    (a0 : PySem.W.nsIn K mainGlobals "_law_cell" = some (some (.ref f0))) (l0 : K.lookup f0 = some ⟨oc0, od0, .func (PySem.W.fnOf "_law_cell" "_law_cell" (defArgs s_law_cell) (defBody s_law_cell) (defScope s_law_cell) .none kV0 dc0 pm0 an0 cd0 ct0), sl0⟩) (c0 : PySem.W.codeIn K cd0 "_law_cell" = true) (k0 : PySem.W.keepIn K (.ref f0) = true)
    (a1 : PySem.W.nsIn K mainGlobals "_law_ended" = some (some (.ref f1))) (l1 : K.lookup f1 = some ⟨oc1, od1, .func (PySem.W.fnOf "_law_ended" "_law_ended" (defArgs s_law_ended) (defBody s_law_ended) (defScope s_law_ended) .none kV1 dc1 pm1 an1 cd1 ct1), sl1⟩) (c1 : PySem.W.codeIn K cd1 "_law_ended" = true) (k1 : PySem.W.keepIn K (.ref f1) = true)
    (a2 : PySem.W.nsIn K mainGlobals "_law_signs" = some (some (.ref f2))) (l2 : K.lookup f2 = some ⟨oc2, od2, .func (PySem.W.fnOf "_law_signs" "_law_signs" (defArgs s_law_signs) (defBody s_law_signs) (defScope s_law_signs) .none kV2 dc2 pm2 an2 cd2 ct2), sl2⟩) (c2 : PySem.W.codeIn K cd2 "_law_signs" = true) (k2 : PySem.W.keepIn K (.ref f2) = true)
    (a3 : PySem.W.nsIn K mainGlobals "_law_size" = some (some (.ref f3))) (l3 : K.lookup f3 = some ⟨oc3, od3, .func (PySem.W.fnOf "_law_size" "_law_size" (defArgs s_law_size) (defBody s_law_size) (defScope s_law_size) .none kV3 dc3 pm3 an3 cd3 ct3), sl3⟩) (c3 : PySem.W.codeIn K cd3 "_law_size" = true) (k3 : PySem.W.keepIn K (.ref f3) = true)
    (a4 : PySem.W.nsIn K mainGlobals "_law_chunk" = some (some (.ref f4))) (l4 : K.lookup f4 = some ⟨oc4, od4, .func (PySem.W.fnOf "_law_chunk" "_law_chunk" (defArgs s_law_chunk) (defBody s_law_chunk) (defScope s_law_chunk) .none kV4 dc4 pm4 an4 cd4 ct4), sl4⟩) (c4 : PySem.W.codeIn K cd4 "_law_chunk" = true) (k4 : PySem.W.keepIn K (.ref f4) = true)
    (a5 : PySem.W.nsIn K mainGlobals "_law_starts" = some (some (.ref f5))) (l5 : K.lookup f5 = some ⟨oc5, od5, .func (PySem.W.fnOf "_law_starts" "_law_starts" (defArgs s_law_starts) (defBody s_law_starts) (defScope s_law_starts) .none kV5 dc5 pm5 an5 cd5 ct5), sl5⟩) (c5 : PySem.W.codeIn K cd5 "_law_starts" = true) (k5 : PySem.W.keepIn K (.ref f5) = true)
    (a6 : PySem.W.nsIn K mainGlobals "wants" = some (some (.ref f6))) (l6 : K.lookup f6 = some ⟨oc6, od6, .func (PySem.W.fnOf "wants" "wants" (defArgs s_wants) (defBody s_wants) (defScope s_wants) .none kV6 dc6 pm6 an6 cd6 ct6), sl6⟩) (c6 : PySem.W.codeIn K cd6 "wants" = true) (k6 : PySem.W.keepIn K (.ref f6) = true)
    (a7 : PySem.W.nsIn K mainGlobals "tail_want" = some (some (.ref f7))) (l7 : K.lookup f7 = some ⟨oc7, od7, .func (PySem.W.fnOf "tail_want" "tail_want" (defArgs s_tail_want) (defBody s_tail_want) (defScope s_tail_want) .none kV7 dc7 pm7 an7 cd7 ct7), sl7⟩) (c7 : PySem.W.codeIn K cd7 "tail_want" = true) (k7 : PySem.W.keepIn K (.ref f7) = true)
    (a8 : PySem.W.nsIn K mainGlobals "placed" = some (some (.ref f8))) (l8 : K.lookup f8 = some ⟨oc8, od8, .func (PySem.W.fnOf "placed" "placed" (defArgs s_placed) (defBody s_placed) (defScope s_placed) .none kV8 dc8 pm8 an8 cd8 ct8), sl8⟩) (c8 : PySem.W.codeIn K cd8 "placed" = true) (k8 : PySem.W.keepIn K (.ref f8) = true)
    (a9 : PySem.W.nsIn K mainGlobals "low_want" = some (some (.ref f9))) (l9 : K.lookup f9 = some ⟨oc9, od9, .func (PySem.W.fnOf "low_want" "low_want" (defArgs s_low_want) (defBody s_low_want) (defScope s_low_want) .none kV9 dc9 pm9 an9 cd9 ct9), sl9⟩) (c9 : PySem.W.codeIn K cd9 "low_want" = true) (k9 : PySem.W.keepIn K (.ref f9) = true)
    (a10 : PySem.W.nsIn K mainGlobals "low_is_right" = some (some (.ref f10))) (l10 : K.lookup f10 = some ⟨oc10, od10, .func (PySem.W.fnOf "low_is_right" "low_is_right" (defArgs s_low_is_right) (defBody s_low_is_right) (defScope s_low_is_right) .none kV10 dc10 pm10 an10 cd10 ct10), sl10⟩) (c10 : PySem.W.codeIn K cd10 "low_is_right" = true) (k10 : PySem.W.keepIn K (.ref f10) = true)
    (a11 : PySem.W.nsIn K mainGlobals "joined_number" = some (some (.ref f11))) (l11 : K.lookup f11 = some ⟨oc11, od11, .func (PySem.W.fnOf "joined_number" "joined_number" (defArgs s_joined_number) (defBody s_joined_number) (defScope s_joined_number) .none kV11 dc11 pm11 an11 cd11 ct11), sl11⟩) (c11 : PySem.W.codeIn K cd11 "joined_number" = true) (k11 : PySem.W.keepIn K (.ref f11) = true)
    (a12 : PySem.W.nsIn K mainGlobals "push_size" = some (some (.ref f12))) (l12 : K.lookup f12 = some ⟨oc12, od12, .func (PySem.W.fnOf "push_size" "push_size" (defArgs s_push_size) (defBody s_push_size) (defScope s_push_size) .none kV12 dc12 pm12 an12 cd12 ct12), sl12⟩) (c12 : PySem.W.codeIn K cd12 "push_size" = true) (k12 : PySem.W.keepIn K (.ref f12) = true)
    (a13 : PySem.W.nsIn K mainGlobals "signed_number" = some (some (.ref f13))) (l13 : K.lookup f13 = some ⟨oc13, od13, .func (PySem.W.fnOf "signed_number" "signed_number" (defArgs s_signed_number) (defBody s_signed_number) (defScope s_signed_number) .none kV13 dc13 pm13 an13 cd13 ct13), sl13⟩) (c13 : PySem.W.codeIn K cd13 "signed_number" = true) (k13 : PySem.W.keepIn K (.ref f13) = true)
    (a14 : PySem.W.nsIn K mainGlobals "row_of" = some (some (.ref f14))) (l14 : K.lookup f14 = some ⟨oc14, od14, .func (PySem.W.fnOf "row_of" "row_of" (defArgs s_row_of) (defBody s_row_of) (defScope s_row_of) .none kV14 dc14 pm14 an14 cd14 ct14), sl14⟩) (c14 : PySem.W.codeIn K cd14 "row_of" = true) (k14 : PySem.W.keepIn K (.ref f14) = true)
    (a15 : PySem.W.nsIn K mainGlobals "tail_size" = some (some (.ref f15))) (l15 : K.lookup f15 = some ⟨oc15, od15, .func (PySem.W.fnOf "tail_size" "tail_size" (defArgs s_tail_size) (defBody s_tail_size) (defScope s_tail_size) .none kV15 dc15 pm15 an15 cd15 ct15), sl15⟩) (c15 : PySem.W.codeIn K cd15 "tail_size" = true) (k15 : PySem.W.keepIn K (.ref f15) = true)
    (a16 : PySem.W.nsIn K mainGlobals "row_at" = some (some (.ref f16))) (l16 : K.lookup f16 = some ⟨oc16, od16, .func (PySem.W.fnOf "row_at" "row_at" (defArgs s_row_at) (defBody s_row_at) (defScope s_row_at) .none kV16 dc16 pm16 an16 cd16 ct16), sl16⟩) (c16 : PySem.W.codeIn K cd16 "row_at" = true) (k16 : PySem.W.keepIn K (.ref f16) = true)
    (a17 : PySem.W.nsIn K mainGlobals "rows_of" = some (some (.ref f17))) (l17 : K.lookup f17 = some ⟨oc17, od17, .func (PySem.W.fnOf "rows_of" "rows_of" (defArgs s_rows_of) (defBody s_rows_of) (defScope s_rows_of) .none kV17 dc17 pm17 an17 cd17 ct17), sl17⟩) (c17 : PySem.W.codeIn K cd17 "rows_of" = true) (k17 : PySem.W.keepIn K (.ref f17) = true)
    (a18 : PySem.W.nsIn K mainGlobals "_law_told" = some (some (.ref f18))) (l18 : K.lookup f18 = some ⟨oc18, od18, .func (PySem.W.fnOf "_law_told" "_law_told" (defArgs s_law_told) (defBody s_law_told) (defScope s_law_told) .none kV18 dc18 pm18 an18 cd18 ct18), sl18⟩) (c18 : PySem.W.codeIn K cd18 "_law_told" = true) (k18 : PySem.W.keepIn K (.ref f18) = true)
    (a19 : PySem.W.nsIn K mainGlobals "_law_amid" = some (some (.ref f19))) (l19 : K.lookup f19 = some ⟨oc19, od19, .func (PySem.W.fnOf "_law_amid" "_law_amid" (defArgs s_law_amid) (defBody s_law_amid) (defScope s_law_amid) .none kV19 dc19 pm19 an19 cd19 ct19), sl19⟩) (c19 : PySem.W.codeIn K cd19 "_law_amid" = true) (k19 : PySem.W.keepIn K (.ref f19) = true)
    (a20 : PySem.W.nsIn K mainGlobals "_law_bytes" = some (some (.ref f20))) (l20 : K.lookup f20 = some ⟨oc20, od20, .func (PySem.W.fnOf "_law_bytes" "_law_bytes" (defArgs s_law_bytes) (defBody s_law_bytes) (defScope s_law_bytes) .none kV20 dc20 pm20 an20 cd20 ct20), sl20⟩) (c20 : PySem.W.codeIn K cd20 "_law_bytes" = true) (k20 : PySem.W.keepIn K (.ref f20) = true)
    (a21 : PySem.W.nsIn K mainGlobals "_law_word" = some (some (.ref f21))) (l21 : K.lookup f21 = some ⟨oc21, od21, .func (PySem.W.fnOf "_law_word" "_law_word" (defArgs s_law_word) (defBody s_law_word) (defScope s_law_word) .none kV21 dc21 pm21 an21 cd21 ct21), sl21⟩) (c21 : PySem.W.codeIn K cd21 "_law_word" = true) (k21 : PySem.W.keepIn K (.ref f21) = true)
    (a22 : PySem.W.nsIn K mainGlobals "_law_row" = some (some (.ref f22))) (l22 : K.lookup f22 = some ⟨oc22, od22, .func (PySem.W.fnOf "_law_row" "_law_row" (defArgs s_law_row) (defBody s_law_row) (defScope s_law_row) .none kV22 dc22 pm22 an22 cd22 ct22), sl22⟩) (c22 : PySem.W.codeIn K cd22 "_law_row" = true) (k22 : PySem.W.keepIn K (.ref f22) = true)
    (a23 : PySem.W.nsIn K mainGlobals "_law_cut" = some (some (.ref f23))) (l23 : K.lookup f23 = some ⟨oc23, od23, .func (PySem.W.fnOf "_law_cut" "_law_cut" (defArgs s_law_cut) (defBody s_law_cut) (defScope s_law_cut) .none kV23 dc23 pm23 an23 cd23 ct23), sl23⟩) (c23 : PySem.W.codeIn K cd23 "_law_cut" = true) (k23 : PySem.W.keepIn K (.ref f23) = true)
    (a24 : PySem.W.nsIn K mainGlobals "_law_many" = some (some (.ref f24))) (l24 : K.lookup f24 = some ⟨oc24, od24, .func (PySem.W.fnOf "_law_many" "_law_many" (defArgs s_law_many) (defBody s_law_many) (defScope s_law_many) .none kV24 dc24 pm24 an24 cd24 ct24), sl24⟩) (c24 : PySem.W.codeIn K cd24 "_law_many" = true) (k24 : PySem.W.keepIn K (.ref f24) = true)
    (a25 : PySem.W.nsIn K mainGlobals "_law_long" = some (some (.ref f25))) (l25 : K.lookup f25 = some ⟨oc25, od25, .func (PySem.W.fnOf "_law_long" "_law_long" (defArgs s_law_long) (defBody s_law_long) (defScope s_law_long) .none kV25 dc25 pm25 an25 cd25 ct25), sl25⟩) (c25 : PySem.W.codeIn K cd25 "_law_long" = true) (k25 : PySem.W.keepIn K (.ref f25) = true)
    (a26 : PySem.W.nsIn K mainGlobals "_law_low" = some (some (.ref f26))) (l26 : K.lookup f26 = some ⟨oc26, od26, .func (PySem.W.fnOf "_law_low" "_law_low" (defArgs s_law_low) (defBody s_law_low) (defScope s_law_low) .none kV26 dc26 pm26 an26 cd26 ct26), sl26⟩) (c26 : PySem.W.codeIn K cd26 "_law_low" = true) (k26 : PySem.W.keepIn K (.ref f26) = true)
    (a27 : PySem.W.nsIn K mainGlobals "_law_wrong" = some (some (.ref f27))) (l27 : K.lookup f27 = some ⟨oc27, od27, .func (PySem.W.fnOf "_law_wrong" "_law_wrong" (defArgs s_law_wrong) (defBody s_law_wrong) (defScope s_law_wrong) .none kV27 dc27 pm27 an27 cd27 ct27), sl27⟩) (c27 : PySem.W.codeIn K cd27 "_law_wrong" = true) (k27 : PySem.W.keepIn K (.ref f27) = true)
    (a28 : PySem.W.nsIn K mainGlobals "_law_put_in" = some (some (.ref f28))) (l28 : K.lookup f28 = some ⟨oc28, od28, .func (PySem.W.fnOf "_law_put_in" "_law_put_in" (defArgs s_law_put_in) (defBody s_law_put_in) (defScope s_law_put_in) .none kV28 dc28 pm28 an28 cd28 ct28), sl28⟩) (c28 : PySem.W.codeIn K cd28 "_law_put_in" = true) (k28 : PySem.W.keepIn K (.ref f28) = true)
    (a29 : PySem.W.nsIn K mainGlobals "_law_rows" = some (some (.ref f29))) (l29 : K.lookup f29 = some ⟨oc29, od29, .func (PySem.W.fnOf "_law_rows" "_law_rows" (defArgs s_law_rows) (defBody s_law_rows) (defScope s_law_rows) .none kV29 dc29 pm29 an29 cd29 ct29), sl29⟩) (c29 : PySem.W.codeIn K cd29 "_law_rows" = true) (k29 : PySem.W.keepIn K (.ref f29) = true)
    (a30 : PySem.W.nsIn K mainGlobals "law" = some (some (.ref f30))) (l30 : K.lookup f30 = some ⟨oc30, od30, .func (PySem.W.fnOf "law" "law" (defArgs s_law) (defBody s_law) (defScope s_law) .none kV30 dc30 pm30 an30 cd30 ct30), sl30⟩) (c30 : PySem.W.codeIn K cd30 "law" = true) (k30 : PySem.W.keepIn K (.ref f30) = true)
    (g_MOST_FIELD : PySem.W.nsIn K mainGlobals "MOST_FIELD" = some (some (.int 7 t_MOST_FIELD)))
    (g_MOST_PUSH : PySem.W.nsIn K mainGlobals "MOST_PUSH" = some (some (.int 4 t_MOST_PUSH)))
    (g_MOST_ROWS : PySem.W.nsIn K mainGlobals "MOST_ROWS" = some (some (.int 100 t_MOST_ROWS)))
    (g_NoCode : PySem.W.nsIn K mainGlobals "NoCode" = some (some (.ref C_NoCode)))
    (w_NoCode : PySem.W.ktsIn K C_NoCode "BaseException" = true)
    (g_NoRow : PySem.W.nsIn K mainGlobals "NoRow" = some (some (.ref C_NoRow)))
    (w_NoRow : PySem.W.ktsIn K C_NoRow "BaseException" = true)
    (g_Nought : PySem.W.nsIn K mainGlobals "Nought" = some (some (.ref C_Nought)))
    (e_Nought : PySem.W.excIn K C_Nought bmVE "ValueError.__new__" = true)
    (w_Nought : PySem.W.ktsIn K C_Nought "BaseException" = true)
    (g_WardenError : PySem.W.nsIn K mainGlobals "WardenError" = some (some (.ref C_WardenError)))
    (e_WardenError : PySem.W.excIn K C_WardenError bmVE "ValueError.__new__" = true)
    (w_WardenError : PySem.W.ktsIn K C_WardenError "BaseException" = true)
    {fi_NoCode : Addr} {odi_NoCode ani_NoCode : Option Addr} {sli_NoCode : Array (Option Value)} {oci_NoCode kVi_NoCode dci_NoCode pmi_NoCode cdi_NoCode cti_NoCode : Value}
    (ni0_NoCode : PySem.W.findIn K (.ref C_NoCode) "__init__" = some (some (.ref fi_NoCode)))
    (ni1_NoCode : K.lookup fi_NoCode = some ⟨oci_NoCode, odi_NoCode, .func (PySem.W.fnOf "__init__" "NoCode.__init__" (defArgs i_NoCode) (defBody i_NoCode) (defScope i_NoCode) .none kVi_NoCode dci_NoCode pmi_NoCode ani_NoCode cdi_NoCode cti_NoCode), sli_NoCode⟩)
    (ni2_NoCode : PySem.W.codeIn K cdi_NoCode "NoCode.__init__" = true)
    (ni3_NoCode : PySem.W.keepIn K (.ref fi_NoCode) = true)
    (ni4_NoCode : PySem.W.isFn K (.ref fi_NoCode) = true)
    (ni5_NoCode : PySem.W.keepIn K (.ref C_NoCode) = true)
    (ni6_NoCode : PySem.W.findIn K (.ref C_NoCode) "__setattr__" = some (some (.builtin "object.__setattr__")))
    (ni7_NoCode : PySem.W.mroIn K C_NoCode (.type "object") = some true)
    (ei_NoCode : excInI K C_NoCode bmVE "ValueError.__new__" = true)
    (nj0_NoCode : PySem.W.findIn K (.ref C_NoCode) "at" = some none)
    (nj1_NoCode : PySem.W.findIn K (.ref C_NoCode) "word" = some none)
    (kx1_NoCode : PySem.W.findIn K (.ref C_NoCode) "__getattribute__" = some (some (.builtin "BaseException.__getattribute__")))
    (kx2_NoCode : PySem.W.findIn K (.ref C_NoCode) "__getattr__" = some none)
    (kx3_NoCode : PySem.W.findIn K (.ref C_NoCode) "__class__" = some (some (.builtin "object.__class__")))
    (kx4_NoCode : PySem.W.mroIn K C_NoCode (.type "BaseException") = some true)
    (kx5_NoCode : PySem.W.mroIn K C_NoCode (.type "object") = some true)
    (kx6_NoCode : PySem.W.hasDictIn K C_NoCode = true)
    (m_CW : PySem.W.mroIn K C_NoCode (.ref C_WardenError) = some true)
    (na_NoCode1 : PySem.W.findIn K (.ref C_NoCode) "at" = some none)
    (na_NoCode2 : PySem.W.findIn K (.ref C_NoCode) "word" = some none)
    (i_CC : PySem.W.kitOne K (.ref C_NoCode) (.ref C_NoCode) = some true)
    (i_CV : PySem.W.kitOne K (.ref C_NoCode) (.type "ValueError") = some true)
    (i_CR : PySem.W.kitOne K (.ref C_NoCode) (.ref C_NoRow) = some false)
    (i_CN : PySem.W.kitOne K (.ref C_NoCode) (.ref C_Nought) = some false)
    (g_SIGNS : PySem.W.nsIn K mainGlobals "SIGNS" = some (some (.ref r_SIGNS_26)))
    (q_SIGNS_27 : K.lookup r_SIGNS_26 = some { cls := .type "tuple", data := .seq #[.str "push" t_SIGNS_1, .str "load" t_SIGNS_2, .str "store" t_SIGNS_3, .str "dup" t_SIGNS_4, .str "swap" t_SIGNS_5, .str "drop" t_SIGNS_6, .str "add" t_SIGNS_7, .str "sub" t_SIGNS_8, .str "mul" t_SIGNS_9, .str "div" t_SIGNS_10, .str "rem" t_SIGNS_11, .str "less" t_SIGNS_12, .str "same" t_SIGNS_13, .str "jump" t_SIGNS_14, .str "zero" t_SIGNS_15, .str "kin" t_SIGNS_16, .str "make" t_SIGNS_17, .str "fill" t_SIGNS_18, .str "begin" t_SIGNS_19, .str "get" t_SIGNS_20, .str "put" t_SIGNS_21, .str "call" t_SIGNS_22, .str "toss" t_SIGNS_23, .str "say" t_SIGNS_24, .str "give" t_SIGNS_25] 0 })
    (g_WANTS : PySem.W.nsIn K mainGlobals "WANTS" = some (some (.ref d_WANTS)))
    (n_WANTS_54 : (d_WANTS == sysModules) = false)
    (q_WANTS_53 : K.lookup d_WANTS = some { cls := .type "dict", data := .dict #[{ hash := PyData.keyHash w.params "push", key := .str "push" t_WANTS_1, val := .ref r_WANTS_3 }, { hash := PyData.keyHash w.params "load", key := .str "load" t_WANTS_5, val := .ref r_WANTS_7 }, { hash := PyData.keyHash w.params "store", key := .str "store" t_WANTS_9, val := .ref r_WANTS_11 }, { hash := PyData.keyHash w.params "jump", key := .str "jump" t_WANTS_13, val := .ref r_WANTS_15 }, { hash := PyData.keyHash w.params "zero", key := .str "zero" t_WANTS_17, val := .ref r_WANTS_19 }, { hash := PyData.keyHash w.params "kin", key := .str "kin" t_WANTS_21, val := .ref r_WANTS_24 }, { hash := PyData.keyHash w.params "make", key := .str "make" t_WANTS_26, val := .ref r_WANTS_28 }, { hash := PyData.keyHash w.params "fill", key := .str "fill" t_WANTS_30, val := .ref r_WANTS_33 }, { hash := PyData.keyHash w.params "begin", key := .str "begin" t_WANTS_35, val := .ref r_WANTS_37 }, { hash := PyData.keyHash w.params "get", key := .str "get" t_WANTS_39, val := .ref r_WANTS_42 }, { hash := PyData.keyHash w.params "put", key := .str "put" t_WANTS_44, val := .ref r_WANTS_47 }, { hash := PyData.keyHash w.params "call", key := .str "call" t_WANTS_49, val := .ref r_WANTS_51 }] ep_WANTS })
    (q_WANTS_52 : K.lookup r_WANTS_51 = some { cls := .type "tuple", data := .seq #[.str "part" t_WANTS_50] 0 })
    (q_WANTS_48 : K.lookup r_WANTS_47 = some { cls := .type "tuple", data := .seq #[.str "make" t_WANTS_45, .str "field" t_WANTS_46] 0 })
    (q_WANTS_43 : K.lookup r_WANTS_42 = some { cls := .type "tuple", data := .seq #[.str "make" t_WANTS_40, .str "field" t_WANTS_41] 0 })
    (q_WANTS_38 : K.lookup r_WANTS_37 = some { cls := .type "tuple", data := .seq #[.str "make" t_WANTS_36] 0 })
    (q_WANTS_34 : K.lookup r_WANTS_33 = some { cls := .type "tuple", data := .seq #[.str "make" t_WANTS_31, .str "field" t_WANTS_32] 0 })
    (q_WANTS_29 : K.lookup r_WANTS_28 = some { cls := .type "tuple", data := .seq #[.str "make" t_WANTS_27] 0 })
    (q_WANTS_25 : K.lookup r_WANTS_24 = some { cls := .type "tuple", data := .seq #[.str "make" t_WANTS_22, .str "place" t_WANTS_23] 0 })
    (q_WANTS_20 : K.lookup r_WANTS_19 = some { cls := .type "tuple", data := .seq #[.str "place" t_WANTS_18] 0 })
    (q_WANTS_16 : K.lookup r_WANTS_15 = some { cls := .type "tuple", data := .seq #[.str "place" t_WANTS_14] 0 })
    (q_WANTS_12 : K.lookup r_WANTS_11 = some { cls := .type "tuple", data := .seq #[.str "box" t_WANTS_10] 0 })
    (q_WANTS_8 : K.lookup r_WANTS_7 = some { cls := .type "tuple", data := .seq #[.str "box" t_WANTS_6] 0 })
    (q_WANTS_4 : K.lookup r_WANTS_3 = some { cls := .type "tuple", data := .seq #[.str "word" t_WANTS_2] 0 })
    (z_ValueError : PySem.W.nsIn K mainGlobals "ValueError" = some none)
    (z_bool : PySem.W.nsIn K mainGlobals "bool" = some none)
    (z_int : PySem.W.nsIn K mainGlobals "int" = some none)
    (z_isinstance : PySem.W.nsIn K mainGlobals "isinstance" = some none)
    (z_len : PySem.W.nsIn K mainGlobals "len" = some none)
    (z_list : PySem.W.nsIn K mainGlobals "list" = some none)
    (z_max : PySem.W.nsIn K mainGlobals "max" = some none)
    (z_min : PySem.W.nsIn K mainGlobals "min" = some none)
    (z_range : PySem.W.nsIn K mainGlobals "range" = some none)
    (z_sum : PySem.W.nsIn K mainGlobals "sum" = some none)
    (z_zip : PySem.W.nsIn K mainGlobals "zip" = some none)
    : ∃ fd : FuncData, (∀ (s : Shared) (v : Value), BindsTo s fd ⟨[v], []⟩ [("_law_script", v)]) ∧ ∀ base : Heap, K.In base → base.Ns mainGlobals mg → FnOk l.prog w K mg base CX0 8 fa fd ["_law_script"] (sp_law K) := by
  have e := hfa.symm.trans (PySem.W.mg_of X G a30)
  cases e
  have F0 := fun_mk (st := s_law_cell) l0 c0 k0
  have b0 := F0.binds (ps := ["_law_script", "_law_k"]) fun _ _ _ _ _ _ => ln2 (fun _ _ => by rfl)
  have F1 := fun_mk (st := s_law_ended) l1 c1 k1
  have b1 := F1.binds (ps := ["_law_number", "_law_size_here"]) fun _ _ _ _ _ _ => ln2 (fun _ _ => by rfl)
  have F2 := fun_mk (st := s_law_signs) l2 c2 k2
  have b2 := F2.binds (ps := []) fun _ _ _ _ _ _ => ln0 (by rfl)
  have F3 := fun_mk (st := s_law_size) l3 c3 k3
  have b3 := F3.binds (ps := ["_law_word_here"]) fun _ _ _ _ _ _ => ln1 (fun _ => by rfl)
  have F4 := fun_mk (st := s_law_chunk) l4 c4 k4
  have b4 := F4.binds (ps := ["_law_row_here"]) fun _ _ _ _ _ _ => ln1 (fun _ => by rfl)
  have F5 := fun_mk (st := s_law_starts) l5 c5 k5
  have b5 := F5.binds (ps := ["_law_chunks"]) fun _ _ _ _ _ _ => ln1 (fun _ => by rfl)
  have F6 := fun_mk (st := s_wants) l6 c6 k6
  have b6 := F6.binds (ps := ["sign"]) fun _ _ _ _ _ _ => ln1 (fun _ => by rfl)
  have F7 := fun_mk (st := s_tail_want) l7 c7 k7
  have b7 := F7.binds (ps := ["sign"]) fun _ _ _ _ _ _ => ln1 (fun _ => by rfl)
  have F8 := fun_mk (st := s_placed) l8 c8 k8
  have b8 := F8.binds (ps := ["row", "places", "at"]) fun _ _ _ _ _ _ => ln3 (fun _ _ _ => by rfl)
  have F9 := fun_mk (st := s_low_want) l9 c9 k9
  have b9 := F9.binds (ps := ["sign"]) fun _ _ _ _ _ _ => ln1 (fun _ => by rfl)
  have F10 := fun_mk (st := s_low_is_right) l10 c10 k10
  have b10 := F10.binds (ps := ["sign", "low"]) fun _ _ _ _ _ _ => ln2 (fun _ _ => by rfl)
  have F11 := fun_mk (st := s_joined_number) l11 c11 k11
  have b11 := F11.binds (ps := ["tail"]) fun _ _ _ _ _ _ => ln1 (fun _ => by rfl)
  have F12 := fun_mk (st := s_push_size) l12 c12 k12
  have b12 := F12.binds (ps := ["word"]) fun _ _ _ _ _ _ => ln1 (fun _ => by rfl)
  have F13 := fun_mk (st := s_signed_number) l13 c13 k13
  have b13 := F13.binds (ps := ["tail"]) fun _ _ _ _ _ _ => ln1 (fun _ => by rfl)
  have F14 := fun_mk (st := s_row_of) l14 c14 k14
  have b14 := F14.binds (ps := ["sign", "low", "tail", "at"]) fun _ _ _ _ _ _ => ln4 (fun _ _ _ _ => by rfl)
  have F15 := fun_mk (st := s_tail_size) l15 c15 k15
  have b15 := F15.binds (ps := ["sign", "low"]) fun _ _ _ _ _ _ => ln2 (fun _ _ => by rfl)
  have F16 := fun_mk (st := s_row_at) l16 c16 k16
  have b16 := F16.binds (ps := ["some", "at"]) fun _ _ _ _ _ _ => ln2 (fun _ _ => by rfl)
  have F17 := fun_mk (st := s_rows_of) l17 c17 k17
  have b17 := F17.binds (ps := ["some"]) fun _ _ _ _ _ _ => ln1 (fun _ => by rfl)
  have F18 := fun_mk (st := s_law_told) l18 c18 k18
  have b18 := F18.binds (ps := ["_law_some"]) fun _ _ _ _ _ _ => ln1 (fun _ => by rfl)
  have F19 := fun_mk (st := s_law_amid) l19 c19 k19
  have b19 := F19.binds (ps := ["_law_script", "_law_rows_here"]) fun _ _ _ _ _ _ => ln2 (fun _ _ => by rfl)
  have F20 := fun_mk (st := s_law_bytes) l20 c20 k20
  have b20 := F20.binds (ps := ["_law_rows_here", "_law_chunks"]) fun _ _ _ _ _ _ => ln2 (fun _ _ => by rfl)
  have F21 := fun_mk (st := s_law_word) l21 c21 k21
  have b21 := F21.binds (ps := ["_law_cell_here"]) fun _ _ _ _ _ _ => ln1 (fun _ => by rfl)
  have F22 := fun_mk (st := s_law_row) l22 c22 k22
  have b22 := F22.binds (ps := ["_law_cell_here", "_law_other", "_law_many_here"]) fun _ _ _ _ _ _ => ln3 (fun _ _ _ => by rfl)
  have F23 := fun_mk (st := s_law_cut) l23 c23 k23
  have b23 := F23.binds (ps := ["_law_script", "_law_rows_here"]) fun _ _ _ _ _ _ => ln2 (fun _ _ => by rfl)
  have F24 := fun_mk (st := s_law_many) l24 c24 k24
  have b24 := F24.binds (ps := ["_law_script", "_law_rows_here"]) fun _ _ _ _ _ _ => ln2 (fun _ _ => by rfl)
  have F25 := fun_mk (st := s_law_long) l25 c25 k25
  have b25 := F25.binds (ps := ["_law_cell_here"]) fun _ _ _ _ _ _ => ln1 (fun _ => by rfl)
  have F26 := fun_mk (st := s_law_low) l26 c26 k26
  have b26 := F26.binds (ps := ["_law_cell_here"]) fun _ _ _ _ _ _ => ln1 (fun _ => by rfl)
  have F27 := fun_mk (st := s_law_wrong) l27 c27 k27
  have b27 := F27.binds (ps := ["_law_way", "_law_cell_here"]) fun _ _ _ _ _ _ => ln2 (fun _ _ => by rfl)
  have F28 := fun_mk (st := s_law_put_in) l28 c28 k28
  have b28 := F28.binds (ps := ["_law_script", "_law_rows_here"]) fun _ _ _ _ _ _ => ln2 (fun _ _ => by rfl)
  have F29 := fun_mk (st := s_law_rows) l29 c29 k29
  have b29 := F29.binds (ps := ["_law_script"]) fun _ _ _ _ _ _ => ln1 (fun _ => by rfl)
  have F30 := fun_mk (st := s_law) l30 c30 k30
  have y_ValueError := PySem.W.mg_none_of X G z_ValueError
  have y_bool := PySem.W.mg_none_of X G z_bool
  have y_int := PySem.W.mg_none_of X G z_int
  have y_isinstance := PySem.W.mg_none_of X G z_isinstance
  have y_len := PySem.W.mg_none_of X G z_len
  have y_list := PySem.W.mg_none_of X G z_list
  have y_max := PySem.W.mg_none_of X G z_max
  have y_min := PySem.W.mg_none_of X G z_min
  have y_range := PySem.W.mg_none_of X G z_range
  have y_sum := PySem.W.mg_none_of X G z_sum
  have y_zip := PySem.W.mg_none_of X G z_zip
  have v_MOST_FIELD := PySem.W.mg_of X G g_MOST_FIELD
  have v_MOST_PUSH := PySem.W.mg_of X G g_MOST_PUSH
  have v_MOST_ROWS := PySem.W.mg_of X G g_MOST_ROWS
  have v_SIGNS := PySem.W.mg_of X G g_SIGNS
  have v_WANTS := PySem.W.mg_of X G g_WANTS
  have v_NoCode := PySem.W.mg_of X G g_NoCode
  have v_NoRow := PySem.W.mg_of X G g_NoRow
  have v_Nought := PySem.W.mg_of X G g_Nought
  have v_WardenError := PySem.W.mg_of X G g_WardenError
  have w_SIGNS : ∀ H : Hp, RdV K H (.ref r_SIGNS_26) kd_SIGNS := rdK_ref (rdK_tup (its := [.str "push" t_SIGNS_1, .str "load" t_SIGNS_2, .str "store" t_SIGNS_3, .str "dup" t_SIGNS_4, .str "swap" t_SIGNS_5, .str "drop" t_SIGNS_6, .str "add" t_SIGNS_7, .str "sub" t_SIGNS_8, .str "mul" t_SIGNS_9, .str "div" t_SIGNS_10, .str "rem" t_SIGNS_11, .str "less" t_SIGNS_12, .str "same" t_SIGNS_13, .str "jump" t_SIGNS_14, .str "zero" t_SIGNS_15, .str "kin" t_SIGNS_16, .str "make" t_SIGNS_17, .str "fill" t_SIGNS_18, .str "begin" t_SIGNS_19, .str "get" t_SIGNS_20, .str "put" t_SIGNS_21, .str "call" t_SIGNS_22, .str "toss" t_SIGNS_23, .str "say" t_SIGNS_24, .str "give" t_SIGNS_25]) q_SIGNS_27 (show 25 ≤ sizeLine by decide) (.cons rdK_str (.cons rdK_str (.cons rdK_str (.cons rdK_str (.cons rdK_str (.cons rdK_str (.cons rdK_str (.cons rdK_str (.cons rdK_str (.cons rdK_str (.cons rdK_str (.cons rdK_str (.cons rdK_str (.cons rdK_str (.cons rdK_str (.cons rdK_str (.cons rdK_str (.cons rdK_str (.cons rdK_str (.cons rdK_str (.cons rdK_str (.cons rdK_str (.cons rdK_str (.cons rdK_str (.cons rdK_str .nil))))))))))))))))))))))))))
  have w_WANTS : DiD K w d_WANTS kd_WANTS := diD_of (ent := [("push", t_WANTS_1, .ref r_WANTS_3), ("load", t_WANTS_5, .ref r_WANTS_7), ("store", t_WANTS_9, .ref r_WANTS_11), ("jump", t_WANTS_13, .ref r_WANTS_15), ("zero", t_WANTS_17, .ref r_WANTS_19), ("kin", t_WANTS_21, .ref r_WANTS_24), ("make", t_WANTS_26, .ref r_WANTS_28), ("fill", t_WANTS_30, .ref r_WANTS_33), ("begin", t_WANTS_35, .ref r_WANTS_37), ("get", t_WANTS_39, .ref r_WANTS_42), ("put", t_WANTS_44, .ref r_WANTS_47), ("call", t_WANTS_49, .ref r_WANTS_51)]) n_WANTS_54 q_WANTS_53 (show (["push", "load", "store", "jump", "zero", "kin", "make", "fill", "begin", "get", "put", "call"] : List Str).Nodup by decide +kernel) (.cons ⟨rfl, (rdK_tup (its := [.str "word" t_WANTS_2]) q_WANTS_4 (show 1 ≤ sizeLine by decide) (.cons rdK_str .nil))⟩ (.cons ⟨rfl, (rdK_tup (its := [.str "box" t_WANTS_6]) q_WANTS_8 (show 1 ≤ sizeLine by decide) (.cons rdK_str .nil))⟩ (.cons ⟨rfl, (rdK_tup (its := [.str "box" t_WANTS_10]) q_WANTS_12 (show 1 ≤ sizeLine by decide) (.cons rdK_str .nil))⟩ (.cons ⟨rfl, (rdK_tup (its := [.str "place" t_WANTS_14]) q_WANTS_16 (show 1 ≤ sizeLine by decide) (.cons rdK_str .nil))⟩ (.cons ⟨rfl, (rdK_tup (its := [.str "place" t_WANTS_18]) q_WANTS_20 (show 1 ≤ sizeLine by decide) (.cons rdK_str .nil))⟩ (.cons ⟨rfl, (rdK_tup (its := [.str "make" t_WANTS_22, .str "place" t_WANTS_23]) q_WANTS_25 (show 2 ≤ sizeLine by decide) (.cons rdK_str (.cons rdK_str .nil)))⟩ (.cons ⟨rfl, (rdK_tup (its := [.str "make" t_WANTS_27]) q_WANTS_29 (show 1 ≤ sizeLine by decide) (.cons rdK_str .nil))⟩ (.cons ⟨rfl, (rdK_tup (its := [.str "make" t_WANTS_31, .str "field" t_WANTS_32]) q_WANTS_34 (show 2 ≤ sizeLine by decide) (.cons rdK_str (.cons rdK_str .nil)))⟩ (.cons ⟨rfl, (rdK_tup (its := [.str "make" t_WANTS_36]) q_WANTS_38 (show 1 ≤ sizeLine by decide) (.cons rdK_str .nil))⟩ (.cons ⟨rfl, (rdK_tup (its := [.str "make" t_WANTS_40, .str "field" t_WANTS_41]) q_WANTS_43 (show 2 ≤ sizeLine by decide) (.cons rdK_str (.cons rdK_str .nil)))⟩ (.cons ⟨rfl, (rdK_tup (its := [.str "make" t_WANTS_45, .str "field" t_WANTS_46]) q_WANTS_48 (show 2 ≤ sizeLine by decide) (.cons rdK_str (.cons rdK_str .nil)))⟩ (.cons ⟨rfl, (rdK_tup (its := [.str "part" t_WANTS_50]) q_WANTS_52 (show 1 ≤ sizeLine by decide) (.cons rdK_str .nil))⟩ .nil))))))))))))
  refine ⟨PySem.W.fnOf "law" "law" (defArgs s_law) (defBody s_law) (defScope s_law) .none kV30 dc30 pm30 an30 cd30 ct30, fun s v => .of_eq rfl, fun base _ _ => ?_⟩
  have Fi_NoCode := fun_mk (st := i_NoCode) ni1_NoCode ni2_NoCode ni3_NoCode
  have bi_NoCode := Fi_NoCode.binds (ps := ["self", "at", "word"]) fun _ _ _ _ _ _ => ln3 (fun _ _ _ => by rfl)
  have M_NoCode : NewX l.prog w K mg base C_NoCode ["at", "word"] := ⟨⟨ni6_NoCode, ei_NoCode, ni7_NoCode⟩, List.forall_mem_cons.mpr ⟨nj0_NoCode, List.forall_mem_cons.mpr ⟨nj1_NoCode, List.forall_mem_nil _⟩⟩, by decide, ⟨_, _, ⟨ei_NoCode, ni0_NoCode, ni4_NoCode, ni5_NoCode⟩, ok_i_NoCode Fi_NoCode, bi_NoCode⟩⟩
  have H__law_cell : Has l.prog w K mg base CX0 "_law_cell" 1 ["_law_script", "_law_k"] (sp_law_cell K) := ⟨_, _, ok__law_cell F0 (z_len := y_len), b0, k0, PySem.W.mg_of X G a0⟩
  have H__law_ended : Has l.prog w K mg base CX0 "_law_ended" 1 ["_law_number", "_law_size_here"] (sp_law_ended K) := ⟨_, _, ok__law_ended F1 (z_range := y_range), b1, k1, PySem.W.mg_of X G a1⟩
  have H__law_signs : Has l.prog w K mg base CX0 "_law_signs" 1 [] (sp_law_signs K) := ⟨_, _, ok__law_signs F2 , b2, k2, PySem.W.mg_of X G a2⟩
  have H__law_size : Has l.prog w K mg base CX0 "_law_size" 1 ["_law_word_here"] (sp_law_size K) := ⟨_, _, ok__law_size F3 , b3, k3, PySem.W.mg_of X G a3⟩
  have H__law_chunk : Has l.prog w K mg base CX0 "_law_chunk" 2 ["_law_row_here"] (sp_law_chunk K) := ⟨_, _, ok__law_chunk F4 (z_list := y_list) (z_sum := y_sum) (h__law_ended := H__law_ended) (h__law_signs := H__law_signs) (h__law_size := H__law_size), b4, k4, PySem.W.mg_of X G a4⟩
  have H__law_starts : Has l.prog w K mg base CX0 "_law_starts" 1 ["_law_chunks"] (sp_law_starts K) := ⟨_, _, ok__law_starts F5 (z_len := y_len), b5, k5, PySem.W.mg_of X G a5⟩
  have H_wants : Has l.prog w K mg base CX0 "wants" 1 ["sign"] (sp_wants K) := ⟨_, _, ok_wants F6 (g_WANTS := v_WANTS) (c_WANTS := w_WANTS), b6, k6, PySem.W.mg_of X G a6⟩
  have H_tail_want : Has l.prog w K mg base CX0 "tail_want" 2 ["sign"] (sp_tail_want K) := ⟨_, _, ok_tail_want F7 (z_len := y_len) (h_wants := H_wants), b7, k7, PySem.W.mg_of X G a7⟩
  have H_placed : Has l.prog w K mg base (CX2 l.prog w) "placed" 3 ["row", "places", "at"] (sp_placed K mg) := ⟨_, _, ok_placed F8 (g_NoCode := v_NoCode) (w_NoCode := w_NoCode) (m_NoCode := M_NoCode) (h_tail_want := H_tail_want), b8, k8, PySem.W.mg_of X G a8⟩
  have H_low_want : Has l.prog w K mg base CX0 "low_want" 2 ["sign"] (sp_low_want K) := ⟨_, _, ok_low_want F9 (z_len := y_len) (h_wants := H_wants), b9, k9, PySem.W.mg_of X G a9⟩
  have H_low_is_right : Has l.prog w K mg base CX0 "low_is_right" 3 ["sign", "low"] (sp_low_is_right K) := ⟨_, _, ok_low_is_right F10 (g_MOST_PUSH := v_MOST_PUSH) (r_MOST_PUSH := ⟨_, rfl⟩) (h_low_want := H_low_want), b10, k10, PySem.W.mg_of X G a10⟩
  have H_joined_number : Has l.prog w K mg base CX0 "joined_number" 1 ["tail"] (sp_joined_number K) := ⟨_, _, ok_joined_number F11 , b11, k11, PySem.W.mg_of X G a11⟩
  have H_push_size : Has l.prog w K mg base CX0 "push_size" 1 ["word"] (sp_push_size K) := ⟨_, _, ok_push_size F12 , b12, k12, PySem.W.mg_of X G a12⟩
  have H_signed_number : Has l.prog w K mg base CX0 "signed_number" 2 ["tail"] (sp_signed_number K) := ⟨_, _, ok_signed_number F13 (z_len := y_len) (h_joined_number := H_joined_number), b13, k13, PySem.W.mg_of X G a13⟩
  have H_row_of : Has l.prog w K mg base (CX2 l.prog w) "row_of" 3 ["sign", "low", "tail", "at"] (sp_row_of K mg) := ⟨_, _, ok_row_of F14 (z_len := y_len) (g_MOST_FIELD := v_MOST_FIELD) (r_MOST_FIELD := ⟨_, rfl⟩) (g_NoCode := v_NoCode) (w_NoCode := w_NoCode) (m_NoCode := M_NoCode) (h_joined_number := H_joined_number) (h_low_want := H_low_want) (h_push_size := H_push_size) (h_signed_number := H_signed_number) (h_tail_want := H_tail_want), b14, k14, PySem.W.mg_of X G a14⟩
  have H_tail_size : Has l.prog w K mg base CX0 "tail_size" 3 ["sign", "low"] (sp_tail_size K) := ⟨_, _, ok_tail_size F15 (h_tail_want := H_tail_want), b15, k15, PySem.W.mg_of X G a15⟩
  have H_row_at : Has l.prog w K mg base (CX2 l.prog w) "row_at" 4 ["some", "at"] (sp_row_at K mg) := ⟨_, _, ok_row_at F16 (z_len := y_len) (g_NoCode := v_NoCode) (w_NoCode := w_NoCode) (g_SIGNS := v_SIGNS) (c_SIGNS := w_SIGNS) (o_SIGNS := ⟨_, q_SIGNS_27, rfl, rfl⟩) (m_NoCode := M_NoCode) (h_low_is_right := H_low_is_right) (h_row_of := H_row_of) (h_tail_size := H_tail_size), b16, k16, PySem.W.mg_of X G a16⟩
  have H_rows_of : Has l.prog w K mg base (CX2 l.prog w) "rows_of" 5 ["some"] (sp_rows_of K mg) := ⟨_, _, ok_rows_of F17 (z_len := y_len) (z_zip := y_zip) (g_MOST_ROWS := v_MOST_ROWS) (r_MOST_ROWS := ⟨_, rfl⟩) (g_NoCode := v_NoCode) (w_NoCode := w_NoCode) (m_NoCode := M_NoCode) (h_placed := H_placed) (h_row_at := H_row_at) (h_tail_size := H_tail_size), b17, k17, PySem.W.mg_of X G a17⟩
  have H__law_told : Has l.prog w K mg base CX0 "_law_told" 6 ["_law_some"] (sp_law_told K) := ⟨_, _, ok__law_told F18 (z_ValueError := y_ValueError) (z_bool := y_bool) (z_isinstance := y_isinstance) (z_list := y_list) (g_NoCode := v_NoCode) (w_NoCode := w_NoCode) (g_NoRow := v_NoRow) (w_NoRow := w_NoRow) (g_Nought := v_Nought) (w_Nought := w_Nought) (e_Nought := e_Nought) (g_WardenError := v_WardenError) (w_WardenError := w_WardenError) (e_WardenError := e_WardenError) (h_rows_of := H_rows_of) (kx1_NoCode := kx1_NoCode) (kx2_NoCode := kx2_NoCode) (kx3_NoCode := kx3_NoCode) (kx4_NoCode := kx4_NoCode) (kx5_NoCode := kx5_NoCode) (kx6_NoCode := kx6_NoCode) (m_CW := m_CW) (na_NoCode1 := na_NoCode1) (na_NoCode2 := na_NoCode2) (i_CC := i_CC) (i_CV := i_CV) (i_CR := i_CR) (i_CN := i_CN), b18, k18, PySem.W.mg_of X G a18⟩
  have H__law_amid : Has l.prog w K mg base CX0 "_law_amid" 7 ["_law_script", "_law_rows_here"] (sp_law_amid K) := ⟨_, _, ok__law_amid F19 (z_int := y_int) (z_len := y_len) (z_zip := y_zip) (h__law_cell := H__law_cell) (h__law_chunk := H__law_chunk) (h__law_ended := H__law_ended) (h__law_starts := H__law_starts) (h__law_told := H__law_told), b19, k19, PySem.W.mg_of X G a19⟩
  have H__law_bytes : Has l.prog w K mg base CX0 "_law_bytes" 2 ["_law_rows_here", "_law_chunks"] (sp_law_bytes K) := ⟨_, _, ok__law_bytes F20 (z_zip := y_zip) (h__law_ended := H__law_ended) (h__law_starts := H__law_starts), b20, k20, PySem.W.mg_of X G a20⟩
  have H__law_word : Has l.prog w K mg base CX0 "_law_word" 1 ["_law_cell_here"] (sp_law_word K) := ⟨_, _, ok__law_word F21 (z_max := y_max) (z_min := y_min), b21, k21, PySem.W.mg_of X G a21⟩
  have H__law_row : Has l.prog w K mg base CX0 "_law_row" 2 ["_law_cell_here", "_law_other", "_law_many_here"] (sp_law_row K) := ⟨_, _, ok__law_row F22 (h__law_signs := H__law_signs) (h__law_word := H__law_word), b22, k22, PySem.W.mg_of X G a22⟩
  have H__law_cut : Has l.prog w K mg base CX0 "_law_cut" 7 ["_law_script", "_law_rows_here"] (sp_law_cut K) := ⟨_, _, ok__law_cut F23 (z_len := y_len) (h__law_bytes := H__law_bytes) (h__law_cell := H__law_cell) (h__law_chunk := H__law_chunk) (h__law_row := H__law_row) (h__law_told := H__law_told), b23, k23, PySem.W.mg_of X G a23⟩
  have H__law_many : Has l.prog w K mg base CX0 "_law_many" 7 ["_law_script", "_law_rows_here"] (sp_law_many K) := ⟨_, _, ok__law_many F24 (z_len := y_len) (h__law_bytes := H__law_bytes) (h__law_cell := H__law_cell) (h__law_chunk := H__law_chunk) (h__law_told := H__law_told) (h_rows_of := H_rows_of), b24, k24, PySem.W.mg_of X G a24⟩
  have H__law_long : Has l.prog w K mg base CX0 "_law_long" 2 ["_law_cell_here"] (sp_law_long K) := ⟨_, _, ok__law_long F25 (h__law_ended := H__law_ended), b25, k25, PySem.W.mg_of X G a25⟩
  have H__law_low : Has l.prog w K mg base CX0 "_law_low" 1 ["_law_cell_here"] (sp_law_low K) := ⟨_, _, ok__law_low F26 , b26, k26, PySem.W.mg_of X G a26⟩
  have H__law_wrong : Has l.prog w K mg base CX0 "_law_wrong" 3 ["_law_way", "_law_cell_here"] (sp_law_wrong K) := ⟨_, _, ok__law_wrong F27 (h__law_long := H__law_long) (h__law_low := H__law_low), b27, k27, PySem.W.mg_of X G a27⟩
  have H__law_put_in : Has l.prog w K mg base CX0 "_law_put_in" 7 ["_law_script", "_law_rows_here"] (sp_law_put_in K) := ⟨_, _, ok__law_put_in F28 (z_len := y_len) (z_sum := y_sum) (h__law_bytes := H__law_bytes) (h__law_cell := H__law_cell) (h__law_chunk := H__law_chunk) (h__law_told := H__law_told) (h__law_wrong := H__law_wrong), b28, k28, PySem.W.mg_of X G a28⟩
  have H__law_rows : Has l.prog w K mg base CX0 "_law_rows" 3 ["_law_script"] (sp_law_rows K) := ⟨_, _, ok__law_rows F29 (z_len := y_len) (z_range := y_range) (h__law_cell := H__law_cell) (h__law_row := H__law_row), b29, k29, PySem.W.mg_of X G a29⟩
  exact ok_law (P := l.prog) (w := w) (base := base) F30 (h__law_amid := H__law_amid) (h__law_bytes := H__law_bytes) (h__law_cell := H__law_cell) (h__law_chunk := H__law_chunk) (h__law_cut := H__law_cut) (h__law_many := H__law_many) (h__law_put_in := H__law_put_in) (h__law_rows := H__law_rows) (h_rows_of := H_rows_of)
theorem walk {l : PySem.W.OpenLaw} {q : Program} {loose : List Str} {XP : (Str → Option Value) → Heap → Prop} {YP : World → Heap → Prop} {d : DefRec} {K : Params → PySem.W.Frag} (hn : l.most = some 63) (hdf : d.params.defaults = [])
    (hY : ∀ (w : World) (h : Heap), YP w h → (K w.params).In h)
    (F : ∀ (w : World) (mg : Str → Option Value) (fa : Addr) (h : Heap), (K w.params).In h → h.Ns mainGlobals mg → mg d.name = some (.ref fa) →
      ∃ fd : FuncData, (∀ (s : Shared) (u : Value), BindsTo s fd ⟨[u], []⟩ [("_law_script", u)]) ∧ ∀ base : Heap, (K w.params).In base → base.Ns mainGlobals mg → FnOk l.prog w (K w.params) mg base CX0 8 fa fd ["_law_script"] (sp_law (K w.params))) :
    PySem.W.WalkO q loose XP YP l.row.toRowW d [] (fun f vs => PySem.call f vs) :=
  L2.walk_of (n := 63) (k := 8) (x := "_law_script") (CX := fun _ => CX0) (sp := fun w => sp_law (K w.params)) hn (by decide) hdf ⟨rfl, by decide, by decide, rfl⟩ hY F (fun _ _ a ns hl _ hS => ⟨a, ns, rfl, hS, hl, fun _ => rfl⟩) fun _ _ _ _ _ z => z
end Mine
namespace MH
open PySem PySem.W L2 Mine
abbrev OF := Program → Params → Obj
abbrev r (a : Nat) : Value := .ref a
abbrev s (x : Str) (t : Tok) : Value := .str x t
abbrev i (n : Int) : Value := .int n 0
abbrev cF : Str := "/claim/cut.py"
def de (P : Params) (x : Str) (t : Tok) (v : Value) : DictEntry := ⟨PyData.keyHash P x, .str x t, v⟩
abbrev fn (a b : Str) (e : Stmt) (dV kV doc pm : Value) (an : Option Addr) (cd ct : Value) : FuncData := PySem.W.fnOf a b (defArgs e) (defBody e) (defScope e) dV kV doc pm an cd ct
abbrev fx (g u : Nat) (a b : Str) (e : Stmt) (dV kV doc pm : Value) (an : Option Addr) (cd ct : Value) : FuncData := ⟨a, b, defArgs e, .stmts (defBody e), defScope e, g, [], dV, kV, doc, pm, an, cd, ct, u⟩
abbrev tu (l : List Value) : Obj := ⟨.type "tuple", none, .seq l.toArray 0, #[]⟩
abbrev nf (l : List Value) : Obj := ⟨.none, none, .fields l.toArray, #[]⟩
abbrev co (l : List Value) : Obj := ⟨.type "code", none, .fields l.toArray, #[]⟩
abbrev fm (l : List (Option Value)) : Obj := ⟨.type "frame", none, .plain, l.toArray⟩
abbrev di (l : List DictEntry) (n : Nat) : Obj := ⟨.type "dict", none, .dict l.toArray n, #[]⟩
abbrev fo (f : FuncData) : Obj := ⟨.type "function", none, .func f, #[]⟩
abbrev no (f : FuncData) : Obj := ⟨.none, none, .func f, #[]⟩
abbrev bn (o : Obj) (l r : BT) : BT := .node o l r
abbrev bl (o : Obj) : BT := .node o .nil .nil
abbrev pw : Program := PySem.Challenge.pw_stackwarden_k16_wrong_bytes
def envF (p : Program) : Env := { scope := p.main.scope, locals := mainNs, globals := mainNs, cells := [], code := (.ref 13), frame := some 14 }
def codeF (p : Program) : Code := .body (behindTheImports p) (envF p)
abbrev BF : List Frame := [topFrame ⟨0, 0, 0, 0⟩]
def stsF (p : Program) (i n : Nat) : List Stmt := ((behindTheImports p).drop i).take n
def viewF (p : Program) : Program := { p with main := { p.main with body := [tf p 1, tf p 2, tf p 3, tf p 4, tf p 6, tf p 7, tf p 8, tf p 9, tf p 11, tf p 12, tf p 13, tf p 14, tf p 15, tf p 16, tf p 17, tf p 18, tf p 19, tf p 20, tf p 21, tf p 22, tf p 23, tf p 25, tf p 26, tf p 27, tf p 28, tf p 29, tf p 30, tf p 31, tf p 32, tf p 33, tf p 34, tf p 35, tf p 36, tf p 37, tf p 38, tf p 39, tf p 40, tf p 41, tf p 42, tf p 43] } }
abbrev ST (t : BT) (n k : Nat) (os : OsState) : SharedT := ⟨t, n, {}, Array.mk [], {}, k, os⟩
abbrev SH (h : Heap) (k : Nat) (os : OsState) : Shared := ⟨h, Array.mk [], {}, k, os⟩
local macro_rules | `(tactic| walk_at "qk") => `(tactic| ((try rewrite [PySem.W.Fast.te14364793385576792824]); (try rewrite [PySem.W.Fast.te10110043849684766642]); (try rewrite [PySem.W.Fast.te14374325043358763698]); (try rewrite [PySem.W.Fast.te15667345088766844465]); (try rewrite [PySem.W.Fast.te14082659384304107361]); (try rewrite [PySem.W.Fast.te11892475500146522536]); (try rewrite [PySem.W.Fast.te5160383126252970620]); (try rewrite [PySem.W.Fast.te3399658132070893891]); (try rewrite [PySem.W.Fast.te5991557255702980513]); (try rewrite [PySem.W.Fast.te10880121769531294198]); (try rewrite [PySem.W.Fast.te821141287760084731]); (try rewrite [PySem.W.Fast.te7409074990110511671]); (try rewrite [PySem.W.Fast.te13664370479719496447]); (try rewrite [PySem.W.Fast.te5923862056798008813]); (try rewrite [PySem.W.Fast.te14722251495701143533]); (try rewrite [PySem.W.Fast.te10994771534591457954]); (try rewrite [PySem.W.Fast.te479339242167458305]); (try rewrite [PySem.W.Fast.te16090120013241838585]); (try rewrite [PySem.W.Fast.te3247288618530077131]); (try rewrite [PySem.W.Fast.te2386780881361962483]); (try rewrite [PySem.W.Fast.te11698064438423848299]); (try rewrite [PySem.W.Fast.te7317090234206586261]); (try rewrite [PySem.W.Fast.te7369524293546568484]); (try rewrite [PySem.W.Fast.te8920871248978507458]); (try rewrite [PySem.W.R.mapR_eq]); (try rewrite [PySem.W.Fast.te1883045129845830275]); kernel_rfl))
def o0 : OF := fun p P => tu []
def o1 : OF := fun p P => nf []
def o2 : OF := fun p P => co [(s "<module>" 182), (s "<module>" 183), (s cF 184), (i 1), (i 0), (i 0), (i 0), (i 0), (r 11), (.bool false), (i 181), (r 12), .none, .none, .none, .none, (i 185), (i 1), (s cF 186)]
def o3 : OF := fun p P => fm [(some (r 13)), (some (r 3)), (some (r 3)), none, (some (s "__main__" 164)), none, (some (r 0))]
noncomputable def H0 (p : Program) (P : Params) : Heap := ⟨Array.mk [(PySem.W.boot_o_0 P), (PySem.W.boot_o_1 P), (PySem.W.boot_o_2 P), (PySem.W.boot_o_3 P), (PySem.W.boot_o_4 P), (PySem.W.boot_o_5 P), (PySem.W.boot_o_6 P), (PySem.W.boot_o_7 P), (PySem.W.boot_o_8 P), (PySem.W.boot_o_9 P), (PySem.W.boot_o_10 P), (o0 p P), (o1 p P), (o2 p P), (o3 p P)], {}⟩
noncomputable def T0 (p : Program) (P : Params) : BT := (bn (PySem.W.boot_o_0 P) (bn (PySem.W.boot_o_1 P) (bn (PySem.W.boot_o_3 P) (bl (PySem.W.boot_o_7 P)) (bl (o0 p P))) (bn (PySem.W.boot_o_5 P) (bl (PySem.W.boot_o_9 P)) (bl (o2 p P)))) (bn (PySem.W.boot_o_2 P) (bn (PySem.W.boot_o_4 P) (bl (PySem.W.boot_o_8 P)) (bl (o1 p P))) (bn (PySem.W.boot_o_6 P) (bl (PySem.W.boot_o_10 P)) (bl (o3 p P)))))
def o4 : OF := fun p P => di [de P "__name__" 165 (s "stackwarden.errors" 187), de P "__doc__" 166 .none, de P "__package__" 167 .none, de P "__loader__" 168 (.builtin "__main__.__loader__#opaque"), de P "__spec__" 169 .none, de P "__annotations__" 170 (r 6), de P "__builtins__" 171 (r 4), de P "__file__" 173 (s cF 172), de P "__cached__" 174 .none, de P "WardenError" 206 (r 24)] 10
def o5 : OF := fun p P => nf [(i 2), (i 0), (r 20)]
def o6 : OF := fun p P => tu [(.type "ValueError")]
def o7 : OF := fun p P => ⟨(.type "builtin_function_or_method"), none, (.fields #[(.builtin "type.__prepare__"), (.type "type")]), #[]⟩
def o8 : OF := fun p P => di [de P "__module__" 196 (s "stackwarden.errors" 187), de P "__qualname__" 198 (s "WardenError" 197), de P "__firstlineno__" 200 (.int 2 199), de P "__static_attributes__" 201 (r 22)] 4
def o9 : OF := fun p P => co [(s "WardenError" 191), (s "WardenError" 192), (s cF 193), (i 2), (i 0), (i 0), (i 0), (i 0), (r 18), (.bool false), (i 181), (r 19), .none, .none, .none, .none, (i 194), (i 2), (s cF 195)]
def o10 : OF := fun p P => fm [(some (r 20)), (some (r 3)), (some (r 17)), none, (some (s "stackwarden.errors" 187)), none, (some (r 0))]
def o11 : OF := fun p P => di [de P "__module__" 196 (s "stackwarden.errors" 187), de P "__firstlineno__" 200 (.int 2 199), de P "__static_attributes__" 201 (r 22), de P "__weakref__" 203 (r 25), de P "__doc__" 204 .none] 3
def o12 : OF := fun p P => ⟨(.type "type"), none, (.cls { name := "WardenError", bases := [(.type "ValueError")], mro := [(r 24), (.type "ValueError"), (.type "Exception"), (.type "BaseException"), (.type "object")], ns := 23, qualname := "WardenError" }), #[(some (r 15)), none, (some (s "WardenError" 189)), (some (s "WardenError" 197)), (some (.builtin "ValueError.__new__")), (some (.bool true))]⟩
def o13 : OF := fun p P => ⟨(.type "getset_descriptor"), none, (.fields #[(s "__weakref__" 202), (r 24), (.builtin "ExceptionGroup.__weakref__"), .none]), #[]⟩
def o14 : OF := fun p P => ⟨(.type "super"), none, (.fields #[(r 24), (r 24), (r 24)]), #[]⟩
def o15 : OF := fun p P => ⟨(.type "builtin_function_or_method"), none, (.fields #[(.builtin "object.__init_subclass__"), (r 24)]), #[]⟩
noncomputable def T1 (p : Program) (P : Params) : BT := (bn (PySem.W.boot_o_0 P) (bn (PySem.W.boot_o_1 P) (bn (o4 p P) (bn (PySem.W.boot_o_7 P) (bl (o6 p P)) (bl (o11 p P))) (bn (o0 p P) (bl (o1 p P)) (bl (o15 p P)))) (bn (PySem.W.boot_o_5 P) (bn (PySem.W.boot_o_9 P) (bl (o8 p P)) (bl (o13 p P))) (bn (o2 p P) (bl (o10 p P)) .nil))) (bn (PySem.W.boot_o_2 P) (bn (PySem.W.boot_o_4 P) (bn (PySem.W.boot_o_8 P) (bl (o7 p P)) (bl (o12 p P))) (bn (o5 p P) (bl (o9 p P)) .nil)) (bn (PySem.W.boot_o_6 P) (bn (PySem.W.boot_o_10 P) (bl (o0 p P)) (bl (o14 p P))) (bn (o3 p P) (bl (o0 p P)) .nil))))
def o16 : OF := fun p P => di [de P "__name__" 165 (s "stackwarden.errors" 187), de P "__doc__" 166 .none, de P "__package__" 167 .none, de P "__loader__" 168 (.builtin "__main__.__loader__#opaque"), de P "__spec__" 169 .none, de P "__annotations__" 170 (r 6), de P "__builtins__" 171 (r 4), de P "__file__" 173 (s cF 172), de P "__cached__" 174 .none, de P "WardenError" 206 (r 24), de P "Nought" 222 (r 37)] 11
def o17 : OF := fun p P => nf [(i 2), (i 0), (r 20), (i 4), (i 0), (r 33)]
def o18 : OF := fun p P => ⟨(.type "type"), none, (.cls { name := "WardenError", bases := [(.type "ValueError")], mro := [(r 24), (.type "ValueError"), (.type "Exception"), (.type "BaseException"), (.type "object")], ns := 23, qualname := "WardenError", subclasses := [(r 37)] }), #[(some (r 15)), none, (some (s "WardenError" 189)), (some (s "WardenError" 197)), (some (.builtin "ValueError.__new__")), (some (.bool true))]⟩
def o19 : OF := fun p P => tu [(r 24)]
def o20 : OF := fun p P => di [de P "__module__" 214 (s "stackwarden.errors" 187), de P "__qualname__" 216 (s "Nought" 215), de P "__firstlineno__" 218 (.int 4 217), de P "__static_attributes__" 219 (r 35)] 4
def o21 : OF := fun p P => co [(s "Nought" 209), (s "Nought" 210), (s cF 211), (i 4), (i 0), (i 0), (i 0), (i 0), (r 31), (.bool false), (i 181), (r 32), .none, .none, .none, .none, (i 212), (i 4), (s cF 213)]
def o22 : OF := fun p P => fm [(some (r 33)), (some (r 3)), (some (r 30)), none, (some (s "stackwarden.errors" 187)), none, (some (r 0))]
def o23 : OF := fun p P => di [de P "__module__" 214 (s "stackwarden.errors" 187), de P "__firstlineno__" 218 (.int 4 217), de P "__static_attributes__" 219 (r 35), de P "__doc__" 220 .none] 2
def o24 : OF := fun p P => ⟨(.type "type"), none, (.cls { name := "Nought", bases := [(r 24)], mro := [(r 37), (r 24), (.type "ValueError"), (.type "Exception"), (.type "BaseException"), (.type "object")], ns := 36, qualname := "Nought" }), #[(some (r 28)), none, (some (s "Nought" 207)), (some (s "Nought" 215)), (some (.builtin "ValueError.__new__")), (some (.bool true))]⟩
def o25 : OF := fun p P => ⟨(.type "super"), none, (.fields #[(r 37), (r 37), (r 37)]), #[]⟩
def o26 : OF := fun p P => ⟨(.type "builtin_function_or_method"), none, (.fields #[(.builtin "object.__init_subclass__"), (r 37)]), #[]⟩
noncomputable def T2 (p : Program) (P : Params) : BT := (bn (PySem.W.boot_o_0 P) (bn (PySem.W.boot_o_1 P) (bn (o16 p P) (bn (PySem.W.boot_o_7 P) (bn (o6 p P) (bl (o0 p P)) .nil) (bn (o11 p P) (bl (o26 p P)) .nil)) (bn (o0 p P) (bn (o1 p P) (bl (o0 p P)) .nil) (bl (o15 p P)))) (bn (PySem.W.boot_o_5 P) (bn (PySem.W.boot_o_9 P) (bn (o8 p P) (bl (o21 p P)) .nil) (bl (o13 p P))) (bn (o2 p P) (bn (o10 p P) (bl (o24 p P)) .nil) (bl (o7 p P))))) (bn (PySem.W.boot_o_2 P) (bn (PySem.W.boot_o_4 P) (bn (PySem.W.boot_o_8 P) (bn (o7 p P) (bl (o1 p P)) .nil) (bl (o18 p P))) (bn (o17 p P) (bn (o9 p P) (bl (o23 p P)) .nil) (bl (o19 p P)))) (bn (PySem.W.boot_o_6 P) (bn (PySem.W.boot_o_10 P) (bn (o0 p P) (bl (o22 p P)) .nil) (bl (o14 p P))) (bn (o3 p P) (bn (o0 p P) (bl (o25 p P)) .nil) (bl (o20 p P))))))
def o27 : OF := fun p P => di [de P "__name__" 165 (s "stackwarden.errors" 187), de P "__doc__" 166 .none, de P "__package__" 167 .none, de P "__loader__" 168 (.builtin "__main__.__loader__#opaque"), de P "__spec__" 169 .none, de P "__annotations__" 170 (r 6), de P "__builtins__" 171 (r 4), de P "__file__" 173 (s cF 172), de P "__cached__" 174 .none, de P "WardenError" 206 (r 24), de P "Nought" 222 (r 37), de P "NoRow" 247 (r 56)] 12
def o28 : OF := fun p P => nf [(i 2), (i 0), (r 20), (i 4), (i 0), (r 33), (i 6), (i 0), (r 45)]
def o29 : OF := fun p P => ⟨(.type "type"), none, (.cls { name := "WardenError", bases := [(.type "ValueError")], mro := [(r 24), (.type "ValueError"), (.type "Exception"), (.type "BaseException"), (.type "object")], ns := 23, qualname := "WardenError", subclasses := [(r 37), (r 56)] }), #[(some (r 15)), none, (some (s "WardenError" 189)), (some (s "WardenError" 197)), (some (.builtin "ValueError.__new__")), (some (.bool true))]⟩
def o30 : OF := fun p P => di [de P "__module__" 230 (s "stackwarden.errors" 187), de P "__qualname__" 232 (s "NoRow" 231), de P "__firstlineno__" 234 (.int 6 233), de P "__init__" 242 (r 53), de P "__static_attributes__" 244 (r 54)] 5
def o31 : OF := fun p P => nf [(i 8), (i 4), (r 52)]
def o32 : OF := fun p P => co [(s "NoRow" 225), (s "NoRow" 226), (s cF 227), (i 6), (i 0), (i 0), (i 0), (i 0), (r 43), (.bool false), (i 181), (r 44), .none, .none, .none, .none, (i 228), (i 6), (s cF 229)]
def o33 : OF := fun p P => fm [(some (r 45)), (some (r 3)), (some (r 42)), none, (some (s "stackwarden.errors" 187)), none, (some (r 0))]
def o34 : OF := fun p P => tu [(s "self" 238), (s "at" 239)]
def o35 : OF := fun p P => no (fx 0 0 "__init__" "NoRow.__init__" (inner (tf p 3)) .none .none .none .none none .none .none)
def o36 : OF := fun p P => co [(s "__init__" 235), (s "NoRow.__init__" 236), (s cF 237), (i 8), (i 2), (i 0), (i 0), (i 3), (r 47), (.bool true), (i 181), (r 48), .none, (r 49), (r 50), (r 51), (i 240), (i 8), (s cF 241)]
def o37 : OF := fun p P => fo (fn "__init__" "NoRow.__init__" (inner (tf p 3)) .none .none .none (s "stackwarden.errors" 187) none (r 52) .none)
def o38 : OF := fun p P => tu [(s "at" 243)]
def o39 : OF := fun p P => di [de P "__module__" 230 (s "stackwarden.errors" 187), de P "__firstlineno__" 234 (.int 6 233), de P "__init__" 242 (r 53), de P "__static_attributes__" 244 (r 54), de P "__doc__" 245 .none] 2
def o40 : OF := fun p P => ⟨(.type "type"), none, (.cls { name := "NoRow", bases := [(r 24)], mro := [(r 56), (r 24), (.type "ValueError"), (.type "Exception"), (.type "BaseException"), (.type "object")], ns := 55, qualname := "NoRow" }), #[(some (r 40)), none, (some (s "NoRow" 223)), (some (s "NoRow" 231)), (some (.builtin "ValueError.__new__")), (some (.bool true))]⟩
def o41 : OF := fun p P => ⟨(.type "super"), none, (.fields #[(r 56), (r 56), (r 56)]), #[]⟩
def o42 : OF := fun p P => ⟨(.type "builtin_function_or_method"), none, (.fields #[(.builtin "object.__init_subclass__"), (r 56)]), #[]⟩
noncomputable def T3 (p : Program) (P : Params) : BT := (bn (PySem.W.boot_o_0 P) (bn (PySem.W.boot_o_1 P) (bn (o27 p P) (bn (PySem.W.boot_o_7 P) (bn (o6 p P) (bl (o0 p P)) (bl (o0 p P))) (bn (o11 p P) (bl (o26 p P)) (bl (o39 p P)))) (bn (o0 p P) (bn (o1 p P) (bl (o0 p P)) (bl (o35 p P))) (bn (o15 p P) (bl (o0 p P)) .nil))) (bn (PySem.W.boot_o_5 P) (bn (PySem.W.boot_o_9 P) (bn (o8 p P) (bl (o21 p P)) (bl (o34 p P))) (bn (o13 p P) (bl (o7 p P)) (bl (o41 p P)))) (bn (o2 p P) (bn (o10 p P) (bl (o24 p P)) (bl (o37 p P))) (bn (o7 p P) (bl (o32 p P)) .nil)))) (bn (PySem.W.boot_o_2 P) (bn (PySem.W.boot_o_4 P) (bn (PySem.W.boot_o_8 P) (bn (o7 p P) (bl (o1 p P)) (bl (o1 p P))) (bn (o29 p P) (bl (o19 p P)) (bl (o40 p P)))) (bn (o28 p P) (bn (o9 p P) (bl (o23 p P)) (bl (o36 p P))) (bn (o19 p P) (bl (o31 p P)) .nil))) (bn (PySem.W.boot_o_6 P) (bn (PySem.W.boot_o_10 P) (bn (o0 p P) (bl (o22 p P)) (bl (o0 p P))) (bn (o14 p P) (bl (o30 p P)) (bl (o42 p P)))) (bn (o3 p P) (bn (o0 p P) (bl (o25 p P)) (bl (o38 p P))) (bn (o20 p P) (bl (o33 p P)) .nil)))))
def o43 : OF := fun p P => di [de P "__name__" 165 (s "stackwarden.rows" 275), de P "__doc__" 166 .none, de P "__package__" 167 .none, de P "__loader__" 168 (.builtin "__main__.__loader__#opaque"), de P "__spec__" 169 .none, de P "__annotations__" 170 (r 6), de P "__builtins__" 171 (r 4), de P "__file__" 173 (s cF 172), de P "__cached__" 174 .none, de P "WardenError" 206 (r 24), de P "Nought" 222 (r 37), de P "NoRow" 247 (r 56), de P "NoCode" 274 (r 75), de P "MOST_ROWS" 278 (.int 100 277), de P "SIGNS" 304 (r 78)] 15
def o44 : OF := fun p P => nf [(i 2), (i 0), (r 20), (i 4), (i 0), (r 33), (i 6), (i 0), (r 45), (i 10), (i 0), (r 64)]
def o45 : OF := fun p P => ⟨(.type "type"), none, (.cls { name := "WardenError", bases := [(.type "ValueError")], mro := [(r 24), (.type "ValueError"), (.type "Exception"), (.type "BaseException"), (.type "object")], ns := 23, qualname := "WardenError", subclasses := [(r 37), (r 56), (r 75)] }), #[(some (r 15)), none, (some (s "WardenError" 189)), (some (s "WardenError" 197)), (some (.builtin "ValueError.__new__")), (some (.bool true))]⟩
def o46 : OF := fun p P => di [de P "__module__" 255 (s "stackwarden.errors" 187), de P "__qualname__" 257 (s "NoCode" 256), de P "__firstlineno__" 259 (.int 10 258), de P "__init__" 268 (r 72), de P "__static_attributes__" 271 (r 73)] 5
def o47 : OF := fun p P => nf [(i 12), (i 4), (r 71)]
def o48 : OF := fun p P => co [(s "NoCode" 250), (s "NoCode" 251), (s cF 252), (i 10), (i 0), (i 0), (i 0), (i 0), (r 62), (.bool false), (i 181), (r 63), .none, .none, .none, .none, (i 253), (i 10), (s cF 254)]
def o49 : OF := fun p P => fm [(some (r 64)), (some (r 3)), (some (r 61)), none, (some (s "stackwarden.errors" 187)), none, (some (r 0))]
def o50 : OF := fun p P => tu [(s "self" 263), (s "at" 264), (s "word" 265)]
def o51 : OF := fun p P => no (fx 0 0 "__init__" "NoCode.__init__" (inner (tf p 4)) .none .none .none .none none .none .none)
def o52 : OF := fun p P => co [(s "__init__" 260), (s "NoCode.__init__" 261), (s cF 262), (i 12), (i 3), (i 0), (i 0), (i 3), (r 66), (.bool true), (i 181), (r 67), .none, (r 68), (r 69), (r 70), (i 266), (i 12), (s cF 267)]
def o53 : OF := fun p P => fo (fn "__init__" "NoCode.__init__" (inner (tf p 4)) .none .none .none (s "stackwarden.errors" 187) none (r 71) .none)
def o54 : OF := fun p P => tu [(s "at" 269), (s "word" 270)]
def o55 : OF := fun p P => di [de P "__module__" 255 (s "stackwarden.errors" 187), de P "__firstlineno__" 259 (.int 10 258), de P "__init__" 268 (r 72), de P "__static_attributes__" 271 (r 73), de P "__doc__" 272 .none] 2
def o56 : OF := fun p P => ⟨(.type "type"), none, (.cls { name := "NoCode", bases := [(r 24)], mro := [(r 75), (r 24), (.type "ValueError"), (.type "Exception"), (.type "BaseException"), (.type "object")], ns := 74, qualname := "NoCode" }), #[(some (r 59)), none, (some (s "NoCode" 248)), (some (s "NoCode" 256)), (some (.builtin "ValueError.__new__")), (some (.bool true))]⟩
def o57 : OF := fun p P => ⟨(.type "super"), none, (.fields #[(r 75), (r 75), (r 75)]), #[]⟩
def o58 : OF := fun p P => ⟨(.type "builtin_function_or_method"), none, (.fields #[(.builtin "object.__init_subclass__"), (r 75)]), #[]⟩
def o59 : OF := fun p P => tu [(s "push" 279), (s "load" 280), (s "store" 281), (s "dup" 282), (s "swap" 283), (s "drop" 284), (s "add" 285), (s "sub" 286), (s "mul" 287), (s "div" 288), (s "rem" 289), (s "less" 290), (s "same" 291), (s "jump" 292), (s "zero" 293), (s "kin" 294), (s "make" 295), (s "fill" 296), (s "begin" 297), (s "get" 298), (s "put" 299), (s "call" 300), (s "toss" 301), (s "say" 302), (s "give" 303)]
noncomputable def T4 (p : Program) (P : Params) : BT := (bn (PySem.W.boot_o_0 P) (bn (PySem.W.boot_o_1 P) (bn (o43 p P) (bn (PySem.W.boot_o_7 P) (bn (o6 p P) (bn (o0 p P) (bl (o47 p P)) .nil) (bl (o0 p P))) (bn (o11 p P) (bn (o26 p P) (bl (o52 p P)) .nil) (bl (o39 p P)))) (bn (o0 p P) (bn (o1 p P) (bn (o0 p P) (bl (o1 p P)) .nil) (bl (o35 p P))) (bn (o15 p P) (bn (o0 p P) (bl (o56 p P)) .nil) (bl (o19 p P))))) (bn (PySem.W.boot_o_5 P) (bn (PySem.W.boot_o_9 P) (bn (o8 p P) (bn (o21 p P) (bl (o49 p P)) .nil) (bl (o34 p P))) (bn (o13 p P) (bn (o7 p P) (bl (o54 p P)) .nil) (bl (o41 p P)))) (bn (o2 p P) (bn (o10 p P) (bn (o24 p P) (bl (o0 p P)) .nil) (bl (o37 p P))) (bn (o7 p P) (bn (o32 p P) (bl (o58 p P)) .nil) (bl (o46 p P)))))) (bn (PySem.W.boot_o_2 P) (bn (PySem.W.boot_o_4 P) (bn (PySem.W.boot_o_8 P) (bn (o7 p P) (bn (o1 p P) (bl (o48 p P)) .nil) (bl (o1 p P))) (bn (o45 p P) (bn (o19 p P) (bl (o53 p P)) .nil) (bl (o40 p P)))) (bn (o44 p P) (bn (o9 p P) (bn (o23 p P) (bl (o50 p P)) .nil) (bl (o36 p P))) (bn (o19 p P) (bn (o31 p P) (bl (o57 p P)) .nil) (bl (o7 p P))))) (bn (PySem.W.boot_o_6 P) (bn (PySem.W.boot_o_10 P) (bn (o0 p P) (bn (o22 p P) (bl (o0 p P)) .nil) (bl (o0 p P))) (bn (o14 p P) (bn (o30 p P) (bl (o55 p P)) .nil) (bl (o42 p P)))) (bn (o3 p P) (bn (o0 p P) (bn (o25 p P) (bl (o51 p P)) .nil) (bl (o38 p P))) (bn (o20 p P) (bn (o33 p P) (bl (o59 p P)) .nil) (bl (o0 p P)))))))
def o60 : OF := fun p P => di [de P "__name__" 165 (s "stackwarden.bits" 353), de P "__doc__" 166 .none, de P "__package__" 167 .none, de P "__loader__" 168 (.builtin "__main__.__loader__#opaque"), de P "__spec__" 169 .none, de P "__annotations__" 170 (r 6), de P "__builtins__" 171 (r 4), de P "__file__" 173 (s cF 172), de P "__cached__" 174 .none, de P "WardenError" 206 (r 24), de P "Nought" 222 (r 37), de P "NoRow" 247 (r 56), de P "NoCode" 274 (r 75), de P "MOST_ROWS" 278 (.int 100 277), de P "SIGNS" 304 (r 78), de P "WANTS" 345 (r 79), de P "wants" 352 (r 98), de P "MOST_PUSH" 356 (.int 4 355), de P "MOST_FIELD" 358 (.int 7 357), de P "push_size" 367 (r 105), de P "low_want" 375 (r 112), de P "tail_want" 383 (r 119), de P "tail_size" 392 (r 126)] 23
def o61 : OF := fun p P => nf [(i 2), (i 0), (r 20), (i 4), (i 0), (r 33), (i 6), (i 0), (r 45), (i 10), (i 0), (r 64), (i 19), (i 0), (r 97), (i 24), (i 0), (r 104), (i 33), (i 0), (r 111), (i 38), (i 0), (r 118), (i 43), (i 0), (r 125)]
def o62 : OF := fun p P => di [de P "push" 305 (r 80), de P "load" 307 (r 81), de P "store" 309 (r 82), de P "jump" 311 (r 83), de P "zero" 313 (r 84), de P "kin" 315 (r 85), de P "make" 318 (r 86), de P "fill" 320 (r 87), de P "begin" 323 (r 88), de P "get" 325 (r 89), de P "put" 328 (r 90), de P "call" 331 (r 91)] 12
def o63 : OF := fun p P => tu [(s "word" 306)]
def o64 : OF := fun p P => tu [(s "box" 308)]
def o65 : OF := fun p P => tu [(s "box" 310)]
def o66 : OF := fun p P => tu [(s "place" 312)]
def o67 : OF := fun p P => tu [(s "place" 314)]
def o68 : OF := fun p P => tu [(s "make" 316), (s "place" 317)]
def o69 : OF := fun p P => tu [(s "make" 319)]
def o70 : OF := fun p P => tu [(s "make" 321), (s "field" 322)]
def o71 : OF := fun p P => tu [(s "make" 324)]
def o72 : OF := fun p P => tu [(s "make" 326), (s "field" 327)]
def o73 : OF := fun p P => tu [(s "make" 329), (s "field" 330)]
def o74 : OF := fun p P => tu [(s "part" 332)]
def o75 : OF := fun p P => tu [(s "sign" 349)]
def o76 : OF := fun p P => no (fx 0 0 "wants" "wants" (tf p 9) .none .none .none .none none .none .none)
def o77 : OF := fun p P => co [(s "wants" 346), (s "wants" 347), (s cF 348), (i 19), (i 1), (i 0), (i 0), (i 3), (r 92), (.bool true), (i 181), (r 93), .none, (r 94), (r 95), (r 96), (i 350), (i 19), (s cF 351)]
def o78 : OF := fun p P => fo (fn "wants" "wants" (tf p 9) .none .none .none (s "stackwarden.rows" 275) none (r 97) .none)
def o79 : OF := fun p P => tu [(s "word" 362), (s "size" 363), (s "half" 364)]
def o80 : OF := fun p P => no (fx 0 0 "push_size" "push_size" (tf p 13) .none .none .none .none none .none .none)
def o81 : OF := fun p P => co [(s "push_size" 359), (s "push_size" 360), (s cF 361), (i 24), (i 1), (i 0), (i 0), (i 3), (r 99), (.bool true), (i 181), (r 100), .none, (r 101), (r 102), (r 103), (i 365), (i 24), (s cF 366)]
def o82 : OF := fun p P => fo (fn "push_size" "push_size" (tf p 13) .none .none .none (s "stackwarden.bits" 353) none (r 104) .none)
def o83 : OF := fun p P => tu [(s "sign" 371), (s "wanted" 372)]
def o84 : OF := fun p P => no (fx 0 0 "low_want" "low_want" (tf p 14) .none .none .none .none none .none .none)
def o85 : OF := fun p P => co [(s "low_want" 368), (s "low_want" 369), (s cF 370), (i 33), (i 1), (i 0), (i 0), (i 3), (r 106), (.bool true), (i 181), (r 107), .none, (r 108), (r 109), (r 110), (i 373), (i 33), (s cF 374)]
def o86 : OF := fun p P => fo (fn "low_want" "low_want" (tf p 14) .none .none .none (s "stackwarden.bits" 353) none (r 111) .none)
def o87 : OF := fun p P => tu [(s "sign" 379), (s "wanted" 380)]
def o88 : OF := fun p P => no (fx 0 0 "tail_want" "tail_want" (tf p 15) .none .none .none .none none .none .none)
def o89 : OF := fun p P => co [(s "tail_want" 376), (s "tail_want" 377), (s cF 378), (i 38), (i 1), (i 0), (i 0), (i 3), (r 113), (.bool true), (i 181), (r 114), .none, (r 115), (r 116), (r 117), (i 381), (i 38), (s cF 382)]
def o90 : OF := fun p P => fo (fn "tail_want" "tail_want" (tf p 15) .none .none .none (s "stackwarden.bits" 353) none (r 118) .none)
def o91 : OF := fun p P => tu [(s "sign" 387), (s "low" 388), (s "want" 389)]
def o92 : OF := fun p P => no (fx 0 0 "tail_size" "tail_size" (tf p 16) .none .none .none .none none .none .none)
def o93 : OF := fun p P => co [(s "tail_size" 384), (s "tail_size" 385), (s cF 386), (i 43), (i 2), (i 0), (i 0), (i 3), (r 120), (.bool true), (i 181), (r 121), .none, (r 122), (r 123), (r 124), (i 390), (i 43), (s cF 391)]
def o94 : OF := fun p P => fo (fn "tail_size" "tail_size" (tf p 16) .none .none .none (s "stackwarden.bits" 353) none (r 125) .none)
noncomputable def T5 (p : Program) (P : Params) : BT := (bn (PySem.W.boot_o_0 P) (bn (PySem.W.boot_o_1 P) (bn (o60 p P) (bn (PySem.W.boot_o_7 P) (bn (o6 p P) (bn (o0 p P) (bl (o47 p P)) (bl (o0 p P))) (bn (o0 p P) (bl (o62 p P)) (bl (o85 p P)))) (bn (o11 p P) (bn (o26 p P) (bl (o52 p P)) (bl (o80 p P))) (bn (o39 p P) (bl (o70 p P)) (bl (o90 p P))))) (bn (o0 p P) (bn (o1 p P) (bn (o0 p P) (bl (o1 p P)) (bl (o0 p P))) (bn (o35 p P) (bl (o66 p P)) (bl (o87 p P)))) (bn (o15 p P) (bn (o0 p P) (bl (o56 p P)) (bl (o1 p P))) (bn (o19 p P) (bl (o74 p P)) (bl (o0 p P)))))) (bn (PySem.W.boot_o_5 P) (bn (PySem.W.boot_o_9 P) (bn (o8 p P) (bn (o21 p P) (bl (o49 p P)) (bl (o77 p P))) (bn (o34 p P) (bl (o64 p P)) (bl (o0 p P)))) (bn (o13 p P) (bn (o7 p P) (bl (o54 p P)) (bl (o82 p P))) (bn (o41 p P) (bl (o72 p P)) (bl (o1 p P))))) (bn (o2 p P) (bn (o10 p P) (bn (o24 p P) (bl (o0 p P)) (bl (o79 p P))) (bn (o37 p P) (bl (o68 p P)) (bl (o88 p P)))) (bn (o7 p P) (bn (o32 p P) (bl (o58 p P)) (bl (o0 p P))) (bn (o46 p P) (bl (o1 p P)) (bl (o93 p P))))))) (bn (PySem.W.boot_o_2 P) (bn (PySem.W.boot_o_4 P) (bn (PySem.W.boot_o_8 P) (bn (o7 p P) (bn (o1 p P) (bl (o48 p P)) (bl (o76 p P))) (bn (o1 p P) (bl (o63 p P)) (bl (o86 p P)))) (bn (o45 p P) (bn (o19 p P) (bl (o53 p P)) (bl (o81 p P))) (bn (o40 p P) (bl (o71 p P)) (bl (o0 p P))))) (bn (o61 p P) (bn (o9 p P) (bn (o23 p P) (bl (o50 p P)) (bl (o1 p P))) (bn (o36 p P) (bl (o67 p P)) (bl (o0 p P)))) (bn (o19 p P) (bn (o31 p P) (bl (o57 p P)) (bl (o83 p P))) (bn (o7 p P) (bl (o0 p P)) (bl (o92 p P)))))) (bn (PySem.W.boot_o_6 P) (bn (PySem.W.boot_o_10 P) (bn (o0 p P) (bn (o22 p P) (bl (o0 p P)) (bl (o78 p P))) (bn (o0 p P) (bl (o65 p P)) (bl (o1 p P)))) (bn (o14 p P) (bn (o30 p P) (bl (o55 p P)) (bl (o0 p P))) (bn (o42 p P) (bl (o73 p P)) (bl (o91 p P))))) (bn (o3 p P) (bn (o0 p P) (bn (o25 p P) (bl (o51 p P)) (bl (o0 p P))) (bn (o38 p P) (bl (o69 p P)) (bl (o89 p P)))) (bn (o20 p P) (bn (o33 p P) (bl (o59 p P)) (bl (o84 p P))) (bn (o0 p P) (bl (o75 p P)) (bl (o94 p P))))))))
def o95 : OF := fun p P => di [de P "__name__" 165 (s "law_stackwarden_k16_wrong_bytes" 458), de P "__doc__" 166 .none, de P "__package__" 167 .none, de P "__loader__" 168 (.builtin "__main__.__loader__#opaque"), de P "__spec__" 169 .none, de P "__annotations__" 170 (r 6), de P "__builtins__" 171 (r 4), de P "__file__" 173 (s cF 172), de P "__cached__" 174 .none, de P "WardenError" 206 (r 24), de P "Nought" 222 (r 37), de P "NoRow" 247 (r 56), de P "NoCode" 274 (r 75), de P "MOST_ROWS" 278 (.int 100 277), de P "SIGNS" 304 (r 78), de P "WANTS" 345 (r 79), de P "wants" 352 (r 98), de P "MOST_PUSH" 356 (.int 4 355), de P "MOST_FIELD" 358 (.int 7 357), de P "push_size" 367 (r 105), de P "low_want" 375 (r 112), de P "tail_want" 383 (r 119), de P "tail_size" 392 (r 126), de P "low_is_right" 401 (r 133), de P "joined_number" 410 (r 140), de P "signed_number" 418 (r 147), de P "row_at" 430 (r 154), de P "row_of" 442 (r 161), de P "placed" 451 (r 168), de P "rows_of" 457 (r 173), de P "_law_cell" 469 (r 180), de P "_law_word" 477 (r 187), de P "_law_signs" 484 (r 194), de P "_law_row" 494 (r 201), de P "_law_size" 502 (r 208)] 35
def o96 : OF := fun p P => nf [(i 2), (i 0), (r 20), (i 4), (i 0), (r 33), (i 6), (i 0), (r 45), (i 10), (i 0), (r 64), (i 19), (i 0), (r 97), (i 24), (i 0), (r 104), (i 33), (i 0), (r 111), (i 38), (i 0), (r 118), (i 43), (i 0), (r 125), (i 52), (i 0), (r 132), (i 59), (i 0), (r 139), (i 64), (i 0), (r 146), (i 69), (i 0), (r 153), (i 81), (i 0), (r 160), (i 95), (i 0), (r 167), (i 101), (i 0), (r 172), (i 116), (i 0), (r 179), (i 123), (i 0), (r 186), (i 132), (i 0), (r 193), (i 135), (i 0), (r 200), (i 148), (i 0), (r 207)]
def o97 : OF := fun p P => tu [(s "sign" 396), (s "low" 397), (s "want" 398)]
def o98 : OF := fun p P => no (fx 0 0 "low_is_right" "low_is_right" (tf p 17) .none .none .none .none none .none .none)
def o99 : OF := fun p P => co [(s "low_is_right" 393), (s "low_is_right" 394), (s cF 395), (i 52), (i 2), (i 0), (i 0), (i 3), (r 127), (.bool true), (i 181), (r 128), .none, (r 129), (r 130), (r 131), (i 399), (i 52), (s cF 400)]
def o100 : OF := fun p P => fo (fn "low_is_right" "low_is_right" (tf p 17) .none .none .none (s "stackwarden.bits" 353) none (r 132) .none)
def o101 : OF := fun p P => tu [(s "tail" 405), (s "number" 406), (s "byte" 407)]
def o102 : OF := fun p P => no (fx 0 0 "joined_number" "joined_number" (tf p 18) .none .none .none .none none .none .none)
def o103 : OF := fun p P => co [(s "joined_number" 402), (s "joined_number" 403), (s cF 404), (i 59), (i 1), (i 0), (i 0), (i 3), (r 134), (.bool true), (i 181), (r 135), .none, (r 136), (r 137), (r 138), (i 408), (i 59), (s cF 409)]
def o104 : OF := fun p P => fo (fn "joined_number" "joined_number" (tf p 18) .none .none .none (s "stackwarden.bits" 353) none (r 139) .none)
def o105 : OF := fun p P => tu [(s "tail" 414), (s "number" 415)]
def o106 : OF := fun p P => no (fx 0 0 "signed_number" "signed_number" (tf p 19) .none .none .none .none none .none .none)
def o107 : OF := fun p P => co [(s "signed_number" 411), (s "signed_number" 412), (s cF 413), (i 64), (i 1), (i 0), (i 0), (i 3), (r 141), (.bool true), (i 181), (r 142), .none, (r 143), (r 144), (r 145), (i 416), (i 64), (s cF 417)]
def o108 : OF := fun p P => fo (fn "signed_number" "signed_number" (tf p 19) .none .none .none (s "stackwarden.bits" 353) none (r 146) .none)
def o109 : OF := fun p P => tu [(s "some" 422), (s "at" 423), (s "number" 424), (s "low" 425), (s "sign" 426), (s "behind" 427)]
def o110 : OF := fun p P => no (fx 0 0 "row_at" "row_at" (tf p 20) .none .none .none .none none .none .none)
def o111 : OF := fun p P => co [(s "row_at" 419), (s "row_at" 420), (s cF 421), (i 69), (i 2), (i 0), (i 0), (i 3), (r 148), (.bool true), (i 181), (r 149), .none, (r 150), (r 151), (r 152), (i 428), (i 69), (s cF 429)]
def o112 : OF := fun p P => fo (fn "row_at" "row_at" (tf p 20) .none .none .none (s "stackwarden.bits" 353) none (r 153) .none)
def o113 : OF := fun p P => tu [(s "sign" 434), (s "low" 435), (s "tail" 436), (s "at" 437), (s "word" 438), (s "row" 439)]
def o114 : OF := fun p P => no (fx 0 0 "row_of" "row_of" (tf p 21) .none .none .none .none none .none .none)
def o115 : OF := fun p P => co [(s "row_of" 431), (s "row_of" 432), (s cF 433), (i 81), (i 4), (i 0), (i 0), (i 3), (r 155), (.bool true), (i 181), (r 156), .none, (r 157), (r 158), (r 159), (i 440), (i 81), (s cF 441)]
def o116 : OF := fun p P => fo (fn "row_of" "row_of" (tf p 21) .none .none .none (s "stackwarden.bits" 353) none (r 160) .none)
def o117 : OF := fun p P => tu [(s "row" 446), (s "places" 447), (s "at" 448)]
def o118 : OF := fun p P => no (fx 0 0 "placed" "placed" (tf p 22) .none .none .none .none none .none .none)
def o119 : OF := fun p P => co [(s "placed" 443), (s "placed" 444), (s cF 445), (i 95), (i 3), (i 0), (i 0), (i 3), (r 162), (.bool true), (i 181), (r 163), .none, (r 164), (r 165), (r 166), (i 449), (i 95), (s cF 450)]
def o120 : OF := fun p P => fo (fn "placed" "placed" (tf p 22) .none .none .none (s "stackwarden.bits" 353) none (r 167) .none)
def o121 : OF := fun p P => no (fx 0 0 "rows_of" "rows_of" (tf p 23) .none .none .none .none none .none .none)
def o122 : OF := fun p P => co [(s "rows_of" 452), (s "rows_of" 453), (s cF 454), (i 101), (i 1), (i 0), (i 0), (i 3), (r 169), (.bool true), (i 181), (r 170), .none, .none, .none, (r 171), (i 455), (i 101), (s cF 456)]
def o123 : OF := fun p P => fo (fn "rows_of" "rows_of" (tf p 23) .none .none .none (s "stackwarden.bits" 353) none (r 172) .none)
def o124 : OF := fun p P => tu [(s "_law_script" 463), (s "_law_k" 464), (s "_law_far" 465), (s "_law_cell_here" 466)]
def o125 : OF := fun p P => no (fx 0 0 "_law_cell" "_law_cell" (tf p 25) .none .none .none .none none .none .none)
def o126 : OF := fun p P => co [(s "_law_cell" 460), (s "_law_cell" 461), (s cF 462), (i 116), (i 2), (i 0), (i 0), (i 3), (r 174), (.bool true), (i 181), (r 175), .none, (r 176), (r 177), (r 178), (i 467), (i 116), (s cF 468)]
def o127 : OF := fun p P => fo (fn "_law_cell" "_law_cell" (tf p 25) .none .none .none (s "law_stackwarden_k16_wrong_bytes" 458) none (r 179) .none)
def o128 : OF := fun p P => tu [(s "_law_cell_here" 473), (s "_law_edge" 474)]
def o129 : OF := fun p P => no (fx 0 0 "_law_word" "_law_word" (tf p 26) .none .none .none .none none .none .none)
def o130 : OF := fun p P => co [(s "_law_word" 470), (s "_law_word" 471), (s cF 472), (i 123), (i 1), (i 0), (i 0), (i 3), (r 181), (.bool true), (i 181), (r 182), .none, (r 183), (r 184), (r 185), (i 475), (i 123), (s cF 476)]
def o131 : OF := fun p P => fo (fn "_law_word" "_law_word" (tf p 26) .none .none .none (s "law_stackwarden_k16_wrong_bytes" 458) none (r 186) .none)
def o132 : OF := fun p P => tu [(s "_law_some" 481)]
def o133 : OF := fun p P => no (fx 0 0 "_law_signs" "_law_signs" (tf p 27) .none .none .none .none none .none .none)
def o134 : OF := fun p P => co [(s "_law_signs" 478), (s "_law_signs" 479), (s cF 480), (i 132), (i 0), (i 0), (i 0), (i 3), (r 188), (.bool true), (i 181), (r 189), .none, (r 190), (r 191), (r 192), (i 482), (i 132), (s cF 483)]
def o135 : OF := fun p P => fo (fn "_law_signs" "_law_signs" (tf p 27) .none .none .none (s "law_stackwarden_k16_wrong_bytes" 458) none (r 193) .none)
def o136 : OF := fun p P => tu [(s "_law_cell_here" 488), (s "_law_other" 489), (s "_law_many_here" 490), (s "_law_sign" 491)]
def o137 : OF := fun p P => no (fx 0 0 "_law_row" "_law_row" (tf p 28) .none .none .none .none none .none .none)
def o138 : OF := fun p P => co [(s "_law_row" 485), (s "_law_row" 486), (s cF 487), (i 135), (i 3), (i 0), (i 0), (i 3), (r 195), (.bool true), (i 181), (r 196), .none, (r 197), (r 198), (r 199), (i 492), (i 135), (s cF 493)]
def o139 : OF := fun p P => fo (fn "_law_row" "_law_row" (tf p 28) .none .none .none (s "law_stackwarden_k16_wrong_bytes" 458) none (r 200) .none)
def o140 : OF := fun p P => tu [(s "_law_word_here" 498), (s "_law_size_here" 499)]
def o141 : OF := fun p P => no (fx 0 0 "_law_size" "_law_size" (tf p 29) .none .none .none .none none .none .none)
def o142 : OF := fun p P => co [(s "_law_size" 495), (s "_law_size" 496), (s cF 497), (i 148), (i 1), (i 0), (i 0), (i 3), (r 202), (.bool true), (i 181), (r 203), .none, (r 204), (r 205), (r 206), (i 500), (i 148), (s cF 501)]
def o143 : OF := fun p P => fo (fn "_law_size" "_law_size" (tf p 29) .none .none .none (s "law_stackwarden_k16_wrong_bytes" 458) none (r 207) .none)
noncomputable def T6 (p : Program) (P : Params) : BT := (bn (PySem.W.boot_o_0 P) (bn (PySem.W.boot_o_1 P) (bn (o95 p P) (bn (PySem.W.boot_o_7 P) (bn (o6 p P) (bn (o0 p P) (bn (o47 p P) (bl (o0 p P)) (bl (o0 p P))) (bn (o0 p P) (bl (o114 p P)) .nil)) (bn (o0 p P) (bn (o62 p P) (bl (o105 p P)) (bl (o142 p P))) (bn (o85 p P) (bl (o1 p P)) .nil))) (bn (o11 p P) (bn (o26 p P) (bn (o52 p P) (bl (o1 p P)) (bl (o137 p P))) (bn (o80 p P) (bl (o119 p P)) .nil)) (bn (o39 p P) (bn (o70 p P) (bl (o0 p P)) .nil) (bn (o90 p P) (bl (o128 p P)) .nil)))) (bn (o0 p P) (bn (o1 p P) (bn (o0 p P) (bn (o1 p P) (bl (o98 p P)) (bl (o0 p P))) (bn (o0 p P) (bl (o1 p P)) .nil)) (bn (o35 p P) (bn (o66 p P) (bl (o108 p P)) .nil) (bn (o87 p P) (bl (o126 p P)) .nil))) (bn (o15 p P) (bn (o0 p P) (bn (o56 p P) (bl (o103 p P)) (bl (o1 p P))) (bn (o1 p P) (bl (o121 p P)) .nil)) (bn (o19 p P) (bn (o74 p P) (bl (o0 p P)) .nil) (bn (o0 p P) (bl (o131 p P)) .nil))))) (bn (PySem.W.boot_o_5 P) (bn (PySem.W.boot_o_9 P) (bn (o8 p P) (bn (o21 p P) (bn (o49 p P) (bl (o97 p P)) (bl (o134 p P))) (bn (o77 p P) (bl (o116 p P)) .nil)) (bn (o34 p P) (bn (o64 p P) (bl (o106 p P)) .nil) (bn (o0 p P) (bl (o0 p P)) .nil))) (bn (o13 p P) (bn (o7 p P) (bn (o54 p P) (bl (o0 p P)) (bl (o139 p P))) (bn (o82 p P) (bl (o0 p P)) .nil)) (bn (o41 p P) (bn (o72 p P) (bl (o111 p P)) .nil) (bn (o1 p P) (bl (o129 p P)) .nil)))) (bn (o2 p P) (bn (o10 p P) (bn (o24 p P) (bn (o0 p P) (bl (o100 p P)) (bl (o136 p P))) (bn (o79 p P) (bl (o0 p P)) .nil)) (bn (o37 p P) (bn (o68 p P) (bl (o1 p P)) .nil) (bn (o88 p P) (bl (o0 p P)) .nil))) (bn (o7 p P) (bn (o32 p P) (bn (o58 p P) (bl (o0 p P)) (bl (o0 p P))) (bn (o0 p P) (bl (o123 p P)) .nil)) (bn (o46 p P) (bn (o1 p P) (bl (o113 p P)) .nil) (bn (o93 p P) (bl (o1 p P)) .nil)))))) (bn (PySem.W.boot_o_2 P) (bn (PySem.W.boot_o_4 P) (bn (PySem.W.boot_o_8 P) (bn (o7 p P) (bn (o1 p P) (bn (o48 p P) (bl (o1 p P)) (bl (o133 p P))) (bn (o76 p P) (bl (o115 p P)) .nil)) (bn (o1 p P) (bn (o63 p P) (bl (o0 p P)) (bl (o143 p P))) (bn (o86 p P) (bl (o124 p P)) .nil))) (bn (o45 p P) (bn (o19 p P) (bn (o53 p P) (bl (o101 p P)) (bl (o138 p P))) (bn (o81 p P) (bl (o120 p P)) .nil)) (bn (o40 p P) (bn (o71 p P) (bl (o110 p P)) .nil) (bn (o0 p P) (bl (o0 p P)) .nil)))) (bn (o96 p P) (bn (o9 p P) (bn (o23 p P) (bn (o50 p P) (bl (o99 p P)) (bl (o1 p P))) (bn (o1 p P) (bl (o117 p P)) .nil)) (bn (o36 p P) (bn (o67 p P) (bl (o0 p P)) .nil) (bn (o0 p P) (bl (o127 p P)) .nil))) (bn (o19 p P) (bn (o31 p P) (bn (o57 p P) (bl (o104 p P)) (bl (o140 p P))) (bn (o83 p P) (bl (o122 p P)) .nil)) (bn (o7 p P) (bn (o0 p P) (bl (o1 p P)) .nil) (bn (o92 p P) (bl (o0 p P)) .nil))))) (bn (PySem.W.boot_o_6 P) (bn (PySem.W.boot_o_10 P) (bn (o0 p P) (bn (o22 p P) (bn (o0 p P) (bl (o0 p P)) (bl (o135 p P))) (bn (o78 p P) (bl (o0 p P)) .nil)) (bn (o0 p P) (bn (o65 p P) (bl (o107 p P)) .nil) (bn (o1 p P) (bl (o125 p P)) .nil))) (bn (o14 p P) (bn (o30 p P) (bn (o55 p P) (bl (o102 p P)) (bl (o0 p P))) (bn (o0 p P) (bl (o1 p P)) .nil)) (bn (o42 p P) (bn (o73 p P) (bl (o112 p P)) .nil) (bn (o91 p P) (bl (o130 p P)) .nil)))) (bn (o3 p P) (bn (o0 p P) (bn (o25 p P) (bn (o51 p P) (bl (o0 p P)) (bl (o0 p P))) (bn (o0 p P) (bl (o118 p P)) .nil)) (bn (o38 p P) (bn (o69 p P) (bl (o109 p P)) .nil) (bn (o89 p P) (bl (o1 p P)) .nil))) (bn (o20 p P) (bn (o33 p P) (bn (o59 p P) (bl (o1 p P)) (bl (o141 p P))) (bn (o84 p P) (bl (o0 p P)) .nil)) (bn (o0 p P) (bn (o75 p P) (bl (o0 p P)) .nil) (bn (o94 p P) (bl (o132 p P)) .nil)))))))
def o144 : OF := fun p P => di [de P "__name__" 165 (s "law_stackwarden_k16_wrong_bytes" 458), de P "__doc__" 166 .none, de P "__package__" 167 .none, de P "__loader__" 168 (.builtin "__main__.__loader__#opaque"), de P "__spec__" 169 .none, de P "__annotations__" 170 (r 6), de P "__builtins__" 171 (r 4), de P "__file__" 173 (s cF 172), de P "__cached__" 174 .none, de P "WardenError" 206 (r 24), de P "Nought" 222 (r 37), de P "NoRow" 247 (r 56), de P "NoCode" 274 (r 75), de P "MOST_ROWS" 278 (.int 100 277), de P "SIGNS" 304 (r 78), de P "WANTS" 345 (r 79), de P "wants" 352 (r 98), de P "MOST_PUSH" 356 (.int 4 355), de P "MOST_FIELD" 358 (.int 7 357), de P "push_size" 367 (r 105), de P "low_want" 375 (r 112), de P "tail_want" 383 (r 119), de P "tail_size" 392 (r 126), de P "low_is_right" 401 (r 133), de P "joined_number" 410 (r 140), de P "signed_number" 418 (r 147), de P "row_at" 430 (r 154), de P "row_of" 442 (r 161), de P "placed" 451 (r 168), de P "rows_of" 457 (r 173), de P "_law_cell" 469 (r 180), de P "_law_word" 477 (r 187), de P "_law_signs" 484 (r 194), de P "_law_row" 494 (r 201), de P "_law_size" 502 (r 208), de P "_law_ended" 508 (r 213), de P "_law_chunk" 516 (r 220), de P "_law_starts" 526 (r 227), de P "_law_bytes" 538 (r 234), de P "_law_rows" 548 (r 241), de P "_law_low" 556 (r 248), de P "_law_long" 566 (r 255), de P "_law_wrong" 574 (r 262), de P "_law_told" 584 (r 269), de P "_law_put_in" 590 (r 274), de P "_law_cut" 596 (r 279), de P "_law_many" 602 (r 284), de P "_law_amid" 608 (r 289)] 48
def o145 : OF := fun p P => nf [(i 2), (i 0), (r 20), (i 4), (i 0), (r 33), (i 6), (i 0), (r 45), (i 10), (i 0), (r 64), (i 19), (i 0), (r 97), (i 24), (i 0), (r 104), (i 33), (i 0), (r 111), (i 38), (i 0), (r 118), (i 43), (i 0), (r 125), (i 52), (i 0), (r 132), (i 59), (i 0), (r 139), (i 64), (i 0), (r 146), (i 69), (i 0), (r 153), (i 81), (i 0), (r 160), (i 95), (i 0), (r 167), (i 101), (i 0), (r 172), (i 116), (i 0), (r 179), (i 123), (i 0), (r 186), (i 132), (i 0), (r 193), (i 135), (i 0), (r 200), (i 148), (i 0), (r 207), (i 155), (i 0), (r 212), (i 157), (i 0), (r 219), (i 166), (i 0), (r 226), (i 173), (i 0), (r 233), (i 181), (i 0), (r 240), (i 187), (i 0), (r 247), (i 192), (i 0), (r 254), (i 201), (i 0), (r 261), (i 209), (i 0), (r 268), (i 221), (i 0), (r 273), (i 238), (i 0), (r 278), (i 249), (i 0), (r 283), (i 256), (i 0), (r 288)]
def o146 : OF := fun p P => no (fx 0 0 "_law_ended" "_law_ended" (tf p 30) .none .none .none .none none .none .none)
def o147 : OF := fun p P => co [(s "_law_ended" 503), (s "_law_ended" 504), (s cF 505), (i 155), (i 2), (i 0), (i 0), (i 3), (r 209), (.bool true), (i 181), (r 210), .none, .none, .none, (r 211), (i 506), (i 155), (s cF 507)]
def o148 : OF := fun p P => fo (fn "_law_ended" "_law_ended" (tf p 30) .none .none .none (s "law_stackwarden_k16_wrong_bytes" 458) none (r 212) .none)
def o149 : OF := fun p P => tu [(s "_law_row_here" 512), (s "_law_first" 513)]
def o150 : OF := fun p P => no (fx 0 0 "_law_chunk" "_law_chunk" (tf p 31) .none .none .none .none none .none .none)
def o151 : OF := fun p P => co [(s "_law_chunk" 509), (s "_law_chunk" 510), (s cF 511), (i 157), (i 1), (i 0), (i 0), (i 3), (r 214), (.bool true), (i 181), (r 215), .none, (r 216), (r 217), (r 218), (i 514), (i 157), (s cF 515)]
def o152 : OF := fun p P => fo (fn "_law_chunk" "_law_chunk" (tf p 31) .none .none .none (s "law_stackwarden_k16_wrong_bytes" 458) none (r 219) .none)
def o153 : OF := fun p P => tu [(s "_law_chunks" 520), (s "_law_starts_here" 521), (s "_law_at" 522), (s "_law_chunk_here" 523)]
def o154 : OF := fun p P => no (fx 0 0 "_law_starts" "_law_starts" (tf p 32) .none .none .none .none none .none .none)
def o155 : OF := fun p P => co [(s "_law_starts" 517), (s "_law_starts" 518), (s cF 519), (i 166), (i 1), (i 0), (i 0), (i 3), (r 221), (.bool true), (i 181), (r 222), .none, (r 223), (r 224), (r 225), (i 524), (i 166), (s cF 525)]
def o156 : OF := fun p P => fo (fn "_law_starts" "_law_starts" (tf p 32) .none .none .none (s "law_stackwarden_k16_wrong_bytes" 458) none (r 226) .none)
def o157 : OF := fun p P => tu [(s "_law_rows_here" 530), (s "_law_chunks" 531), (s "_law_starts_here" 532), (s "_law_some" 533), (s "_law_row_here" 534), (s "_law_chunk_here" 535)]
def o158 : OF := fun p P => no (fx 0 0 "_law_bytes" "_law_bytes" (tf p 33) .none .none .none .none none .none .none)
def o159 : OF := fun p P => co [(s "_law_bytes" 527), (s "_law_bytes" 528), (s cF 529), (i 173), (i 2), (i 0), (i 0), (i 3), (r 228), (.bool true), (i 181), (r 229), .none, (r 230), (r 231), (r 232), (i 536), (i 173), (s cF 537)]
def o160 : OF := fun p P => fo (fn "_law_bytes" "_law_bytes" (tf p 33) .none .none .none (s "law_stackwarden_k16_wrong_bytes" 458) none (r 233) .none)
def o161 : OF := fun p P => tu [(s "_law_script" 542), (s "_law_many_here" 543), (s "_law_rows_here" 544), (s "_law_k" 545)]
def o162 : OF := fun p P => no (fx 0 0 "_law_rows" "_law_rows" (tf p 34) .none .none .none .none none .none .none)
def o163 : OF := fun p P => co [(s "_law_rows" 539), (s "_law_rows" 540), (s cF 541), (i 181), (i 1), (i 0), (i 0), (i 3), (r 235), (.bool true), (i 181), (r 236), .none, (r 237), (r 238), (r 239), (i 546), (i 181), (s cF 547)]
def o164 : OF := fun p P => fo (fn "_law_rows" "_law_rows" (tf p 34) .none .none .none (s "law_stackwarden_k16_wrong_bytes" 458) none (r 240) .none)
def o165 : OF := fun p P => tu [(s "_law_cell_here" 552), (s "_law_signs_here" 553)]
def o166 : OF := fun p P => no (fx 0 0 "_law_low" "_law_low" (tf p 35) .none .none .none .none none .none .none)
def o167 : OF := fun p P => co [(s "_law_low" 549), (s "_law_low" 550), (s cF 551), (i 187), (i 1), (i 0), (i 0), (i 3), (r 242), (.bool true), (i 181), (r 243), .none, (r 244), (r 245), (r 246), (i 554), (i 187), (s cF 555)]
def o168 : OF := fun p P => fo (fn "_law_low" "_law_low" (tf p 35) .none .none .none (s "law_stackwarden_k16_wrong_bytes" 458) none (r 247) .none)
def o169 : OF := fun p P => tu [(s "_law_cell_here" 560), (s "_law_size_here" 561), (s "_law_word_here" 562), (s "_law_edge" 563)]
def o170 : OF := fun p P => no (fx 0 0 "_law_long" "_law_long" (tf p 36) .none .none .none .none none .none .none)
def o171 : OF := fun p P => co [(s "_law_long" 557), (s "_law_long" 558), (s cF 559), (i 192), (i 1), (i 0), (i 0), (i 3), (r 249), (.bool true), (i 181), (r 250), .none, (r 251), (r 252), (r 253), (i 564), (i 192), (s cF 565)]
def o172 : OF := fun p P => fo (fn "_law_long" "_law_long" (tf p 36) .none .none .none (s "law_stackwarden_k16_wrong_bytes" 458) none (r 254) .none)
def o173 : OF := fun p P => tu [(s "_law_way" 570), (s "_law_cell_here" 571)]
def o174 : OF := fun p P => no (fx 0 0 "_law_wrong" "_law_wrong" (tf p 37) .none .none .none .none none .none .none)
def o175 : OF := fun p P => co [(s "_law_wrong" 567), (s "_law_wrong" 568), (s cF 569), (i 201), (i 2), (i 0), (i 0), (i 3), (r 256), (.bool true), (i 181), (r 257), .none, (r 258), (r 259), (r 260), (i 572), (i 201), (s cF 573)]
def o176 : OF := fun p P => fo (fn "_law_wrong" "_law_wrong" (tf p 37) .none .none .none (s "law_stackwarden_k16_wrong_bytes" 458) none (r 261) .none)
def o177 : OF := fun p P => tu [(s "_law_some" 578), (s "_law_kept" 579), (s "_law_caught" 580), (s "e" 581)]
def o178 : OF := fun p P => no (fx 0 0 "_law_told" "_law_told" (tf p 38) .none .none .none .none none .none .none)
def o179 : OF := fun p P => co [(s "_law_told" 575), (s "_law_told" 576), (s cF 577), (i 209), (i 1), (i 0), (i 0), (i 3), (r 263), (.bool true), (i 181), (r 264), .none, (r 265), (r 266), (r 267), (i 582), (i 209), (s cF 583)]
def o180 : OF := fun p P => fo (fn "_law_told" "_law_told" (tf p 38) .none .none .none (s "law_stackwarden_k16_wrong_bytes" 458) none (r 268) .none)
def o181 : OF := fun p P => no (fx 0 0 "_law_put_in" "_law_put_in" (tf p 39) .none .none .none .none none .none .none)
def o182 : OF := fun p P => co [(s "_law_put_in" 585), (s "_law_put_in" 586), (s cF 587), (i 221), (i 2), (i 0), (i 0), (i 3), (r 270), (.bool true), (i 181), (r 271), .none, .none, .none, (r 272), (i 588), (i 221), (s cF 589)]
def o183 : OF := fun p P => fo (fn "_law_put_in" "_law_put_in" (tf p 39) .none .none .none (s "law_stackwarden_k16_wrong_bytes" 458) none (r 273) .none)
def o184 : OF := fun p P => no (fx 0 0 "_law_cut" "_law_cut" (tf p 40) .none .none .none .none none .none .none)
def o185 : OF := fun p P => co [(s "_law_cut" 591), (s "_law_cut" 592), (s cF 593), (i 238), (i 2), (i 0), (i 0), (i 3), (r 275), (.bool true), (i 181), (r 276), .none, .none, .none, (r 277), (i 594), (i 238), (s cF 595)]
def o186 : OF := fun p P => fo (fn "_law_cut" "_law_cut" (tf p 40) .none .none .none (s "law_stackwarden_k16_wrong_bytes" 458) none (r 278) .none)
def o187 : OF := fun p P => no (fx 0 0 "_law_many" "_law_many" (tf p 41) .none .none .none .none none .none .none)
def o188 : OF := fun p P => co [(s "_law_many" 597), (s "_law_many" 598), (s cF 599), (i 249), (i 2), (i 0), (i 0), (i 3), (r 280), (.bool true), (i 181), (r 281), .none, .none, .none, (r 282), (i 600), (i 249), (s cF 601)]
def o189 : OF := fun p P => fo (fn "_law_many" "_law_many" (tf p 41) .none .none .none (s "law_stackwarden_k16_wrong_bytes" 458) none (r 283) .none)
def o190 : OF := fun p P => no (fx 0 0 "_law_amid" "_law_amid" (tf p 42) .none .none .none .none none .none .none)
def o191 : OF := fun p P => co [(s "_law_amid" 603), (s "_law_amid" 604), (s cF 605), (i 256), (i 2), (i 0), (i 0), (i 3), (r 285), (.bool true), (i 181), (r 286), .none, .none, .none, (r 287), (i 606), (i 256), (s cF 607)]
def o192 : OF := fun p P => fo (fn "_law_amid" "_law_amid" (tf p 42) .none .none .none (s "law_stackwarden_k16_wrong_bytes" 458) none (r 288) .none)
noncomputable def T7 (p : Program) (P : Params) : BT := (bn (PySem.W.boot_o_0 P) (bn (PySem.W.boot_o_1 P) (bn (o144 p P) (bn (PySem.W.boot_o_7 P) (bn (o6 p P) (bn (o0 p P) (bn (o47 p P) (bn (o0 p P) (bl (o172 p P)) .nil) (bl (o0 p P))) (bn (o0 p P) (bn (o114 p P) (bl (o190 p P)) .nil) (bl (o153 p P)))) (bn (o0 p P) (bn (o62 p P) (bn (o105 p P) (bl (o1 p P)) .nil) (bl (o142 p P))) (bn (o85 p P) (bl (o1 p P)) (bl (o162 p P))))) (bn (o11 p P) (bn (o26 p P) (bn (o52 p P) (bn (o1 p P) (bl (o0 p P)) .nil) (bl (o137 p P))) (bn (o80 p P) (bl (o119 p P)) (bl (o0 p P)))) (bn (o39 p P) (bn (o70 p P) (bn (o0 p P) (bl (o186 p P)) .nil) (bl (o1 p P))) (bn (o90 p P) (bl (o128 p P)) (bl (o167 p P)))))) (bn (o0 p P) (bn (o1 p P) (bn (o0 p P) (bn (o1 p P) (bn (o98 p P) (bl (o0 p P)) .nil) (bl (o0 p P))) (bn (o0 p P) (bl (o1 p P)) (bl (o156 p P)))) (bn (o35 p P) (bn (o66 p P) (bn (o108 p P) (bl (o0 p P)) .nil) (bl (o146 p P))) (bn (o87 p P) (bl (o126 p P)) (bl (o1 p P))))) (bn (o15 p P) (bn (o0 p P) (bn (o56 p P) (bn (o103 p P) (bl (o178 p P)) .nil) (bl (o1 p P))) (bn (o1 p P) (bl (o121 p P)) (bl (o0 p P)))) (bn (o19 p P) (bn (o74 p P) (bn (o0 p P) (bl (o188 p P)) .nil) (bl (o151 p P))) (bn (o0 p P) (bl (o131 p P)) (bl (o169 p P))))))) (bn (PySem.W.boot_o_5 P) (bn (PySem.W.boot_o_9 P) (bn (o8 p P) (bn (o21 p P) (bn (o49 p P) (bn (o97 p P) (bl (o1 p P)) .nil) (bl (o134 p P))) (bn (o77 p P) (bn (o116 p P) (bl (o192 p P)) .nil) (bl (o154 p P)))) (bn (o34 p P) (bn (o64 p P) (bn (o106 p P) (bl (o182 p P)) .nil) (bl (o0 p P))) (bn (o0 p P) (bl (o0 p P)) (bl (o164 p P))))) (bn (o13 p P) (bn (o7 p P) (bn (o54 p P) (bn (o0 p P) (bl (o177 p P)) .nil) (bl (o139 p P))) (bn (o82 p P) (bl (o0 p P)) (bl (o159 p P)))) (bn (o41 p P) (bn (o72 p P) (bn (o111 p P) (bl (o1 p P)) .nil) (bl (o0 p P))) (bn (o1 p P) (bl (o129 p P)) (bl (o0 p P)))))) (bn (o2 p P) (bn (o10 p P) (bn (o24 p P) (bn (o0 p P) (bn (o100 p P) (bl (o175 p P)) .nil) (bl (o136 p P))) (bn (o79 p P) (bl (o0 p P)) (bl (o1 p P)))) (bn (o37 p P) (bn (o68 p P) (bn (o1 p P) (bl (o184 p P)) .nil) (bl (o148 p P))) (bn (o88 p P) (bl (o0 p P)) (bl (o0 p P))))) (bn (o7 p P) (bn (o32 p P) (bn (o58 p P) (bn (o0 p P) (bl (o180 p P)) .nil) (bl (o0 p P))) (bn (o0 p P) (bl (o123 p P)) (bl (o161 p P)))) (bn (o46 p P) (bn (o1 p P) (bn (o113 p P) (bl (o0 p P)) .nil) (bl (o0 p P))) (bn (o93 p P) (bl (o1 p P)) (bl (o170 p P)))))))) (bn (PySem.W.boot_o_2 P) (bn (PySem.W.boot_o_4 P) (bn (PySem.W.boot_o_8 P) (bn (o7 p P) (bn (o1 p P) (bn (o48 p P) (bn (o1 p P) (bl (o0 p P)) .nil) (bl (o133 p P))) (bn (o76 p P) (bn (o115 p P) (bl (o191 p P)) .nil) (bl (o0 p P)))) (bn (o1 p P) (bn (o63 p P) (bn (o0 p P) (bl (o181 p P)) .nil) (bl (o143 p P))) (bn (o86 p P) (bl (o124 p P)) (bl (o163 p P))))) (bn (o45 p P) (bn (o19 p P) (bn (o53 p P) (bn (o101 p P) (bl (o1 p P)) .nil) (bl (o138 p P))) (bn (o81 p P) (bl (o120 p P)) (bl (o158 p P)))) (bn (o40 p P) (bn (o71 p P) (bn (o110 p P) (bl (o0 p P)) .nil) (bl (o149 p P))) (bn (o0 p P) (bl (o0 p P)) (bl (o168 p P)))))) (bn (o145 p P) (bn (o9 p P) (bn (o23 p P) (bn (o50 p P) (bn (o99 p P) (bl (o174 p P)) .nil) (bl (o1 p P))) (bn (o1 p P) (bl (o117 p P)) (bl (o0 p P)))) (bn (o36 p P) (bn (o67 p P) (bn (o0 p P) (bl (o1 p P)) .nil) (bl (o147 p P))) (bn (o0 p P) (bl (o127 p P)) (bl (o165 p P))))) (bn (o19 p P) (bn (o31 p P) (bn (o57 p P) (bn (o104 p P) (bl (o179 p P)) .nil) (bl (o140 p P))) (bn (o83 p P) (bl (o122 p P)) (bl (o1 p P)))) (bn (o7 p P) (bn (o0 p P) (bn (o1 p P) (bl (o189 p P)) .nil) (bl (o152 p P))) (bn (o92 p P) (bl (o0 p P)) (bl (o0 p P))))))) (bn (PySem.W.boot_o_6 P) (bn (PySem.W.boot_o_10 P) (bn (o0 p P) (bn (o22 p P) (bn (o0 p P) (bn (o0 p P) (bl (o173 p P)) .nil) (bl (o135 p P))) (bn (o78 p P) (bl (o0 p P)) (bl (o155 p P)))) (bn (o0 p P) (bn (o65 p P) (bn (o107 p P) (bl (o183 p P)) .nil) (bl (o1 p P))) (bn (o1 p P) (bl (o125 p P)) (bl (o0 p P))))) (bn (o14 p P) (bn (o30 p P) (bn (o55 p P) (bn (o102 p P) (bl (o0 p P)) .nil) (bl (o0 p P))) (bn (o0 p P) (bl (o1 p P)) (bl (o160 p P)))) (bn (o42 p P) (bn (o73 p P) (bn (o112 p P) (bl (o187 p P)) .nil) (bl (o150 p P))) (bn (o91 p P) (bl (o130 p P)) (bl (o1 p P)))))) (bn (o3 p P) (bn (o0 p P) (bn (o25 p P) (bn (o51 p P) (bn (o0 p P) (bl (o176 p P)) .nil) (bl (o0 p P))) (bn (o0 p P) (bl (o118 p P)) (bl (o157 p P)))) (bn (o38 p P) (bn (o69 p P) (bn (o109 p P) (bl (o185 p P)) .nil) (bl (o0 p P))) (bn (o89 p P) (bl (o1 p P)) (bl (o166 p P))))) (bn (o20 p P) (bn (o33 p P) (bn (o59 p P) (bn (o1 p P) (bl (o0 p P)) .nil) (bl (o141 p P))) (bn (o84 p P) (bl (o0 p P)) (bl (o0 p P)))) (bn (o0 p P) (bn (o75 p P) (bn (o0 p P) (bl (o1 p P)) .nil) (bl (o1 p P))) (bn (o94 p P) (bl (o132 p P)) (bl (o171 p P)))))))))
def o193 : OF := fun p P => di [de P "__name__" 165 (s "law_stackwarden_k16_wrong_bytes" 458), de P "__doc__" 166 .none, de P "__package__" 167 .none, de P "__loader__" 168 (.builtin "__main__.__loader__#opaque"), de P "__spec__" 169 .none, de P "__annotations__" 170 (r 6), de P "__builtins__" 171 (r 4), de P "__file__" 173 (s cF 172), de P "__cached__" 174 .none, de P "WardenError" 206 (r 24), de P "Nought" 222 (r 37), de P "NoRow" 247 (r 56), de P "NoCode" 274 (r 75), de P "MOST_ROWS" 278 (.int 100 277), de P "SIGNS" 304 (r 78), de P "WANTS" 345 (r 79), de P "wants" 352 (r 98), de P "MOST_PUSH" 356 (.int 4 355), de P "MOST_FIELD" 358 (.int 7 357), de P "push_size" 367 (r 105), de P "low_want" 375 (r 112), de P "tail_want" 383 (r 119), de P "tail_size" 392 (r 126), de P "low_is_right" 401 (r 133), de P "joined_number" 410 (r 140), de P "signed_number" 418 (r 147), de P "row_at" 430 (r 154), de P "row_of" 442 (r 161), de P "placed" 451 (r 168), de P "rows_of" 457 (r 173), de P "_law_cell" 469 (r 180), de P "_law_word" 477 (r 187), de P "_law_signs" 484 (r 194), de P "_law_row" 494 (r 201), de P "_law_size" 502 (r 208), de P "_law_ended" 508 (r 213), de P "_law_chunk" 516 (r 220), de P "_law_starts" 526 (r 227), de P "_law_bytes" 538 (r 234), de P "_law_rows" 548 (r 241), de P "_law_low" 556 (r 248), de P "_law_long" 566 (r 255), de P "_law_wrong" 574 (r 262), de P "_law_told" 584 (r 269), de P "_law_put_in" 590 (r 274), de P "_law_cut" 596 (r 279), de P "_law_many" 602 (r 284), de P "_law_amid" 608 (r 289), de P "law" 614 (r 294)] 49
def o194 : OF := fun p P => nf [(i 2), (i 0), (r 20), (i 4), (i 0), (r 33), (i 6), (i 0), (r 45), (i 10), (i 0), (r 64), (i 19), (i 0), (r 97), (i 24), (i 0), (r 104), (i 33), (i 0), (r 111), (i 38), (i 0), (r 118), (i 43), (i 0), (r 125), (i 52), (i 0), (r 132), (i 59), (i 0), (r 139), (i 64), (i 0), (r 146), (i 69), (i 0), (r 153), (i 81), (i 0), (r 160), (i 95), (i 0), (r 167), (i 101), (i 0), (r 172), (i 116), (i 0), (r 179), (i 123), (i 0), (r 186), (i 132), (i 0), (r 193), (i 135), (i 0), (r 200), (i 148), (i 0), (r 207), (i 155), (i 0), (r 212), (i 157), (i 0), (r 219), (i 166), (i 0), (r 226), (i 173), (i 0), (r 233), (i 181), (i 0), (r 240), (i 187), (i 0), (r 247), (i 192), (i 0), (r 254), (i 201), (i 0), (r 261), (i 209), (i 0), (r 268), (i 221), (i 0), (r 273), (i 238), (i 0), (r 278), (i 249), (i 0), (r 283), (i 256), (i 0), (r 288), (i 281), (i 0), (r 293)]
def o195 : OF := fun p P => no (fx 0 0 "law" "law" (tf p 43) .none .none .none .none none .none .none)
def o196 : OF := fun p P => co [(s "law" 609), (s "law" 610), (s cF 611), (i 281), (i 1), (i 0), (i 0), (i 3), (r 290), (.bool true), (i 181), (r 291), .none, .none, .none, (r 292), (i 612), (i 281), (s cF 613)]
def o197 : OF := fun p P => fo (fn "law" "law" (tf p 43) .none .none .none (s "law_stackwarden_k16_wrong_bytes" 458) none (r 293) .none)
noncomputable def T8 (p : Program) (P : Params) : BT := (bn (PySem.W.boot_o_0 P) (bn (PySem.W.boot_o_1 P) (bn (o193 p P) (bn (PySem.W.boot_o_7 P) (bn (o6 p P) (bn (o0 p P) (bn (o47 p P) (bn (o0 p P) (bl (o172 p P)) .nil) (bl (o0 p P))) (bn (o0 p P) (bn (o114 p P) (bl (o190 p P)) .nil) (bl (o153 p P)))) (bn (o0 p P) (bn (o62 p P) (bn (o105 p P) (bl (o1 p P)) .nil) (bl (o142 p P))) (bn (o85 p P) (bl (o1 p P)) (bl (o162 p P))))) (bn (o11 p P) (bn (o26 p P) (bn (o52 p P) (bn (o1 p P) (bl (o0 p P)) .nil) (bl (o137 p P))) (bn (o80 p P) (bl (o119 p P)) (bl (o0 p P)))) (bn (o39 p P) (bn (o70 p P) (bn (o0 p P) (bl (o186 p P)) .nil) (bl (o1 p P))) (bn (o90 p P) (bl (o128 p P)) (bl (o167 p P)))))) (bn (o0 p P) (bn (o1 p P) (bn (o0 p P) (bn (o1 p P) (bn (o98 p P) (bl (o0 p P)) .nil) (bl (o0 p P))) (bn (o0 p P) (bn (o1 p P) (bl (o1 p P)) .nil) (bl (o156 p P)))) (bn (o35 p P) (bn (o66 p P) (bn (o108 p P) (bl (o0 p P)) .nil) (bl (o146 p P))) (bn (o87 p P) (bl (o126 p P)) (bl (o1 p P))))) (bn (o15 p P) (bn (o0 p P) (bn (o56 p P) (bn (o103 p P) (bl (o178 p P)) .nil) (bl (o1 p P))) (bn (o1 p P) (bl (o121 p P)) (bl (o0 p P)))) (bn (o19 p P) (bn (o74 p P) (bn (o0 p P) (bl (o188 p P)) .nil) (bl (o151 p P))) (bn (o0 p P) (bl (o131 p P)) (bl (o169 p P))))))) (bn (PySem.W.boot_o_5 P) (bn (PySem.W.boot_o_9 P) (bn (o8 p P) (bn (o21 p P) (bn (o49 p P) (bn (o97 p P) (bl (o1 p P)) .nil) (bl (o134 p P))) (bn (o77 p P) (bn (o116 p P) (bl (o192 p P)) .nil) (bl (o154 p P)))) (bn (o34 p P) (bn (o64 p P) (bn (o106 p P) (bl (o182 p P)) .nil) (bl (o0 p P))) (bn (o0 p P) (bl (o0 p P)) (bl (o164 p P))))) (bn (o13 p P) (bn (o7 p P) (bn (o54 p P) (bn (o0 p P) (bl (o177 p P)) .nil) (bl (o139 p P))) (bn (o82 p P) (bl (o0 p P)) (bl (o159 p P)))) (bn (o41 p P) (bn (o72 p P) (bn (o111 p P) (bl (o1 p P)) .nil) (bl (o0 p P))) (bn (o1 p P) (bl (o129 p P)) (bl (o0 p P)))))) (bn (o2 p P) (bn (o10 p P) (bn (o24 p P) (bn (o0 p P) (bn (o100 p P) (bl (o175 p P)) .nil) (bl (o136 p P))) (bn (o79 p P) (bn (o0 p P) (bl (o196 p P)) .nil) (bl (o1 p P)))) (bn (o37 p P) (bn (o68 p P) (bn (o1 p P) (bl (o184 p P)) .nil) (bl (o148 p P))) (bn (o88 p P) (bl (o0 p P)) (bl (o0 p P))))) (bn (o7 p P) (bn (o32 p P) (bn (o58 p P) (bn (o0 p P) (bl (o180 p P)) .nil) (bl (o0 p P))) (bn (o0 p P) (bl (o123 p P)) (bl (o161 p P)))) (bn (o46 p P) (bn (o1 p P) (bn (o113 p P) (bl (o0 p P)) .nil) (bl (o0 p P))) (bn (o93 p P) (bl (o1 p P)) (bl (o170 p P)))))))) (bn (PySem.W.boot_o_2 P) (bn (PySem.W.boot_o_4 P) (bn (PySem.W.boot_o_8 P) (bn (o7 p P) (bn (o1 p P) (bn (o48 p P) (bn (o1 p P) (bl (o0 p P)) .nil) (bl (o133 p P))) (bn (o76 p P) (bn (o115 p P) (bl (o191 p P)) .nil) (bl (o0 p P)))) (bn (o1 p P) (bn (o63 p P) (bn (o0 p P) (bl (o181 p P)) .nil) (bl (o143 p P))) (bn (o86 p P) (bl (o124 p P)) (bl (o163 p P))))) (bn (o45 p P) (bn (o19 p P) (bn (o53 p P) (bn (o101 p P) (bl (o1 p P)) .nil) (bl (o138 p P))) (bn (o81 p P) (bl (o120 p P)) (bl (o158 p P)))) (bn (o40 p P) (bn (o71 p P) (bn (o110 p P) (bl (o0 p P)) .nil) (bl (o149 p P))) (bn (o0 p P) (bl (o0 p P)) (bl (o168 p P)))))) (bn (o194 p P) (bn (o9 p P) (bn (o23 p P) (bn (o50 p P) (bn (o99 p P) (bl (o174 p P)) .nil) (bl (o1 p P))) (bn (o1 p P) (bn (o117 p P) (bl (o195 p P)) .nil) (bl (o0 p P)))) (bn (o36 p P) (bn (o67 p P) (bn (o0 p P) (bl (o1 p P)) .nil) (bl (o147 p P))) (bn (o0 p P) (bl (o127 p P)) (bl (o165 p P))))) (bn (o19 p P) (bn (o31 p P) (bn (o57 p P) (bn (o104 p P) (bl (o179 p P)) .nil) (bl (o140 p P))) (bn (o83 p P) (bl (o122 p P)) (bl (o1 p P)))) (bn (o7 p P) (bn (o0 p P) (bn (o1 p P) (bl (o189 p P)) .nil) (bl (o152 p P))) (bn (o92 p P) (bl (o0 p P)) (bl (o0 p P))))))) (bn (PySem.W.boot_o_6 P) (bn (PySem.W.boot_o_10 P) (bn (o0 p P) (bn (o22 p P) (bn (o0 p P) (bn (o0 p P) (bl (o173 p P)) .nil) (bl (o135 p P))) (bn (o78 p P) (bn (o0 p P) (bl (o0 p P)) .nil) (bl (o155 p P)))) (bn (o0 p P) (bn (o65 p P) (bn (o107 p P) (bl (o183 p P)) .nil) (bl (o1 p P))) (bn (o1 p P) (bl (o125 p P)) (bl (o0 p P))))) (bn (o14 p P) (bn (o30 p P) (bn (o55 p P) (bn (o102 p P) (bl (o0 p P)) .nil) (bl (o0 p P))) (bn (o0 p P) (bl (o1 p P)) (bl (o160 p P)))) (bn (o42 p P) (bn (o73 p P) (bn (o112 p P) (bl (o187 p P)) .nil) (bl (o150 p P))) (bn (o91 p P) (bl (o130 p P)) (bl (o1 p P)))))) (bn (o3 p P) (bn (o0 p P) (bn (o25 p P) (bn (o51 p P) (bn (o0 p P) (bl (o176 p P)) .nil) (bl (o0 p P))) (bn (o0 p P) (bn (o118 p P) (bl (o197 p P)) .nil) (bl (o157 p P)))) (bn (o38 p P) (bn (o69 p P) (bn (o109 p P) (bl (o185 p P)) .nil) (bl (o0 p P))) (bn (o89 p P) (bl (o1 p P)) (bl (o166 p P))))) (bn (o20 p P) (bn (o33 p P) (bn (o59 p P) (bn (o1 p P) (bl (o0 p P)) .nil) (bl (o141 p P))) (bn (o84 p P) (bl (o0 p P)) (bl (o0 p P)))) (bn (o0 p P) (bn (o75 p P) (bn (o0 p P) (bl (o1 p P)) .nil) (bl (o1 p P))) (bn (o94 p P) (bl (o132 p P)) (bl (o171 p P)))))))))
noncomputable def HF (p : Program) (P : Params) : Heap := ⟨Array.mk [(PySem.W.boot_o_0 P), (PySem.W.boot_o_1 P), (PySem.W.boot_o_2 P), (o193 p P), (PySem.W.boot_o_4 P), (PySem.W.boot_o_5 P), (PySem.W.boot_o_6 P), (PySem.W.boot_o_7 P), (PySem.W.boot_o_8 P), (PySem.W.boot_o_9 P), (PySem.W.boot_o_10 P), (o0 p P), (o194 p P), (o2 p P), (o3 p P), (o6 p P), (o7 p P), (o8 p P), (o0 p P), (o1 p P), (o9 p P), (o10 p P), (o0 p P), (o11 p P), (o45 p P), (o13 p P), (o14 p P), (o15 p P), (o19 p P), (o7 p P), (o20 p P), (o0 p P), (o1 p P), (o21 p P), (o22 p P), (o0 p P), (o23 p P), (o24 p P), (o25 p P), (o26 p P), (o19 p P), (o7 p P), (o30 p P), (o0 p P), (o31 p P), (o32 p P), (o33 p P), (o0 p P), (o1 p P), (o34 p P), (o0 p P), (o35 p P), (o36 p P), (o37 p P), (o38 p P), (o39 p P), (o40 p P), (o41 p P), (o42 p P), (o19 p P), (o7 p P), (o46 p P), (o0 p P), (o47 p P), (o48 p P), (o49 p P), (o0 p P), (o1 p P), (o50 p P), (o0 p P), (o51 p P), (o52 p P), (o53 p P), (o54 p P), (o55 p P), (o56 p P), (o57 p P), (o58 p P), (o59 p P), (o62 p P), (o63 p P), (o64 p P), (o65 p P), (o66 p P), (o67 p P), (o68 p P), (o69 p P), (o70 p P), (o71 p P), (o72 p P), (o73 p P), (o74 p P), (o0 p P), (o1 p P), (o75 p P), (o0 p P), (o76 p P), (o77 p P), (o78 p P), (o0 p P), (o1 p P), (o79 p P), (o0 p P), (o80 p P), (o81 p P), (o82 p P), (o0 p P), (o1 p P), (o83 p P), (o0 p P), (o84 p P), (o85 p P), (o86 p P), (o0 p P), (o1 p P), (o87 p P), (o0 p P), (o88 p P), (o89 p P), (o90 p P), (o0 p P), (o1 p P), (o91 p P), (o0 p P), (o92 p P), (o93 p P), (o94 p P), (o0 p P), (o1 p P), (o97 p P), (o0 p P), (o98 p P), (o99 p P), (o100 p P), (o0 p P), (o1 p P), (o101 p P), (o0 p P), (o102 p P), (o103 p P), (o104 p P), (o0 p P), (o1 p P), (o105 p P), (o0 p P), (o106 p P), (o107 p P), (o108 p P), (o0 p P), (o1 p P), (o109 p P), (o0 p P), (o110 p P), (o111 p P), (o112 p P), (o0 p P), (o1 p P), (o113 p P), (o0 p P), (o114 p P), (o115 p P), (o116 p P), (o0 p P), (o1 p P), (o117 p P), (o0 p P), (o118 p P), (o119 p P), (o120 p P), (o0 p P), (o1 p P), (o121 p P), (o122 p P), (o123 p P), (o0 p P), (o1 p P), (o124 p P), (o0 p P), (o125 p P), (o126 p P), (o127 p P), (o0 p P), (o1 p P), (o128 p P), (o0 p P), (o129 p P), (o130 p P), (o131 p P), (o0 p P), (o1 p P), (o132 p P), (o0 p P), (o133 p P), (o134 p P), (o135 p P), (o0 p P), (o1 p P), (o136 p P), (o0 p P), (o137 p P), (o138 p P), (o139 p P), (o0 p P), (o1 p P), (o140 p P), (o0 p P), (o141 p P), (o142 p P), (o143 p P), (o0 p P), (o1 p P), (o146 p P), (o147 p P), (o148 p P), (o0 p P), (o1 p P), (o149 p P), (o0 p P), (o150 p P), (o151 p P), (o152 p P), (o0 p P), (o1 p P), (o153 p P), (o0 p P), (o154 p P), (o155 p P), (o156 p P), (o0 p P), (o1 p P), (o157 p P), (o0 p P), (o158 p P), (o159 p P), (o160 p P), (o0 p P), (o1 p P), (o161 p P), (o0 p P), (o162 p P), (o163 p P), (o164 p P), (o0 p P), (o1 p P), (o165 p P), (o0 p P), (o166 p P), (o167 p P), (o168 p P), (o0 p P), (o1 p P), (o169 p P), (o0 p P), (o170 p P), (o171 p P), (o172 p P), (o0 p P), (o1 p P), (o173 p P), (o0 p P), (o174 p P), (o175 p P), (o176 p P), (o0 p P), (o1 p P), (o177 p P), (o0 p P), (o178 p P), (o179 p P), (o180 p P), (o0 p P), (o1 p P), (o181 p P), (o182 p P), (o183 p P), (o0 p P), (o1 p P), (o184 p P), (o185 p P), (o186 p P), (o0 p P), (o1 p P), (o187 p P), (o188 p P), (o189 p P), (o0 p P), (o1 p P), (o190 p P), (o191 p P), (o192 p P), (o0 p P), (o1 p P), (o195 p P), (o196 p P), (o197 p P)], {}⟩
noncomputable def K (P : Params) : PySem.W.Frag := (nat_lit 2, (PySem.W.boot_o_2 P)) :: (nat_lit 3, (o193 pw P)) :: (nat_lit 15, (o6 pw P)) :: (nat_lit 22, (o0 pw P)) :: (nat_lit 23, (o11 pw P)) :: (nat_lit 24, (o45 pw P)) :: (nat_lit 25, (o13 pw P)) :: (nat_lit 28, (o19 pw P)) :: (nat_lit 35, (o0 pw P)) :: (nat_lit 36, (o23 pw P)) :: (nat_lit 37, (o24 pw P)) :: (nat_lit 40, (o19 pw P)) :: (nat_lit 47, (o0 pw P)) :: (nat_lit 49, (o34 pw P)) :: (nat_lit 50, (o0 pw P)) :: (nat_lit 52, (o36 pw P)) :: (nat_lit 53, (o37 pw P)) :: (nat_lit 54, (o38 pw P)) :: (nat_lit 55, (o39 pw P)) :: (nat_lit 56, (o40 pw P)) :: (nat_lit 59, (o19 pw P)) :: (nat_lit 66, (o0 pw P)) :: (nat_lit 68, (o50 pw P)) :: (nat_lit 69, (o0 pw P)) :: (nat_lit 71, (o52 pw P)) :: (nat_lit 72, (o53 pw P)) :: (nat_lit 73, (o54 pw P)) :: (nat_lit 74, (o55 pw P)) :: (nat_lit 75, (o56 pw P)) :: (nat_lit 78, (o59 pw P)) :: (nat_lit 79, (o62 pw P)) :: (nat_lit 80, (o63 pw P)) :: (nat_lit 81, (o64 pw P)) :: (nat_lit 82, (o65 pw P)) :: (nat_lit 83, (o66 pw P)) :: (nat_lit 84, (o67 pw P)) :: (nat_lit 85, (o68 pw P)) :: (nat_lit 86, (o69 pw P)) :: (nat_lit 87, (o70 pw P)) :: (nat_lit 88, (o71 pw P)) :: (nat_lit 89, (o72 pw P)) :: (nat_lit 90, (o73 pw P)) :: (nat_lit 91, (o74 pw P)) :: (nat_lit 92, (o0 pw P)) :: (nat_lit 94, (o75 pw P)) :: (nat_lit 95, (o0 pw P)) :: (nat_lit 97, (o77 pw P)) :: (nat_lit 98, (o78 pw P)) :: (nat_lit 99, (o0 pw P)) :: (nat_lit 101, (o79 pw P)) :: (nat_lit 102, (o0 pw P)) :: (nat_lit 104, (o81 pw P)) :: (nat_lit 105, (o82 pw P)) :: (nat_lit 106, (o0 pw P)) :: (nat_lit 108, (o83 pw P)) :: (nat_lit 109, (o0 pw P)) :: (nat_lit 111, (o85 pw P)) :: (nat_lit 112, (o86 pw P)) :: (nat_lit 113, (o0 pw P)) :: (nat_lit 115, (o87 pw P)) :: (nat_lit 116, (o0 pw P)) :: (nat_lit 118, (o89 pw P)) :: (nat_lit 119, (o90 pw P)) :: (nat_lit 120, (o0 pw P)) :: (nat_lit 122, (o91 pw P)) :: (nat_lit 123, (o0 pw P)) :: (nat_lit 125, (o93 pw P)) :: (nat_lit 126, (o94 pw P)) :: (nat_lit 127, (o0 pw P)) :: (nat_lit 129, (o97 pw P)) :: (nat_lit 130, (o0 pw P)) :: (nat_lit 132, (o99 pw P)) :: (nat_lit 133, (o100 pw P)) :: (nat_lit 134, (o0 pw P)) :: (nat_lit 136, (o101 pw P)) :: (nat_lit 137, (o0 pw P)) :: (nat_lit 139, (o103 pw P)) :: (nat_lit 140, (o104 pw P)) :: (nat_lit 141, (o0 pw P)) :: (nat_lit 143, (o105 pw P)) :: (nat_lit 144, (o0 pw P)) :: (nat_lit 146, (o107 pw P)) :: (nat_lit 147, (o108 pw P)) :: (nat_lit 148, (o0 pw P)) :: (nat_lit 150, (o109 pw P)) :: (nat_lit 151, (o0 pw P)) :: (nat_lit 153, (o111 pw P)) :: (nat_lit 154, (o112 pw P)) :: (nat_lit 155, (o0 pw P)) :: (nat_lit 157, (o113 pw P)) :: (nat_lit 158, (o0 pw P)) :: (nat_lit 160, (o115 pw P)) :: (nat_lit 161, (o116 pw P)) :: (nat_lit 162, (o0 pw P)) :: (nat_lit 164, (o117 pw P)) :: (nat_lit 165, (o0 pw P)) :: (nat_lit 167, (o119 pw P)) :: (nat_lit 168, (o120 pw P)) :: (nat_lit 169, (o0 pw P)) :: (nat_lit 172, (o122 pw P)) :: (nat_lit 173, (o123 pw P)) :: (nat_lit 174, (o0 pw P)) :: (nat_lit 176, (o124 pw P)) :: (nat_lit 177, (o0 pw P)) :: (nat_lit 179, (o126 pw P)) :: (nat_lit 180, (o127 pw P)) :: (nat_lit 181, (o0 pw P)) :: (nat_lit 183, (o128 pw P)) :: (nat_lit 184, (o0 pw P)) :: (nat_lit 186, (o130 pw P)) :: (nat_lit 187, (o131 pw P)) :: (nat_lit 188, (o0 pw P)) :: (nat_lit 190, (o132 pw P)) :: (nat_lit 191, (o0 pw P)) :: (nat_lit 193, (o134 pw P)) :: (nat_lit 194, (o135 pw P)) :: (nat_lit 195, (o0 pw P)) :: (nat_lit 197, (o136 pw P)) :: (nat_lit 198, (o0 pw P)) :: (nat_lit 200, (o138 pw P)) :: (nat_lit 201, (o139 pw P)) :: (nat_lit 202, (o0 pw P)) :: (nat_lit 204, (o140 pw P)) :: (nat_lit 205, (o0 pw P)) :: (nat_lit 207, (o142 pw P)) :: (nat_lit 208, (o143 pw P)) :: (nat_lit 209, (o0 pw P)) :: (nat_lit 212, (o147 pw P)) :: (nat_lit 213, (o148 pw P)) :: (nat_lit 214, (o0 pw P)) :: (nat_lit 216, (o149 pw P)) :: (nat_lit 217, (o0 pw P)) :: (nat_lit 219, (o151 pw P)) :: (nat_lit 220, (o152 pw P)) :: (nat_lit 221, (o0 pw P)) :: (nat_lit 223, (o153 pw P)) :: (nat_lit 224, (o0 pw P)) :: (nat_lit 226, (o155 pw P)) :: (nat_lit 227, (o156 pw P)) :: (nat_lit 228, (o0 pw P)) :: (nat_lit 230, (o157 pw P)) :: (nat_lit 231, (o0 pw P)) :: (nat_lit 233, (o159 pw P)) :: (nat_lit 234, (o160 pw P)) :: (nat_lit 235, (o0 pw P)) :: (nat_lit 237, (o161 pw P)) :: (nat_lit 238, (o0 pw P)) :: (nat_lit 240, (o163 pw P)) :: (nat_lit 241, (o164 pw P)) :: (nat_lit 242, (o0 pw P)) :: (nat_lit 244, (o165 pw P)) :: (nat_lit 245, (o0 pw P)) :: (nat_lit 247, (o167 pw P)) :: (nat_lit 248, (o168 pw P)) :: (nat_lit 249, (o0 pw P)) :: (nat_lit 251, (o169 pw P)) :: (nat_lit 252, (o0 pw P)) :: (nat_lit 254, (o171 pw P)) :: (nat_lit 255, (o172 pw P)) :: (nat_lit 256, (o0 pw P)) :: (nat_lit 258, (o173 pw P)) :: (nat_lit 259, (o0 pw P)) :: (nat_lit 261, (o175 pw P)) :: (nat_lit 262, (o176 pw P)) :: (nat_lit 263, (o0 pw P)) :: (nat_lit 265, (o177 pw P)) :: (nat_lit 266, (o0 pw P)) :: (nat_lit 268, (o179 pw P)) :: (nat_lit 269, (o180 pw P)) :: (nat_lit 270, (o0 pw P)) :: (nat_lit 273, (o182 pw P)) :: (nat_lit 274, (o183 pw P)) :: (nat_lit 275, (o0 pw P)) :: (nat_lit 278, (o185 pw P)) :: (nat_lit 279, (o186 pw P)) :: (nat_lit 280, (o0 pw P)) :: (nat_lit 283, (o188 pw P)) :: (nat_lit 284, (o189 pw P)) :: (nat_lit 285, (o0 pw P)) :: (nat_lit 288, (o191 pw P)) :: (nat_lit 289, (o192 pw P)) :: (nat_lit 290, (o0 pw P)) :: (nat_lit 293, (o196 pw P)) :: (nat_lit 294, (o197 pw P)) :: []
abbrev asK : List Addr := [2, 3, 15, 22, 23, 24, 25, 28, 35, 36, 37, 40, 47, 49, 50, 52, 53, 54, 55, 56, 59, 66, 68, 69, 71, 72, 73, 74, 75, 78, 79, 80, 81, 82, 83, 84, 85, 86, 87, 88, 89, 90, 91, 92, 94, 95, 97, 98, 99, 101, 102, 104, 105, 106, 108, 109, 111, 112, 113, 115, 116, 118, 119, 120, 122, 123, 125, 126, 127, 129, 130, 132, 133, 134, 136, 137, 139, 140, 141, 143, 144, 146, 147, 148, 150, 151, 153, 154, 155, 157, 158, 160, 161, 162, 164, 165, 167, 168, 169, 172, 173, 174, 176, 177, 179, 180, 181, 183, 184, 186, 187, 188, 190, 191, 193, 194, 195, 197, 198, 200, 201, 202, 204, 205, 207, 208, 209, 212, 213, 214, 216, 217, 219, 220, 221, 223, 224, 226, 227, 228, 230, 231, 233, 234, 235, 237, 238, 240, 241, 242, 244, 245, 247, 248, 249, 251, 252, 254, 255, 256, 258, 259, 261, 262, 263, 265, 266, 268, 269, 270, 273, 274, 275, 278, 279, 280, 283, 284, 285, 288, 289, 290, 293, 294]
theorem asK_eq : ∀ P, asK = (K P).map (·.1) := fun _ => by kernel_rfl
noncomputable abbrev hK : Hook := kHook K asK asK_eq
theorem pre_ (w : World) : (fun os => topGo treeTable pw w 11 (some (.ref 6)) 12 ⟨boot_heap w.params, Array.mk [], boot_drawn, boot_toks, os⟩ (topStub pw)) = fun os => some (SH (H0 pw w.params) 187 os, (⟨denote treeTable (codeF pw), codeF pw, ⟨0, 0, 0, 0⟩, BF⟩ : Thread)) := by
  walk_at "qk"
theorem block_ (w : World) : (fun os => segRun treeTable pw w 11 (some (.ref 6)) 1 1 (SH (H0 pw w.params) 187 os) (blockOf (behindTheImports pw) (envF pw) (codeF pw) ⟨0, 0, 0, 0⟩ BF)) = fun os => some (.next, (ST (T0 pw w.params) 15 187 os).abs, codeF pw, ⟨0, 0, 0, 0⟩) := by
  walk_at "qk"
theorem seg1 (w : World) : (fun os => segRunT treeTable pw w 11 (some (.ref 6)) 1 196 (ST (T0 pw w.params) 15 187 os) (piecesOf (stsF pw 0 2) (envF pw) (codeF pw) ⟨0, 0, 0, 0⟩ BF)) = fun os => some (.next, ST (T1 pw w.params) 28 207 os, codeF pw, ⟨2, 0, 3, 8⟩) := by
  walk_at "qk"
theorem seg2 (w : World) : (fun os => segRunT treeTable pw w 11 (some (.ref 6)) 1 214 (ST (T1 pw w.params) 28 207 os) (piecesOf (stsF pw 2 1) (envF pw) (codeF pw) ⟨2, 0, 3, 8⟩ BF)) = fun os => some (.next, ST (T2 pw w.params) 40 223 os, codeF pw, ⟨4, 0, 5, 8⟩) := by
  walk_at "qk"
theorem seg3 (w : World) : (fun os => segRunT treeTable pw w 11 (some (.ref 6)) 1 246 (ST (T2 pw w.params) 40 223 os) (piecesOf (stsF pw 3 1) (envF pw) (codeF pw) ⟨4, 0, 5, 8⟩ BF)) = fun os => some (.next, ST (T3 pw w.params) 59 248 os, codeF pw, ⟨6, 0, 9, 20⟩) := by
  walk_at "qk"
theorem seg4 (w : World) : (fun os => segRunT treeTable pw w 11 (some (.ref 6)) 1 301 (ST (T3 pw w.params) 59 248 os) (piecesOf (stsF pw 4 4) (envF pw) (codeF pw) ⟨6, 0, 9, 20⟩ BF)) = fun os => some (.next, ST (T4 pw w.params) 79 305 os, codeF pw, ⟨17, 0, 17, 5⟩) := by
  walk_at "qk"
theorem seg5 (w : World) : (fun os => segRunT treeTable pw w 11 (some (.ref 6)) 1 397 (ST (T4 pw w.params) 79 305 os) (piecesOf (stsF pw 8 9) (envF pw) (codeF pw) ⟨17, 0, 17, 5⟩ BF)) = fun os => some (.next, ST (T5 pw w.params) 127 393 os, codeF pw, ⟨43, 0, 51, 12⟩) := by
  refine byRow2 "special-get-raises" (P := fun w => (fun os => segRunT treeTable pw w 11 (some (.ref 6)) 1 397 (ST (T4 pw w.params) 79 305 os) (piecesOf (stsF pw 8 9) (envF pw) (codeF pw) ⟨17, 0, 17, 5⟩ BF)) = fun os => some (.next, ST (T5 pw w.params) 127 393 os, codeF pw, ⟨43, 0, 51, 12⟩)) (fun w => ?_) (fun w => ?_) w <;> (show _ = _; walk_at "qk")
theorem seg6 (w : World) : (fun os => segRunT treeTable pw w 11 (some (.ref 6)) 1 380 (ST (T5 pw w.params) 127 393 os) (piecesOf (stsF pw 17 13) (envF pw) (codeF pw) ⟨43, 0, 51, 12⟩ BF)) = fun os => some (.next, ST (T6 pw w.params) 209 503 os, codeF pw, ⟨148, 0, 154, 25⟩) := by
  walk_at "qk"
theorem seg7 (w : World) : (fun os => segRunT treeTable pw w 11 (some (.ref 6)) 1 383 (ST (T6 pw w.params) 209 503 os) (piecesOf (stsF pw 30 13) (envF pw) (codeF pw) ⟨148, 0, 154, 25⟩ BF)) = fun os => some (.next, ST (T7 pw w.params) 290 609 os, codeF pw, ⟨256, 0, 280, 82⟩) := by
  walk_at "qk"
theorem seg8 (w : World) : (fun os => segRunT treeTable pw w 11 (some (.ref 6)) 1 27 (ST (T7 pw w.params) 290 609 os) (piecesOf (stsF pw 43 1) (envF pw) (codeF pw) ⟨256, 0, 280, 82⟩ BF)) = fun os => some (.next, ST (T8 pw w.params) 295 615 os, codeF pw, ⟨281, 0, 295, 63⟩) := by
  walk_at "qk"
theorem fin_ (w : World) : (fun os => topRun treeTable pw w 11 (some (.ref 6)) 2 (ST (T8 pw w.params) 295 615 os).abs ⟨doneF .next, codeF pw, ⟨281, 0, 295, 63⟩, BF⟩) = fun os => some (SH (HF pw w.params) 615 os) := by
  walk_at "qk"
theorem body_ : behindTheImports pw = stsF pw 0 2 ++ (stsF pw 2 1 ++ (stsF pw 3 1 ++ (stsF pw 4 4 ++ (stsF pw 8 9 ++ (stsF pw 17 13 ++ (stsF pw 30 13 ++ (stsF pw 43 1 ++ ([])))))))) := by
  kernel_rfl
theorem run_ (w : World) (os : OsState) : topRun treeTable pw w 11 (some (.ref 6)) (12 + (1 + (196 + (214 + (246 + (301 + (397 + (380 + (383 + (27 + 2)))))))))) ⟨boot_heap w.params, Array.mk [], boot_drawn, boot_toks, os⟩ (topStub pw) = some (SH (HF pw w.params) 615 os) := by
  have k : topRun treeTable pw w 11 (some (.ref 6)) (196 + (214 + (246 + (301 + (397 + (380 + (383 + (27 + 2)))))))) (ST (T0 pw w.params) 15 187 os).abs (restOf (stsF pw 0 2 ++ (stsF pw 2 1 ++ (stsF pw 3 1 ++ (stsF pw 4 4 ++ (stsF pw 8 9 ++ (stsF pw 17 13 ++ (stsF pw 30 13 ++ (stsF pw 43 1 ++ ([]))))))))) (envF pw) (codeF pw) ⟨0, 0, 0, 0⟩ BF) = some (SH (HF pw w.params) 615 os) := piece_app (segRun_of (congrFun (seg1 w) os)) (piece_app (segRun_of (congrFun (seg2 w) os)) (piece_app (segRun_of (congrFun (seg3 w) os)) (piece_app (segRun_of (congrFun (seg4 w) os)) (piece_app (segRun_of (congrFun (seg5 w) os)) (piece_app (segRun_of (congrFun (seg6 w) os)) (piece_app (segRun_of (congrFun (seg7 w) os)) (piece_app (segRun_of (congrFun (seg8 w) os)) (congrFun (fin_ w) os))))))))
  rw [← body_] at k
  exact go_top (congrFun (pre_ w) os) (piece_block (congrFun (block_ w) os) k)
theorem l0 (w : World) : (fun os => staticsOk (importedModules pw.main.body) (boot_heap w.params) (HF pw w.params) && namesBound pw (HF pw w.params) && gensDone (SH (HF pw w.params) 615 os) && laidKept (boot_heap w.params) (HF pw w.params)) = fun _ => true := by
  walk_at "qk"
theorem l1 (w : World) : (fun os => PyProof.Rows.seen ((PyProof.Rows.recsOf (viewF pw)).map (·.name)) (PyProof.Rows.ownsOf (viewF pw)) [] { (SH (HF pw w.params) 615 os) with gens := #[] }) = fun _ => PyProof.Rows.expectedOf (viewF pw) := by
  walk_at "qk"
theorem l2 (w : World) : (fun os => (SH (HF pw w.params) 615 os).heap.bltView) = fun _ => bltViewBooted := by
  walk_at "qk"
theorem l3 (w : World) : (fun os => (SH (HF pw w.params) 615 os).heap.keysOk (looseW (viewF pw) ["WANTS"]) ((PyProof.Rows.recsOf (viewF pw)).map (·.name)) ((PyProof.Rows.litsOf (viewF pw)).map (·.1)) ((PyProof.Rows.clssOf (viewF pw) (looseW (viewF pw) ["WANTS"])).map (·.name)) && (SH (HF pw w.params) 615 os).heap.accountedOkI (importedModules pw.main.body) && (SH (HF pw w.params) 615 os).heap.isNs mainGlobals && (SH (HF pw w.params) 615 os).heap.isNs builtinsNs && PyProof.Rows.tablesOk (viewF pw) (SH (HF pw w.params) 615 os).heap && (fun s => xlAt (viewF pw) [] s && recOk (RowW.records (OpenRow.toRowW PySem.Challenge.rw_stackwarden_k16_wrong_bytes.row)) s) (SH (HF pw w.params) 615 os) && (if true then (SH (HF pw w.params) 615 os).gens.size == 0 else !leftWithCleanup (SH (HF pw w.params) 615 os).gens)) = fun _ => true := by
  walk_at "qk"
theorem l4 (w : World) : (fun os => PyProof.Rows.tabsOk (viewF pw) (SH (HF pw w.params) 615 os)) = fun _ => true := by
  walk_at "qk"
theorem l5 (w : World) : (fun os => pinSeenD (viewF pw) (PyProof.Rows.drecsOf (viewF pw)) (SH (HF pw w.params) 615 os)) = fun _ => pinGoodD (PyProof.Rows.drecsOf (viewF pw)) := by
  walk_at "qk"
theorem l6 (w : World) : (fun os => PyProof.Rows.plainSeenE (viewF pw) (looseW (viewF pw) ["WANTS"]) (SH (HF pw w.params) 615 os)) = fun _ => PyProof.Rows.plainGoodE (viewF pw) (looseW (viewF pw) ["WANTS"]) := by
  walk_at "qk"
theorem l7 (w : World) : (fun os => PyProof.Rows.plainSeenD (viewF pw) ["WANTS"] (SH (HF pw w.params) 615 os)) = fun _ => PyProof.Rows.plainGoodD (viewF pw) ["WANTS"] := by
  walk_at "qk"
theorem l8 (w : World) : (fun os => wideSeen (viewF pw) (SH (HF pw w.params) 615 os)) = fun _ => wideGood (viewF pw) := by
  walk_at "qk"
theorem l9 (w : World) : (fun os => clsSeenW (viewF pw) ["WANTS"] (SH (HF pw w.params) 615 os)) = fun _ => clsGoodW (viewF pw) ["WANTS"] := by
  walk_at "qk"
theorem lY (w : World) : (fun os => hK.obs (SH (HF pw w.params) 615 os)) = fun _ => hK.val w := by
  show (fun os => asK.map (SH (HF pw w.params) 615 os).heap.get?) = fun _ => (K w.params).map fun p => some p.2
  unfold K
  walk_at "qk"
theorem hl : LeftO pw (viewF pw) ["WANTS"] (fun s => xlAt (viewF pw) [] s && recOk (RowW.records (OpenRow.toRowW PySem.Challenge.rw_stackwarden_k16_wrong_bytes.row)) s) hK.obs hK.val 4398 := by
  refine LeftO.of_pieces (m₀ := 11) (ann := (some (.ref 6))) (M := (12 + (1 + (196 + (214 + (246 + (301 + (397 + (380 + (383 + (27 + 2))))))))))) (boot_open (by kernel_rfl) (by decide) (fun s => by kernel_rfl)) (fun w => ?_) run_ (by decide) (fun w => ?_)
  · walk_at "qk"
  · funext os
    exact looks_pair (congrFun (l0 w) os) (looks_pair (looks_pair (congrFun (l1 w) os) (looks_pair (congrFun (l2 w) os) (looks_pair (congrFun (l3 w) os) (looks_pair (congrFun (l4 w) os) (looks_pair (congrFun (l5 w) os) (looks_pair (congrFun (l6 w) os) (looks_pair (congrFun (l7 w) os) (looks_pair (congrFun (l8 w) os) (congrFun (l9 w) os))))))))) (congrFun (lY w) os))
end MH
open PySem PySem.W PyProof.Rows
set_option maxRecDepth 100000 in
set_option maxHeartbeats 0 in
theorem PySem.Challenge.cw_stackwarden_k16_wrong_bytes_holds : PySem.Challenge.rw_stackwarden_k16_wrong_bytes.Holds := by
  w_on; o_law
  refine PySem.W.holds_open (q := (MH.viewF PySem.Challenge.pw_stackwarden_k16_wrong_bytes)) (loose := ["WANTS"]) (Xt := (fun s => xlAt (MH.viewF PySem.Challenge.pw_stackwarden_k16_wrong_bytes) [] s && recOk (RowW.records (OpenRow.toRowW PySem.Challenge.rw_stackwarden_k16_wrong_bytes.row)) s)) (XP := XL (MH.viewF PySem.Challenge.pw_stackwarden_k16_wrong_bytes) []) (Yf := Hook.obs (kHook MH.K MH.asK MH.asK_eq)) (Ya := Hook.val (kHook MH.K MH.asK MH.asK_eq)) (YP := Hook.says (kHook MH.K MH.asK MH.asK_eq)) (N := 4398) MH.hl (Hook.of (kHook MH.K MH.asK MH.asK_eq)) (Hook.keeps (kHook MH.K MH.asK MH.asK_eq)) (fun s e => xl_of s (Bool.and_eq_true_iff.mp e).1) XL.keeps (by rfl) (by rfl) (by rfl) (fun s e => recFacts_of (Bool.and_eq_true_iff.mp e).2) (by rfl) (by first | assumption | decide +kernel) (by decide +kernel) ⟨rfl, rfl, rfl, rfl, rfl, by decide +kernel⟩ ?hw ?hc
  case hw => w_witness2
  k_fill
  refine Mine.walk (l := PySem.Challenge.rw_stackwarden_k16_wrong_bytes) rfl rfl (fun w h Y => PySem.W.kIn_of Y) ?F
  case F =>
    intro w mg fa h KX G hmg
    refine' Mine.all_mk KX G hmg ?a0 ?l0 ?c0 ?k0 ?a1 ?l1 ?c1 ?k1 ?a2 ?l2 ?c2 ?k2 ?a3 ?l3 ?c3 ?k3 ?a4 ?l4 ?c4 ?k4 ?a5 ?l5 ?c5 ?k5 ?a6 ?l6 ?c6 ?k6 ?a7 ?l7 ?c7 ?k7 ?a8 ?l8 ?c8 ?k8 ?a9 ?l9 ?c9 ?k9 ?a10 ?l10 ?c10 ?k10 ?a11 ?l11 ?c11 ?k11 ?a12 ?l12 ?c12 ?k12 ?a13 ?l13 ?c13 ?k13 ?a14 ?l14 ?c14 ?k14 ?a15 ?l15 ?c15 ?k15 ?a16 ?l16 ?c16 ?k16 ?a17 ?l17 ?c17 ?k17 ?a18 ?l18 ?c18 ?k18 ?a19 ?l19 ?c19 ?k19 ?a20 ?l20 ?c20 ?k20 ?a21 ?l21 ?c21 ?k21 ?a22 ?l22 ?c22 ?k22 ?a23 ?l23 ?c23 ?k23 ?a24 ?l24 ?c24 ?k24 ?a25 ?l25 ?c25 ?k25 ?a26 ?l26 ?c26 ?k26 ?a27 ?l27 ?c27 ?k27 ?a28 ?l28 ?c28 ?k28 ?a29 ?l29 ?c29 ?k29 ?a30 ?l30 ?c30 ?k30 ?g_MOST_FIELD ?g_MOST_PUSH ?g_MOST_ROWS ?g_NoCode ?w_NoCode ?g_NoRow ?w_NoRow ?g_Nought ?e_Nought ?w_Nought ?g_WardenError ?e_WardenError ?w_WardenError ?ni0_NoCode ?ni1_NoCode ?ni2_NoCode ?ni3_NoCode ?ni4_NoCode ?ni5_NoCode ?ni6_NoCode ?ni7_NoCode ?ei_NoCode ?nj0_NoCode ?nj1_NoCode ?kx1_NoCode ?kx2_NoCode ?kx3_NoCode ?kx4_NoCode ?kx5_NoCode ?kx6_NoCode ?m_CW ?na_NoCode1 ?na_NoCode2 ?i_CC ?i_CV ?i_CR ?i_CN ?g_SIGNS ?q_SIGNS_27 ?g_WANTS ?n_WANTS_54 ?q_WANTS_53 ?q_WANTS_52 ?q_WANTS_48 ?q_WANTS_43 ?q_WANTS_38 ?q_WANTS_34 ?q_WANTS_29 ?q_WANTS_25 ?q_WANTS_20 ?q_WANTS_16 ?q_WANTS_12 ?q_WANTS_8 ?q_WANTS_4 ?z_ValueError ?z_bool ?z_int ?z_isinstance ?z_len ?z_list ?z_max ?z_min ?z_range ?z_sum ?z_zip
    (case a0 => k_is)
    (case l0 => k_is)
    (case c0 => k_is)
    (case k0 => k_is)
    (case a1 => k_is)
    (case l1 => k_is)
    (case c1 => k_is)
    (case k1 => k_is)
    (case a2 => k_is)
    (case l2 => k_is)
    (case c2 => k_is)
    (case k2 => k_is)
    (case a3 => k_is)
    (case l3 => k_is)
    (case c3 => k_is)
    (case k3 => k_is)
    (case a4 => k_is)
    (case l4 => k_is)
    (case c4 => k_is)
    (case k4 => k_is)
    (case a5 => k_is)
    (case l5 => k_is)
    (case c5 => k_is)
    (case k5 => k_is)
    (case a6 => k_is)
    (case l6 => k_is)
    (case c6 => k_is)
    (case k6 => k_is)
    (case a7 => k_is)
    (case l7 => k_is)
    (case c7 => k_is)
    (case k7 => k_is)
    (case a8 => k_is)
    (case l8 => k_is)
    (case c8 => k_is)
    (case k8 => k_is)
    (case a9 => k_is)
    (case l9 => k_is)
    (case c9 => k_is)
    (case k9 => k_is)
    (case a10 => k_is)
    (case l10 => k_is)
    (case c10 => k_is)
    (case k10 => k_is)
    (case a11 => k_is)
    (case l11 => k_is)
    (case c11 => k_is)
    (case k11 => k_is)
    (case a12 => k_is)
    (case l12 => k_is)
    (case c12 => k_is)
    (case k12 => k_is)
    (case a13 => k_is)
    (case l13 => k_is)
    (case c13 => k_is)
    (case k13 => k_is)
    (case a14 => k_is)
    (case l14 => k_is)
    (case c14 => k_is)
    (case k14 => k_is)
    (case a15 => k_is)
    (case l15 => k_is)
    (case c15 => k_is)
    (case k15 => k_is)
    (case a16 => k_is)
    (case l16 => k_is)
    (case c16 => k_is)
    (case k16 => k_is)
    (case a17 => k_is)
    (case l17 => k_is)
    (case c17 => k_is)
    (case k17 => k_is)
    (case a18 => k_is)
    (case l18 => k_is)
    (case c18 => k_is)
    (case k18 => k_is)
    (case a19 => k_is)
    (case l19 => k_is)
    (case c19 => k_is)
    (case k19 => k_is)
    (case a20 => k_is)
    (case l20 => k_is)
    (case c20 => k_is)
    (case k20 => k_is)
    (case a21 => k_is)
    (case l21 => k_is)
    (case c21 => k_is)
    (case k21 => k_is)
    (case a22 => k_is)
    (case l22 => k_is)
    (case c22 => k_is)
    (case k22 => k_is)
    (case a23 => k_is)
    (case l23 => k_is)
    (case c23 => k_is)
    (case k23 => k_is)
    (case a24 => k_is)
    (case l24 => k_is)
    (case c24 => k_is)
    (case k24 => k_is)
    (case a25 => k_is)
    (case l25 => k_is)
    (case c25 => k_is)
    (case k25 => k_is)
    (case a26 => k_is)
    (case l26 => k_is)
    (case c26 => k_is)
    (case k26 => k_is)
    (case a27 => k_is)
    (case l27 => k_is)
    (case c27 => k_is)
    (case k27 => k_is)
    (case a28 => k_is)
    (case l28 => k_is)
    (case c28 => k_is)
    (case k28 => k_is)
    (case a29 => k_is)
    (case l29 => k_is)
    (case c29 => k_is)
    (case k29 => k_is)
    (case a30 => k_is)
    (case l30 => k_is)
    (case c30 => k_is)
    (case k30 => k_is)
    (case g_MOST_FIELD => k_is)
    (case g_MOST_PUSH => k_is)
    (case g_MOST_ROWS => k_is)
    (case g_NoCode => k_is)
    (case w_NoCode => kts_isx)
    (case g_NoRow => k_is)
    (case w_NoRow => kts_isx)
    (case g_Nought => k_is)
    (case e_Nought => k_exc)
    (case w_Nought => kts_isx)
    (case g_WardenError => k_is)
    (case e_WardenError => k_exc)
    (case w_WardenError => kts_isx)
    (case ni0_NoCode => k_is)
    (case ni1_NoCode => k_is)
    (case ni2_NoCode => k_is)
    (case ni3_NoCode => k_is)
    (case ni4_NoCode => k_is)
    (case ni5_NoCode => k_is)
    (case ni6_NoCode => k_is)
    (case ni7_NoCode => k_is)
    (case ei_NoCode => kernel_rfl!)
    (case nj0_NoCode => k_is)
    (case nj1_NoCode => k_is)
    (case kx1_NoCode => k_is)
    (case kx2_NoCode => k_is)
    (case kx3_NoCode => k_is)
    (case kx4_NoCode => k_is)
    (case kx5_NoCode => k_is)
    (case kx6_NoCode => k_is)
    (case m_CW => k_is)
    (case na_NoCode1 => k_is)
    (case na_NoCode2 => k_is)
    (case i_CC => kit_is)
    (case i_CV => kit_is)
    (case i_CR => kit_is)
    (case i_CN => kit_is)
    (case g_SIGNS => k_is)
    (case q_SIGNS_27 => k_is)
    (case g_WANTS => k_is)
    (case n_WANTS_54 => first | rfl | decide | k_is)
    (case q_WANTS_53 => k_is)
    (case q_WANTS_52 => k_is)
    (case q_WANTS_48 => k_is)
    (case q_WANTS_43 => k_is)
    (case q_WANTS_38 => k_is)
    (case q_WANTS_34 => k_is)
    (case q_WANTS_29 => k_is)
    (case q_WANTS_25 => k_is)
    (case q_WANTS_20 => k_is)
    (case q_WANTS_16 => k_is)
    (case q_WANTS_12 => k_is)
    (case q_WANTS_8 => k_is)
    (case q_WANTS_4 => k_is)
    (case z_ValueError => k_is)
    (case z_bool => k_is)
    (case z_int => k_is)
    (case z_isinstance => k_is)
    (case z_len => k_is)
    (case z_list => k_is)
    (case z_max => k_is)
    (case z_min => k_is)
    (case z_range => k_is)
    (case z_sum => k_is)
    (case z_zip => k_is)
#print axioms PySem.Challenge.cw_stackwarden_k16_wrong_bytes_holds
