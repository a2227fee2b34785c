import PyProof.Rows.All
import Wide.All
import OpenK.AllK
import Wide.FinOn
import Lean
import PyProof.EqAt
import PyProof.EqKinds
import PyProof.TupleCall
import PyProof.ZipIter
import KE.KTryDeep
import KE.KIsAll
import KE.KIntText
import PyProof.ExcArgsOwn
import PySem.Challenge.RW_stackwarden_k18_lines_read
-- CHANGE: your row's module here, as the last of these rows
set_option Elab.async false
set_option linter.all false
set_option maxRecDepth 100000
/-! THE HAND LAYER, for ints, bools, texts, own classes, LISTS and tuples (index, slices, in, append, pop ..), calls, loops. Paste it whole ahead of your own text; what your proof does not reach may be deleted. -/
namespace L2
open PySem PySem.Spec PyProof.Rows

/-- a key: an int or a str -/
abbrev Key := Sum Int Str
def keyIs : Key → Value → Bool
  | .inl k, v => Value.isInt k v
  | .inr x, v => Value.isStrOf x v
def keyH (w : World) : Key → Int
  | .inl k => hashInt k
  | .inr x => hashStr w x
theorem keyIs_shape : ∀ {k : Key} {v : Value}, keyIs k v = true → (∃ i t, k = Sum.inl i ∧ v = Value.int i t) ∨ (∃ x t, k = Sum.inr x ∧ v = Value.str x t)
  | .inl i, v, h => by
    obtain ⟨t, e⟩ := Value.isInt_shape (k := i) (v := v) h
    exact .inl ⟨i, t, rfl, e⟩
  | .inr x, v, h => by
    obtain ⟨t, e⟩ := Value.isStrOf_shape (x := x) (v := v) h
    exact .inr ⟨x, t, rfl, e⟩
theorem keyIs_int (i : Int) (t : Tok) : keyIs (.inl i) (.int i t) = true := by simp [keyIs, Value.isInt]
theorem keyIs_str (x : Str) (t : Tok) : keyIs (.inr x) (.str x t) = true := by simp [keyIs, Value.isStrOf]
theorem key_ll (a b : Int) : decide ((Sum.inl a : Key) = Sum.inl b) = (a == b) := by
  by_cases e : a = b
  · subst e; simp
  · have h : ¬ (Sum.inl a : Key) = Sum.inl b := fun q => e (Sum.inl.inj q)
    rw [decide_eq_false h]
    exact (beq_eq_false_iff_ne.mpr e).symm
theorem key_rr (a b : Str) : decide ((Sum.inr a : Key) = Sum.inr b) = decide (a = b) := by
  by_cases e : a = b
  · subst e; simp
  · have h : ¬ (Sum.inr a : Key) = Sum.inr b := fun q => e (Sum.inr.inj q)
    rw [decide_eq_false h, decide_eq_false e]
theorem key_lr (a : Int) (b : Str) : decide ((Sum.inl a : Key) = Sum.inr b) = false := decide_eq_false (fun q => nomatch q)
theorem key_rl (a : Str) (b : Int) : decide ((Sum.inr a : Key) = Sum.inl b) = false := decide_eq_false (fun q => nomatch q)

def mixKind (prog : Program) (w : World) : PySem.KeyKind prog w Key where
  is := keyIs
  hash := keyH w
  inj := fun v a b ha hb => by
    rcases keyIs_shape ha with ⟨i, t, rfl, rfl⟩ | ⟨x, t, rfl, rfl⟩
    · rcases keyIs_shape hb with ⟨j, u, rfl, e⟩ | ⟨y, u, rfl, e⟩
      · injection e with e1 _; rw [e1]
      · exact nomatch e
    · rcases keyIs_shape hb with ⟨j, u, rfl, e⟩ | ⟨y, u, rfl, e⟩
      · exact nomatch e
      · injection e with e1 _; rw [e1]
  byValue := fun k v h => by
    rcases keyIs_shape h with ⟨i, t, rfl, rfl⟩ | ⟨x, t, rfl, rfl⟩ <;> rfl
  pyHash := fun hv h => by
    rcases keyIs_shape hv with ⟨i, t, rfl, rfl⟩ | ⟨x, t, rfl, rfl⟩
    · exact wpAny_pyHash_int h
    · exact wpAny_pyHash_str h
  eqBool := fun hu hv h => by
    rcases keyIs_shape hu with ⟨i, t, rfl, rfl⟩ | ⟨x, t, rfl, rfl⟩
    · rcases keyIs_shape hv with ⟨j, u, rfl, rfl⟩ | ⟨y, u, rfl, rfl⟩
      · rw [key_ll] at h; exact wpAny_eqBool_int h
      · rw [key_lr] at h; exact SeqAt.EqAt.int_str i t y u _ _ _ _ h
    · rcases keyIs_shape hv with ⟨j, u, rfl, rfl⟩ | ⟨y, u, rfl, rfl⟩
      · rw [key_rl] at h; exact SeqAt.EqAt.str_int x t j u _ _ _ _ h
      · rw [key_rr] at h; exact wpAny_eqBool_str h
  «strs» := fun k x t v h => by
    rcases keyIs_shape h with ⟨i, u, rfl, e⟩ | ⟨y, u, rfl, e⟩
    · exact nomatch e
    · injection e with e1 _
      subst e1
      cases v <;> rfl

theorem mixKind_is (prog : Program) (w : World) (k : Key) (v : Value) : (mixKind prog w).is k v = keyIs k v := rfl
theorem mixKind_int (prog : Program) (w : World) (i : Int) (t : Tok) : (mixKind prog w).is (.inl i) (.int i t) = true := keyIs_int i t
theorem mixKind_str (prog : Program) (w : World) (x : Str) (t : Tok) : (mixKind prog w).is (.inr x) (.str x t) = true := keyIs_str x t
end L2

namespace L2
open PySem PySem.Spec PyProof.Rows

/-- a value, without the heap -/
inductive V where
  | non | bl (b : Bool) | int (i : Int) | str (x : Str) | byt (b : Array UInt8) | flt (b : UInt64) | ref (a : Addr) | ty (n : String)
  deriving DecidableEq

def RelV : V → Value → Prop
  | .non, u => u = Value.none
  | .bl b, u => u = Value.bool b
  | .int i, u => ∃ t, u = Value.int i t
  | .str x, u => ∃ t, u = Value.str x t
  | .byt b, u => ∃ t, u = Value.bytes b t
  | .flt b, u => ∃ t, u = Value.float b t
  | .ref a, u => u = Value.ref a
  | .ty n, u => u = Value.type n

abbrev Vals : List V → List Value → Prop := Paired RelV
theorem Vals.length {xs : List V} {us : List Value} (r : Vals xs us) : xs.length = us.length := Paired.length r
theorem Vals.get : ∀ {xs : List V} {us : List Value} {i : Nat} {x : V}, Vals xs us → xs[i]? = some x → ∃ u, us[i]? = some u ∧ RelV x u
  | _, _, _, _, .nil, e => by simp at e
  | _, _, 0, _, .cons r _, e => by simp at e; subst e; exact ⟨_, rfl, r⟩
  | _, _, i + 1, x, .cons _ t, e => by
    obtain ⟨u, h1, h2⟩ := Vals.get (i := i) (x := x) t (by simpa using e)
    exact ⟨u, by simpa using h1, h2⟩
theorem Vals.set {x : V} {u : Value} (r : RelV x u) : ∀ {xs : List V} {us : List Value} (i : Nat), Vals xs us → Vals (xs.set i x) (us.set i u)
  | _, _, _, .nil => .nil
  | _, _, 0, .cons _ t => .cons r t
  | _, _, i + 1, .cons q t => .cons q (Vals.set r i t)
theorem Vals.append : ∀ {xs ys : List V} {us ws : List Value}, Vals xs us → Vals ys ws → Vals (xs ++ ys) (us ++ ws)
  | _, _, _, _, .nil, s => s
  | _, _, _, _, .cons r t, s => .cons r (Vals.append t s)
theorem Vals.take : ∀ {xs : List V} {us : List Value} (n : Nat), Vals xs us → Vals (xs.take n) (us.take n)
  | _, _, 0, _ => .nil
  | _, _, _ + 1, .nil => .nil
  | _, _, n + 1, .cons r t => .cons r (Vals.take n t)
theorem Vals.drop : ∀ {xs : List V} {us : List Value} (n : Nat), Vals xs us → Vals (xs.drop n) (us.drop n)
  | _, _, 0, r => r
  | _, _, _ + 1, .nil => .nil
  | _, _, n + 1, .cons _ t => Vals.drop n t
theorem Vals.none_of : ∀ {xs : List V} {us : List Value} {i : Nat}, Vals xs us → xs[i]? = none → us[i]? = none := fun {xs us i} r e => by
  have h1 := r.length
  have h2 : xs.length ≤ i := List.getElem?_eq_none_iff.mp e
  exact List.getElem?_eq_none_iff.mpr (by omega)

def RelO : Option V → Option Value → Prop
  | some v, some u => RelV v u
  | none, none => True
  | _, _ => False
def KV {κ : Type} : List (κ × V) → List (κ × Value) → Prop := Paired fun (p : κ × V) (q : κ × Value) => p.1 = q.1 ∧ RelV p.2 q.2

/-- a key of a dict (00_mix): an int or a text -/
def kV : Key → V
  | .inl i => .int i
  | .inr x => .str x

/-- what stands at a tracked address -/
inductive HO where
  /-- a list -/
  | lst (xs : List V)
  /-- a tuple (never changes) -/
  | tup (xs : List V)
  /-- a dict whose keys are ints and texts; one whose keys are tuples of ints and texts (the empty one is both) -/
  | dK (kvs : List (Key × V)) | dT (kvs : List (List Key × V))
  /-- a set of ints: its members, its size -/
  | set (S : Int → Bool) (n : Nat)
  /-- an instance of the class at C, its dict at dx, its attributes -/
  | ins (C dx : Addr) (fs : List (Str × V))
  /-- the dict of the instance at x -/
  | own (x : Addr)
  /-- the dict of an exception -/
  | xd (fs : List (Str × V))
  /-- a bound method, f of x -/
  | met (f x : Addr)
  /-- a range object lo, lo + 1, .. below hi -/
  | rng (lo hi : Int)
  /-- a thing that is known to the object (the script; a dict while a loop walks it): read, never written while it is so -/
  | frz (o : Obj) (u : HO)
  /-- a code object's table -/
  | tbl (ps : Array Value)
  /-- any other thing, by what is true of its one object (a def of one's own: SetO a S n := HO.ext fun h => ..) -/
  | ext (φ : Heap → Prop)

abbrev Hp := Addr → Option HO
def upd (H : Hp) (a : Addr) (o : HO) : Hp := fun b => if b = a then some o else H b
theorem upd_same {H : Hp} {a : Addr} {o : HO} : upd H a o a = some o := by unfold upd; rw [if_pos rfl]
theorem upd_ne {H : Hp} {a b : Addr} {o : HO} (h : b ≠ a) : upd H a o b = H b := by unfold upd; rw [if_neg h]
theorem upd_upd {H : Hp} {a : Addr} {o u : HO} : upd (upd H a o) a u = upd H a u := by
  funext b; unfold upd; split <;> rfl
/-- two objects of different content stand apart -/
theorem ne_of {H : Hp} {a b : Addr} {o u : HO} (h : H a = some o) (h' : H b = some u) (d : o ≠ u) : a ≠ b := by
  intro e; subst e; rw [h] at h'; exact d (Option.some.inj h')
theorem ne_of_none {H : Hp} {a b : Addr} {o : HO} (h : H a = some o) (h' : H b = none) : a ≠ b := by
  intro e; subst e; rw [h] at h'; cases h'

section
variable (P : Program) (w : World)
def ObjOk (H : Hp) (h : Heap) (a : Addr) : HO → Prop
  | .lst xs => xs.length ≤ sizeLine ∧ ∃ (its : List Value) (n : Nat), Vals xs its ∧ h.get? a = some { cls := .type "list", data := .seq its.toArray n }
  | .tup xs => xs.length ≤ sizeLine ∧ ∃ its : List Value, Vals xs its ∧ IsTup h a its.toArray
  | .dK kvs => kvs.length ≤ sizeLine ∧ (a == sysModules) = false ∧ ∃ vs, KV kvs vs ∧ h.DictOf (mixKind P w) a vs
  | .dT kvs => kvs.length ≤ sizeLine ∧ (a == sysModules) = false ∧ ∃ xs : List (List Key × Addr × Value),
      Paired (fun (p : List Key × V) (q : List Key × Addr × Value) => p.1 = q.1 ∧ H q.2.1 = some (.tup (p.1.map kV)) ∧ RelV p.2 q.2.2) kvs xs ∧
      ∃ o es ep, h.get? a = some o ∧ o.ExactDict ∧ o.data = .dict es ep ∧ es.toList = xs.map (entryOfKey (tupleKind (mixKind P w))) ∧ (xs.map (·.1)).Nodup
  | .set S n => h.SetOf (intKind P w) a S n
  | .ins C dx fs => H dx = some (.own a) ∧ fs.length ≤ 1000 ∧ dx ≠ a ∧ h.get? a = some (PySem.W.instObj C dx) ∧
      ∃ mA, h.Ns1 dx mA ∧ (∀ f, RelO (fs.lookup f) (mA f)) ∧ PySem.Within mA (fs.map (·.1))
  | .own _ => ∃ o, h.get? a = some o
  | .xd fs => ∃ mA, h.Ns1 a mA ∧ ∀ f, RelO (fs.lookup f) (mA f)
  | .rng lo hi => ∃ t u v, h.get? a = some { cls := .type "range", data := .fields #[.int lo t, .int hi u, .int 1 v] }
  | .frz o u => h.get? a = some o ∧ ObjOk H h a u
  | .tbl ps => h.get? a = some { cls := .none, data := .fields ps }
  | .met f x => h.get? a = some (PySem.W.methodObj (.ref f) (.ref x))
  | .ext φ => φ h ∧ (∃ o, h.get? a = some o) ∧ ∀ h1 h2 : Heap, φ h1 → (∀ o, h1.get? a = some o → h2.get? a = some o) → φ h2
/-- the abstract heap is held -/
def HOk (H : Hp) (h : Heap) : Prop := ∀ a o, H a = some o → ObjOk P w H h a o
end

section
variable {P : Program} {w : World} {H H' : Hp} {h h' : Heap} {a : Addr} {o : HO}
theorem ObjOk.lt (x : ObjOk P w H h a o) : a < h.objs.size := by
  cases o with
  | lst xs => obtain ⟨_, _, _, _, e⟩ := x; exact Heap.lt_size e
  | tup xs => obtain ⟨_, _, _, p⟩ := x; exact p.lt
  | dK kvs => obtain ⟨_, _, _, _, o, _, _, e, _⟩ := x; exact Heap.lt_size e
  | dT kvs => obtain ⟨_, _, _, _, o, _, _, e, _⟩ := x; exact Heap.lt_size e
  | set S n => obtain ⟨o, _, _, _, e, _⟩ := x; exact Heap.lt_size e
  | ins C dx fs => obtain ⟨_, _, _, e, _⟩ := x; exact Heap.lt_size e
  | own y => obtain ⟨_, e⟩ := x; exact Heap.lt_size e
  | xd fs => obtain ⟨_, ⟨_, _, _, e, _⟩, _⟩ := x; exact Heap.lt_size e
  | rng lo hi => obtain ⟨_, _, _, e⟩ := x; exact Heap.lt_size e
  | frz ob u => obtain ⟨e, _⟩ := x; exact Heap.lt_size e
  | tbl ps => exact Heap.lt_size (show h.get? a = some _ from x)
  | met f y => exact Heap.lt_size (show h.get? a = some _ from x)
  | ext φ => obtain ⟨_, ⟨_, e⟩, _⟩ := x; exact Heap.lt_size e
theorem Paired.mapP {α β : Type} {F G : α → β → Prop} : ∀ {l₁ : List α} {l₂ : List β}, Paired F l₁ l₂ → (∀ a b, F a b → G a b) → Paired G l₁ l₂
  | _, _, .nil, _ => .nil
  | _, _, .cons r t, f => .cons (f _ _ r) (Paired.mapP t f)
theorem Paired.imp' {α β : Type} {F G : α → β → Prop} (f : ∀ a b, F a b → G a b) {l₁ : List α} {l₂ : List β} (r : Paired F l₁ l₂) : Paired G l₁ l₂ := Paired.mapP r f
/-- what an object's description leans on: its own object, its own dict, the tuples -/
theorem ObjOk.stay (x : ObjOk P w H h a o) (k : ∀ b u, (b = a ∨ H b = some (.own a)) → h.get? b = some u → h'.get? b = some u)
    (ho : ∀ b, H b = some (.own a) → H' b = some (.own a)) (ht : ∀ b xs, H b = some (.tup xs) → H' b = some (.tup xs)) : ObjOk P w H' h' a o := by
  induction o with
  | lst xs => obtain ⟨z, its, n, r, e⟩ := x; exact ⟨z, its, n, r, k _ _ (.inl rfl) e⟩
  | tup xs => obtain ⟨z, its, r, ob, e, c⟩ := x; exact ⟨z, its, r, ob, k _ _ (.inl rfl) e, c⟩
  | dK kvs => obtain ⟨z, y, vs, r, ob, es, ep, e, c⟩ := x; exact ⟨z, y, vs, r, ob, es, ep, k _ _ (.inl rfl) e, c⟩
  | dT kvs =>
    obtain ⟨z, y, xs, r, ob, es, ep, e, c⟩ := x
    exact ⟨z, y, xs, Paired.mapP r fun p q z => ⟨z.1, ht _ _ z.2.1, z.2.2⟩, ob, es, ep, k _ _ (.inl rfl) e, c⟩
  | set S n => obtain ⟨ob, es, ep, t, e, c⟩ := x; exact ⟨ob, es, ep, t, k _ _ (.inl rfl) e, c⟩
  | ins C dx fs =>
    obtain ⟨d, z, ne, e, mA, ⟨od, es, ep, e2, c⟩, r⟩ := x
    exact ⟨ho _ d, z, ne, k _ _ (.inl rfl) e, mA, ⟨od, es, ep, k _ _ (.inr d) e2, c⟩, r⟩
  | own y => obtain ⟨ob, e⟩ := x; exact ⟨ob, k _ _ (.inl rfl) e⟩
  | xd fs => obtain ⟨mA, ⟨od, es, ep, e, c⟩, r⟩ := x; exact ⟨mA, ⟨od, es, ep, k _ _ (.inl rfl) e, c⟩, r⟩
  | rng lo hi => obtain ⟨t, u, v, e⟩ := x; exact ⟨t, u, v, k _ _ (.inl rfl) e⟩
  | frz ob u ih => obtain ⟨e, q⟩ := x; exact ⟨k _ _ (.inl rfl) e, ih q⟩
  | tbl ps =>
    have e : h.get? a = some { cls := .none, data := .fields ps } := x
    show h'.get? a = some { cls := .none, data := .fields ps }
    exact k a _ (.inl rfl) e
  | met f y =>
    have e : h.get? a = some (PySem.W.methodObj (.ref f) (.ref y)) := x
    show h'.get? a = some (PySem.W.methodObj (.ref f) (.ref y))
    exact k a _ (.inl rfl) e
  | ext φ => obtain ⟨p, ⟨o, e⟩, st⟩ := x; exact ⟨st _ _ p fun o q => k _ _ (.inl rfl) q, ⟨o, k _ _ (.inl rfl) e⟩, st⟩
theorem HOk.lt (x : HOk P w H h) (e : H a = some o) : a < h.objs.size := (x a o e).lt
theorem HOk.fresh (x : HOk P w H h) (e : h.objs.size ≤ a) : H a = none := by
  cases q : H a with
  | none => rfl
  | some u => exact absurd (Nat.lt_of_lt_of_le (x.lt q) e) (Nat.lt_irrefl _)
/-- every object of the heap is kept -/
theorem HOk.kept (x : HOk P w H h) (k : ∀ b u, h.get? b = some u → h'.get? b = some u) : HOk P w H h' := fun a o e =>
  (x a o e).stay (fun b u _ q => k b u q) (fun _ q => q) fun _ _ q => q
/-- a new object is laid and tracked -/
theorem HOk.laid (x : HOk P w H h) (k : ∀ b u, h.get? b = some u → h'.get? b = some u) (hp : h.objs.size ≤ a) (new : ObjOk P w (upd H a o) h' a o) : HOk P w (upd H a o) h' := fun b u e => by
  have hn := x.fresh hp
  by_cases hb : b = a
  · subst hb; rw [upd_same] at e; cases e; exact new
  · rw [upd_ne hb] at e
    exact (x b u e).stay (fun c v _ q => k c v q) (fun c q => by rw [upd_ne (ne_of_none q hn)]; exact q) fun c xs q => by rw [upd_ne (ne_of_none q hn)]; exact q
end

/-- what may be read as u: it is u, or a known u -/
def Rd (H : Hp) (a : Addr) (u : HO) : Prop := H a = some u ∨ ∃ o, H a = some (.frz o u)
theorem Rd.of {H : Hp} {a : Addr} {u : HO} (h : H a = some u) : Rd H a u := .inl h
theorem Rd.ok {P : Program} {w : World} {H : Hp} {h : Heap} {a : Addr} {u : HO} (r : Rd H a u) (x : HOk P w H h) : ObjOk P w H h a u := by
  rcases r with r | ⟨o, r⟩
  · exact x a u r
  · obtain ⟨_, q⟩ := x a _ r
    exact q
/-- what may be written -/
def Mut : Option HO → Prop
  | some (.lst _) => True
  | some (.dK _) => True
  | some (.dT _) => True
  | some (.set _ _) => True
  | some (.ins _ _ _) => True
  | some (.ext _) => True
  | _ => False
section
variable {P : Program} {w : World} {H : Hp} {h h' : Heap} {x e : Addr} {o' : HO}
/-- the object at e is changed: x itself, or the dict of the instance x -/
theorem HOk.write (ok : HOk P w H h) (mu : Mut (H x)) (he : e = x ∨ H e = some (.own x)) (k : ∀ b u, b ≠ e → h.get? b = some u → h'.get? b = some u) (heo : ∃ u, h'.get? e = some u)
    (new : ObjOk P w (upd H x o') h' x o') : HOk P w (upd H x o') h' := fun b u q => by
  have nown : ∀ c y, H c = some (.own y) → c ≠ x := fun c y r z => by subst z; rw [r] at mu; exact mu
  have ntup : ∀ c xs, H c = some (.tup xs) → c ≠ x := fun c xs r z => by subst z; rw [r] at mu; exact mu
  by_cases hb : b = x
  · subst hb; rw [upd_same] at q; cases q; exact new
  · rw [upd_ne hb] at q
    by_cases hbe : b = e
    · have q' : H b = some (.own x) := by
        rcases he with z | z
        · exact absurd (hbe.trans z) hb
        · rw [hbe]; exact z
      rw [q] at q'; cases q'
      obtain ⟨v, hv⟩ := heo
      exact ⟨v, by rw [hbe]; exact hv⟩
    · refine (ok b u q).stay (fun c v hc r => k c v ?_ r) (fun c r => by rw [upd_ne (nown c b r)]; exact r) fun c xs r => by rw [upd_ne (ntup c xs r)]; exact r
      rcases hc with rfl | hc
      · exact hbe
      · rintro rfl
        rcases he with z | z
        · exact nown c b hc z
        · rw [hc] at z; cases z; exact hb rfl
end

/-! ### kept unless tracked; of the frames at fs (the callers') the slots may change (an exception that passes writes there); of the records at ex (iterators) nothing is said -/
structure Un (fs ex : List Addr) (H H' : Hp) (h h' : Heap) : Prop where
  keep : ∀ b o, h.get? b = some o → H b = none → b ∉ fs → b ∉ ex → h'.get? b = some o
  slot : ∀ b o, h.get? b = some o → H b = none → b ∈ fs → b ∉ ex → ∃ sl, h'.get? b = some { o with slots := sl }
  free : ∀ b o, h.get? b = some o → H b = none → b ∉ ex → H' b = none
  there : ∀ b o, h.get? b = some o → b ∉ ex → ∃ o', h'.get? b = some o'
  tups : ∀ b xs, H b = some (.tup xs) → H' b = some (.tup xs)
  frzs : ∀ b o u, H b = some (.frz o u) → H' b = some (.frz o u)
  tbls : ∀ b ps, H b = some (.tbl ps) → ∃ more, H' b = some (.tbl (ps ++ more))
section
variable {fs fs' ex ex' : List Addr} {H H1 H2 : Hp} {h h1 h2 h' : Heap} {a x e : Addr} {o : HO}
theorem Un.any (u : Un fs ex H H1 h h1) {b : Addr} {ob : Obj} (q : h.get? b = some ob) (n : H b = none) (hx : b ∉ ex) : ∃ sl, h1.get? b = some { ob with slots := sl } := by
  by_cases hb : b ∈ fs
  · exact u.slot b ob q n hb hx
  · exact ⟨ob.slots, u.keep b ob q n hb hx⟩
theorem Un.trans (a : Un fs ex H H1 h h1) (b : Un fs ex H1 H2 h1 h2) : Un fs ex H H2 h h2 where
  keep := fun c ob q n hc hx => b.keep c ob (a.keep c ob q n hc hx) (a.free c ob q n hx) hc hx
  slot := fun c ob q n hc hx => by
    obtain ⟨sl, e1⟩ := a.slot c ob q n hc hx
    obtain ⟨sl', e2⟩ := b.slot c _ e1 (a.free c ob q n hx) hc hx
    exact ⟨sl', e2⟩
  free := fun c ob q n hx => by
    obtain ⟨o', e1⟩ := a.there c ob q hx
    exact b.free c o' e1 (a.free c ob q n hx) hx
  there := fun c ob q hx => by
    obtain ⟨o', e1⟩ := a.there c ob q hx
    exact b.there c o' e1 hx
  tups := fun c xs q => b.tups c xs (a.tups c xs q)
  frzs := fun c ob xs q => b.frzs c ob xs (a.frzs c ob xs q)
  tbls := fun c ps q => by
    obtain ⟨m1, e1⟩ := a.tbls c ps q
    obtain ⟨m2, e2⟩ := b.tbls c _ e1
    exact ⟨m1 ++ m2, by rw [e2, Array.append_assoc]⟩
theorem Un.kept (k : ∀ b u, h.get? b = some u → h'.get? b = some u) : Un fs ex H H h h' :=
  ⟨fun b ob q _ _ _ => k b ob q, fun b ob q _ _ _ => ⟨ob.slots, k b ob q⟩, fun _ _ _ n _ => n, fun b ob q _ => ⟨ob, k b ob q⟩, fun _ _ q => q, fun _ _ _ q => q, fun _ ps q => ⟨#[], by rw [q]; simp⟩⟩
theorem Un.refl : Un fs ex H H h h := Un.kept fun _ _ q => q
theorem Un.laid (k : ∀ b u, h.get? b = some u → h'.get? b = some u) (hp : h.objs.size ≤ a) (hn : H a = none) : Un fs ex H (upd H a o) h h' where
  keep := fun b u q _ _ _ => k b u q
  slot := fun b u q _ _ _ => ⟨u.slots, k b u q⟩
  free := fun b u q n _ => by rw [upd_ne (Nat.ne_of_lt (Nat.lt_of_lt_of_le (Heap.lt_size q) hp))]; exact n
  there := fun b u q _ => ⟨u, k b u q⟩
  tups := fun b xs q => by rw [upd_ne (ne_of_none q hn)]; exact q
  frzs := fun b u xs q => by rw [upd_ne (ne_of_none q hn)]; exact q
  tbls := fun b ps q => ⟨#[], by rw [upd_ne (ne_of_none q hn), q]; simp⟩
theorem Un.write (mu : Mut (H x)) (he : e = x ∨ H e = some (.own x)) (k : ∀ b u, b ≠ e → h.get? b = some u → h'.get? b = some u) (heo : ∃ u, h'.get? e = some u) : Un fs ex H (upd H x o) h h' := by
  have hx : ∀ b, H b = none → b ≠ x := fun b n z => by subst z; rw [n] at mu; exact mu
  have hb : ∀ b, H b = none → b ≠ e := fun b n z => by
    subst z
    rcases he with r | r
    · exact hx b n r
    · rw [n] at r; cases r
  have hm : ∀ b u, H b = some u → ¬ Mut (some u) → b ≠ x := fun b u q nm z => by subst z; rw [q] at mu; exact nm mu
  refine ⟨fun b u q n _ _ => k b u (hb b n) q, fun b u q n _ _ => ⟨u.slots, k b u (hb b n) q⟩, fun b u q n _ => by rw [upd_ne (hx b n)]; exact n, fun b u q _ => ?_,
    fun b xs q => by rw [upd_ne (hm b _ q fun z => z)]; exact q, fun b u xs q => by rw [upd_ne (hm b _ q fun z => z)]; exact q, fun b ps q => ⟨#[], by rw [upd_ne (hm b _ q fun z => z), q]; simp⟩⟩
  by_cases hbe : b = e
  · subst hbe; exact heo
  · exact ⟨u, k b u hbe q⟩
theorem Un.mono (u : Un fs ex H H1 h h1) (hs : ∀ b ∈ fs, b ∈ fs') (hx : ∀ b ∈ ex, b ∈ ex') : Un fs' ex' H H1 h h1 :=
  ⟨fun b ob q n hb he => u.keep b ob q n (fun z => hb (hs b z)) fun z => he (hx b z), fun _ _ q n _ he => u.any q n fun z => he (hx _ z), fun b ob q n he => u.free b ob q n fun z => he (hx b z), fun b ob q he => u.there b ob q fun z => he (hx b z), u.tups, u.frzs, u.tbls⟩
end

/-! ### the heap without what is tracked -/
def trk (h : Heap) (H : Hp) : List Addr := (List.range h.objs.size).filter fun a => (H a).isSome
def hidT (h : Heap) (H : Hp) : Heap := PySem.W.hideAll h (trk h H)
theorem hidT_size (h : Heap) (H : Hp) : (hidT h H).objs.size = h.objs.size := PySem.W.hideAll_size _ _
theorem hidT_get {h : Heap} {H : Hp} {b : Addr} {o : Obj} (e : h.get? b = some o) (n : H b = none) : (hidT h H).get? b = some o :=
  PySem.W.hideAll_get _ e fun hm => by
    have q : (H b).isSome = true := (List.mem_filter.mp hm).2
    rw [n] at q; simp at q
theorem of_hidT {h : Heap} {H : Hp} {b : Addr} {o : Obj} (e : (hidT h H).get? b = some o) : h.get? b = some o ∧ H b = none := by
  have e' : h.get? b = some o := PySem.W.of_hideAll (trk h H) e
  refine ⟨e', ?_⟩
  cases q : H b with
  | none => rfl
  | some x =>
    have hm : b ∈ trk h H := List.mem_filter.mpr ⟨List.mem_range.mpr (Heap.lt_size e'), by simp [q]⟩
    have z : (hidT h H).get? b = none := PySem.W.hideAll_none (trk h H) hm
    rw [z] at e; cases e

/-! ### OpenK's ledger, filled with every new object but one -/
def allNews (g h : Heap) (L : Addr) : List (Addr × Obj) := (List.range h.objs.size).filterMap fun a => if a = L ∨ (g.get? a).isSome = true then none else (h.get? a).map fun o => (a, o)
theorem mem_allNews {g h : Heap} {L a : Addr} {o : Obj} (h1 : a ≠ L) (h2 : g.get? a = none) (h3 : h.get? a = some o) : (a, o) ∈ allNews g h L :=
  List.mem_filterMap.mpr ⟨a, List.mem_range.mpr (Heap.lt_size h3), by simp [h1, h2, h3]⟩
theorem of_mem_allNews {g h : Heap} {L : Addr} {p : Addr × Obj} (hp : p ∈ allNews g h L) : p.1 ≠ L ∧ g.get? p.1 = none ∧ h.get? p.1 = some p.2 := by
  obtain ⟨b, _, e⟩ := List.mem_filterMap.mp hp
  split at e
  · cases e
  · rename_i hn
    cases q : h.get? b with
    | none => rw [q] at e; simp at e
    | some u =>
      rw [q] at e
      simp only [Option.map_some, Option.some.injEq] at e
      subst e
      refine ⟨fun z => hn (.inl z), ?_, q⟩
      show g.get? b = none
      cases r : g.get? b with
      | none => rfl
      | some v => exact (hn (.inr (by simp [r]))).elim
def rest (g h : Heap) (L d : Addr) : List (Addr × Obj) := (allNews g h L).filter fun p => decide (p.1 ≠ d)
theorem rest_ne {g h : Heap} {L d : Addr} : ∀ p ∈ rest g h L d, p.1 ≠ d := fun p hp => of_decide_eq_true (List.mem_filter.mp hp).2
theorem mem_rest {g h : Heap} {L d a : Addr} {o : Obj} (h1 : a ≠ L) (h2 : g.get? a = none) (h3 : h.get? a = some o) (h4 : a ≠ d) : (a, o) ∈ rest g h L d :=
  List.mem_filter.mpr ⟨mem_allNews h1 h2 h3, decide_eq_true h4⟩
theorem news_all {g h : Heap} {L : Addr} : News g L h (allNews g h L) := fun p hp => let ⟨a, b, c⟩ := of_mem_allNews hp; ⟨c, a, b⟩
theorem news_at {g h : Heap} {L d : Addr} {o : Obj} (h1 : d ≠ L) (h2 : g.get? d = none) (h3 : h.get? d = some o) : News g L h ((d, o) :: rest g h L d) := fun p hp => by
  rcases List.mem_cons.mp hp with rfl | hp
  · exact ⟨h3, h1, h2⟩
  · exact news_all p (List.mem_filter.mp hp).1
/-- behind a rule that changed d alone: all else but the frame is kept -/
theorem kept_of_news {g h h' : Heap} {L d : Addr} {m : Str → Option Value} (k : ∀ b o, g.get? b = some o → h.get? b = some o) (F : Fr g L h' m) (N : News g L h' (rest g h L d)) :
    ∀ b o, b ≠ L → b ≠ d → h.get? b = some o → h'.get? b = some o := fun b o h1 h2 e => by
  cases q : g.get? b with
  | some u =>
    have := k b u q
    rw [e] at this; cases this
    exact F.keep b _ q
  | none => exact (N (b, o) (mem_rest h1 q e h2)).1
end L2

namespace L2
open PySem PySem.Spec PyProof.Rows

/-- the module's facts, over the base: the heap at the law's entry without what is tracked there -/
structure Mod (K : PySem.W.Frag) (mg : Str → Option Value) (base : Heap) : Prop where
  kin : K.In base
  glob : base.Ns mainGlobals mg
  blt : ∃ mb, base.Ns builtinsNs mb ∧ ∀ x : Str, x ≠ "__name__" → mb x = bootBuiltins x
  nolimit : base.NoLimit

/-- the context: a def's body (or a comprehension's block) running. base: fixed through the whole law; s₀, H₀: the entry; outer: the frames whose slots others may change (a def's callers); stack: all frames that run;
   ex: iterators that were made ahead of the entry and are walked here (a comprehension's); fn: the names whose cells were made at the entry (a def: all; a comprehension's block: its own); calm: not within an except suite; pn: pins that every state bears; xe: what is wanted of an exception that leaves the code -/
structure Cx where
  prog : Program
  w : World
  K : PySem.W.Frag
  mg : Str → Option Value
  base : Heap
  A : Around
  N : List Str
  s₀ : Shared
  H₀ : Hp
  env : Env
  outer : List Env
  stack : List Env
  ex : List Addr
  fn : Str → Bool
  calm : Bool
  pn : List (Addr × Obj)
  xe : Value → Shared → Prop
/-- the callers' frames -/
def frs (l : List Env) : List Addr := l.filterMap (·.frame)
abbrev Cx.fs (X : Cx) : List Addr := frs X.outer

def Vis (sc : Scope) (x : Str) : Prop := sc.names.lookup x = some .local ∨ sc.names.lookup x = some .cell ∨ sc.names.lookup x = some .free
def Loc (sc : Scope) (x : Str) : Prop := sc.names.lookup x = some .local ∨ sc.names.lookup x = some .cell
def Look (env : Env) (h : Heap) (m : Str → Option Value) (x : Str) (u : Value) : Prop :=
  (env.kindOf x = some .local ∧ m x = some u) ∨ ((env.kindOf x = some .cell ∨ env.kindOf x = some .free) ∧ ∃ c, env.cells.lookup x = some c ∧ h.IsCell c (some u))

structure Cx.Ok (X : Cx) : Prop where
  mod : Mod X.K X.mg X.base
  kind : X.env.scope.kind = .function
  glob : X.env.globals = mainGlobals
  blt : X.env.builtins = builtinsNs
  above : X.s₀.heap.objs.size ≤ X.env.locals
  inj : ∀ x y c, X.env.cells.lookup x = some c → X.env.cells.lookup y = some c → x = y
  has : ∀ x, (X.env.kindOf x = some .cell ∨ X.env.kindOf x = some .free) → ∃ c, X.env.cells.lookup x = some c
  cab : ∀ x c, X.fn x = true → X.env.cells.lookup x = some c → X.s₀.heap.objs.size ≤ c
  hd : X.calm = true → X.A.handled = none
  frames : X.A.frames = some X.stack
  stk : X.stack = X.outer ∨ (X.stack = X.env :: X.outer ∧ X.env.frame = some X.env.locals)
  exf : ∀ b ∈ X.ex, b ≠ X.env.locals ∧ ∀ x c, X.env.cells.lookup x = some c → c ≠ b
  bs : ∀ b o, X.base.get? b = some o → X.s₀.heap.get? b = some o ∧ X.H₀ b = none
  bsz : X.base.objs.size ≤ X.s₀.heap.objs.size
  noex : ∀ b o, X.base.get? b = some o → b ∉ X.ex
  exfs : ∀ b ∈ X.ex, b ∉ X.fs
  funs : X.s₀.heap.FunFrames X.base X.outer
  frf : ∀ b ∈ X.fs, X.H₀ b = none

structure Inv (X : Cx) (pins : List (Addr × Obj)) (σ : List (Option V)) (H : Hp) (s : Shared) : Prop where
  ok : X.Ok
  os : s.os = X.s₀.os
  bare : AllBare s.gens
  base : Un X.fs X.ex X.H₀ H X.s₀.heap s.heap
  loc : ∃ m, s.heap.Ns X.env.locals m ∧ ∀ (i : Nat) (x : Str) (v : V), X.N[i]? = some x → σ[i]? = some (some v) → Vis X.env.scope x → ∃ u, RelV v u ∧ Look X.env s.heap m x u
  cell : ∀ x c, X.env.cells.lookup x = some c → ∃ v, s.heap.IsCell c v
  free : H X.env.locals = none
  freeC : ∀ x c, X.env.cells.lookup x = some c → H c = none
  pin : ∀ p ∈ X.pn ++ pins, s.heap.get? p.1 = some p.2 ∧ H p.1 = none ∧ p.1 ≠ X.env.locals ∧ p.1 ∉ X.fs ∧ ∀ v, p.2.data ≠ .cell v
  hok : HOk X.prog X.w H s.heap
  len : σ.length = X.N.length

section
variable {X : Cx} {pins : List (Addr × Obj)} {σ : List (Option V)} {H H' : Hp} {s : Shared} {h' : Heap}

theorem Cx.Ok.nofr (ok : X.Ok) {b : Addr} {o : Obj} (e : X.base.get? b = some o) : b ∉ X.fs := fun hb => by
  have := (ok.funs.mem hb).1
  rw [e] at this; cases this
theorem Inv.bs (I : Inv X pins σ H s) : ∀ b o, X.base.get? b = some o → s.heap.get? b = some o ∧ H b = none := fun b o e =>
  ⟨I.base.keep b o (I.ok.bs b o e).1 (I.ok.bs b o e).2 (I.ok.nofr e) (I.ok.noex b o e), I.base.free b o (I.ok.bs b o e).1 (I.ok.bs b o e).2 (I.ok.noex b o e)⟩
theorem Inv.bk (I : Inv X pins σ H s) : ∀ b o, X.base.get? b = some o → s.heap.get? b = some o := fun b o e => (I.bs b o e).1
theorem Inv.mod (I : Inv X pins σ H s) : Mod X.K X.mg X.base := I.ok.mod
theorem Inv.kIn (I : Inv X pins σ H s) : X.K.In s.heap := I.ok.mod.kin.keeps I.bk
theorem Inv.nolimit (I : Inv X pins σ H s) : s.heap.NoLimit := I.ok.mod.nolimit.keeps I.bk
/-- the frame over the base: for OpenK's rules (K.In X.base is I.mod.kin) -/
theorem Inv.fr (I : Inv X pins σ H s) : ∃ m, Fr X.base X.env.locals s.heap m :=
  let ⟨m, hn, _⟩ := I.loc
  ⟨m, hn, I.bk, Nat.le_trans I.ok.bsz I.ok.above⟩
theorem Inv.lt (I : Inv X pins σ H s) : X.env.locals < s.heap.objs.size := let ⟨_, hn, _⟩ := I.loc; hn.lt
theorem Inv.sz (I : Inv X pins σ H s) : X.s₀.heap.objs.size ≤ s.heap.objs.size := Nat.le_trans I.ok.above (Nat.le_of_lt I.lt)
theorem Inv.nofs (I : Inv X pins σ H s) {a : Addr} (h : s.heap.objs.size ≤ a) : a ∉ X.fs := fun hb => by
  obtain ⟨_, o, ho, _⟩ := I.ok.funs.mem hb
  exact absurd (Nat.lt_of_lt_of_le (Heap.lt_size ho) (Nat.le_trans I.sz h)) (Nat.lt_irrefl _)
theorem Inv.cne (I : Inv X pins σ H s) : ∀ x c, X.env.cells.lookup x = some c → c ≠ X.env.locals := fun x c e z => by
  obtain ⟨v, o, ho, hd⟩ := I.cell x c e
  obtain ⟨m, ⟨o', es, ep, ho', hd', _⟩, _⟩ := I.loc
  rw [z, ho'] at ho; cases ho; rw [hd'] at hd; cases hd
theorem Inv.funs (I : Inv X pins σ H s) : s.heap.FunFrames X.base X.outer := by
  have all : ∀ (l : List Env), (∀ b ∈ frs l, b ∈ X.fs) → X.s₀.heap.FunFrames X.base l → s.heap.FunFrames X.base l := by
    intro l
    induction l with
    | nil => intro _ _; trivial
    | cons env r ih =>
      intro hs hl
      obtain ⟨hk, ⟨L, o, hf, hn, ho, hd⟩, hr⟩ := hl
      have hL : L ∈ X.fs := hs L (by unfold frs; rw [List.filterMap_cons, hf]; exact List.mem_cons_self)
      obtain ⟨sl, e⟩ := I.base.slot L o ho (I.ok.frf L hL) hL fun z => I.ok.exfs L z hL
      exact ⟨hk, ⟨L, _, hf, hn, e, hd⟩, ih (fun b hb => hs b (by unfold frs; rw [List.filterMap_cons, hf]; exact List.mem_cons_of_mem _ hb)) hr⟩
  exact all X.outer (fun _ hb => hb) I.ok.funs

/-- the frames that run, for a call -/
theorem Inv.stack (I : Inv X pins σ H s) : s.heap.FunFrames X.base X.stack := by
  rcases I.ok.stk with e | ⟨e, hf⟩
  · rw [e]; exact I.funs
  · rw [e]
    obtain ⟨m, hn, _⟩ := I.loc
    refine .cons (by rw [I.ok.kind]; decide) hf hn ?_ I.funs
    exact Heap.get?_none_of_le (Nat.le_trans I.ok.bsz I.ok.above)
theorem Inv.stkSub (I : Inv X pins σ H s) : ∀ b ∈ frs X.stack, b ∈ X.env.locals :: X.fs := fun b hb => by
  rcases I.ok.stk with e | ⟨e, hf⟩
  · rw [e] at hb; exact List.mem_cons_of_mem _ hb
  · rw [e] at hb
    unfold frs at hb
    rw [List.filterMap_cons, hf] at hb
    exact hb
theorem Inv.stkFree (I : Inv X pins σ H s) : ∀ b ∈ frs X.stack, H b = none := fun b hb => by
  rcases List.mem_cons.mp (I.stkSub b hb) with e | hb
  · rw [e]; exact I.free
  · obtain ⟨_, o, ho, _⟩ := I.ok.funs.mem hb
    exact I.base.free b o ho (I.ok.frf b hb) fun z => I.ok.exfs b z hb

/-- THE STEP: the untracked objects but the frame and the records at ch are kept (the callers' frames up to slots), the frame's map is kept, the new abstract heap is held -/
theorem Inv.step {g' : Array GenState} {t' : Nat} {d' : Drawn} {ch : List Addr} (I : Inv X pins σ H s)
    (hch : ∀ b ∈ ch, (b ∈ X.ex ∨ X.s₀.heap.objs.size ≤ b) ∧ b ≠ X.env.locals ∧ (∀ x c, X.env.cells.lookup x = some c → c ≠ b) ∧ ∀ p ∈ X.pn ++ pins, p.1 ≠ b)
    (keep : ∀ b o, b ≠ X.env.locals → b ∉ X.fs → b ∉ ch → s.heap.get? b = some o → H b = none → h'.get? b = some o)
    (slot : ∀ b o, b ≠ X.env.locals → b ∈ X.fs → b ∉ ch → s.heap.get? b = some o → H b = none → ∃ sl, h'.get? b = some { o with slots := sl }) (free : ∀ b o, b ∉ ch → s.heap.get? b = some o → H b = none → H' b = none)
    (there : ∀ b o, b ∉ ch → s.heap.get? b = some o → ∃ o', h'.get? b = some o')
    (tups : ∀ b xs, H b = some (.tup xs) → H' b = some (.tup xs)) (frzs : ∀ b o u, H b = some (.frz o u) → H' b = some (.frz o u)) (tbls : ∀ b ps, H b = some (.tbl ps) → ∃ more, H' b = some (.tbl (ps ++ more)))
    (ns : ∀ m, s.heap.Ns X.env.locals m → h'.Ns X.env.locals m) (hok : HOk X.prog X.w H' h') (hg : AllBare g') :
    Inv X pins σ H' { s with heap := h', gens := g', drawn := d', toks := t' } := by
  have neL : ∀ b o, X.s₀.heap.get? b = some o → b ≠ X.env.locals := fun b o e => Nat.ne_of_lt (Nat.lt_of_lt_of_le (Heap.lt_size e) I.ok.above)
  have neC : ∀ b o, X.s₀.heap.get? b = some o → b ∉ X.ex → b ∉ ch := fun b o e hx hb => by
    rcases (hch b hb).1 with z | z
    · exact hx z
    · exact absurd (Nat.lt_of_lt_of_le (Heap.lt_size e) z) (Nat.lt_irrefl _)
  have cellK : ∀ x c, X.env.cells.lookup x = some c → ∀ v, s.heap.IsCell c v → h'.IsCell c v := fun x c e v ⟨o, ho, hd⟩ => by
    have nch : c ∉ ch := fun z => (hch c z).2.2.1 x c e rfl
    by_cases hc : c ∈ X.fs
    · obtain ⟨sl, q⟩ := slot c o (I.cne x c e) hc nch ho (I.freeC x c e)
      exact ⟨_, q, hd⟩
    · exact ⟨o, keep c o (I.cne x c e) hc nch ho (I.freeC x c e), hd⟩
  refine ⟨I.ok, I.os, hg, ⟨fun b o e n hb hx => ?_, fun b o e n hb hx => ?_, fun b o e n hx => ?_, fun b o e hx => ?_, fun b xs e => tups b xs (I.base.tups b xs e), fun b o xs e => frzs b o xs (I.base.frzs b o xs e), fun b ps e => ?_⟩, ?_, fun x c e => ?_, ?_, fun x c e => ?_, fun p hp => ?_, hok, I.len⟩
  · exact keep b o (neL b o e) hb (neC b o e hx) (I.base.keep b o e n hb hx) (I.base.free b o e n hx)
  · obtain ⟨sl, e1⟩ := I.base.slot b o e n hb hx
    obtain ⟨sl', e2⟩ := slot b _ (neL b o e) hb (neC b o e hx) e1 (I.base.free b o e n hx)
    exact ⟨sl', e2⟩
  · obtain ⟨o', e1⟩ := I.base.there b o e hx
    exact free b o' (neC b o e hx) e1 (I.base.free b o e n hx)
  · obtain ⟨o', e1⟩ := I.base.there b o e hx
    exact there b o' (neC b o e hx) e1
  · obtain ⟨m1, e1⟩ := I.base.tbls b ps e
    obtain ⟨m2, e2⟩ := tbls b _ e1
    exact ⟨m1 ++ m2, by rw [e2, Array.append_assoc]⟩
  · obtain ⟨m, hn, hl⟩ := I.loc
    refine ⟨m, ns m hn, fun i x v e1 e2 e3 => ?_⟩
    obtain ⟨u, r, l⟩ := hl i x v e1 e2 e3
    refine ⟨u, r, ?_⟩
    rcases l with l | ⟨k, c, e, z⟩
    · exact .inl l
    · exact .inr ⟨k, c, e, cellK x c e _ z⟩
  · obtain ⟨v, z⟩ := I.cell x c e
    exact ⟨v, cellK x c e v z⟩
  · obtain ⟨m, ⟨o, _, _, ho, _⟩, _⟩ := I.loc
    exact free _ o (fun z => (hch _ z).2.1 rfl) ho I.free
  · obtain ⟨v, o, ho, hd⟩ := I.cell x c e
    exact free c o (fun z => (hch c z).2.2.1 x c e rfl) ho (I.freeC x c e)
  · obtain ⟨e, n, ne, nf, d⟩ := I.pin p hp
    have nch : p.1 ∉ ch := fun z => (hch p.1 z).2.2.2 p hp rfl
    exact ⟨keep p.1 p.2 ne nf nch e n, free p.1 p.2 nch e n, ne, nf, d⟩
/-- .. where the frame's own object is kept too -/
theorem Inv.un {t' : Nat} (I : Inv X pins σ H s) (u : Un X.fs [] H H' s.heap h') (hok : HOk X.prog X.w H' h') : Inv X pins σ H' { s with heap := h', toks := t' } := by
  obtain ⟨m, ⟨o, es, ep, ho, r⟩, _⟩ := id I.loc
  obtain ⟨sl, hL⟩ := u.any ho I.free (by simp)
  exact I.step (g' := s.gens) (d' := s.drawn) (ch := []) (fun _ z => nomatch z) (fun b o _ hb _ e n => u.keep b o e n hb (by simp)) (fun b o _ hb _ e n => u.slot b o e n hb (by simp)) (fun b o _ e n => u.free b o e n (by simp)) (fun b o _ e => u.there b o e (by simp)) u.tups u.frzs u.tbls (fun m' hm => by
    obtain ⟨o', es', ep', ho', r'⟩ := hm
    rw [ho] at ho'; cases ho'
    exact ⟨_, es', ep', hL, r'⟩) hok I.bare
/-- behind a call (or a comprehension's block): the slots of this frame may have changed too, the records at ch may have turned -/
theorem Inv.call {g' : Array GenState} {t' : Nat} {d' : Drawn} {ch : List Addr} (I : Inv X pins σ H s) (u : Un (frs X.stack) ch H H' s.heap h') (hok : HOk X.prog X.w H' h') (hg : AllBare g')
    (hch : ∀ b ∈ ch, (b ∈ X.ex ∨ X.s₀.heap.objs.size ≤ b) ∧ b ≠ X.env.locals ∧ (∀ x c, X.env.cells.lookup x = some c → c ≠ b) ∧ ∀ p ∈ X.pn ++ pins, p.1 ≠ b) :
    Inv X pins σ H' { s with heap := h', gens := g', drawn := d', toks := t' } := by
  obtain ⟨m, ⟨o, es, ep, ho, r⟩, _⟩ := id I.loc
  obtain ⟨sl, hL⟩ := u.any ho I.free fun z => (hch _ z).2.1 rfl
  exact I.step (ch := ch) hch (fun b o hL hb hc e n => u.keep b o e n (fun z => (List.mem_cons.mp (I.stkSub b z)).elim hL hb) hc) (fun b o _ _ hc e n => u.any e n hc) (fun b o hc e n => u.free b o e n hc) (fun b o hc e => u.there b o e hc) u.tups u.frzs u.tbls (fun m' hm => by
    obtain ⟨o', es', ep', ho', r'⟩ := hm
    rw [ho] at ho'; cases ho'
    exact ⟨_, es', ep', hL, r'⟩) hok hg
/-- an untracked record of ours (an iterator) has turned -/
theorem Inv.turned {t' : Nat} {it : Addr} (I : Inv X pins σ H s) (k : ∀ b o, b ≠ it → s.heap.get? b = some o → h'.get? b = some o) (hn : H it = none) (hL : it ≠ X.env.locals)
    (h1 : it ∈ X.ex ∨ X.s₀.heap.objs.size ≤ it) (h2 : ∀ x c, X.env.cells.lookup x = some c → c ≠ it) (h3 : ∀ p ∈ X.pn ++ pins, p.1 ≠ it) : Inv X pins σ H { s with heap := h', toks := t' } := by
  have nit : ∀ b u, H b = some u → b ≠ it := fun b u e z => by rw [z, hn] at e; cases e
  refine I.step (g' := s.gens) (d' := s.drawn) (ch := [it]) (fun b hb => ?_) (fun b o _ _ hc e _ => k b o (fun z => hc (by simp [z])) e) (fun b o _ _ hc e _ => ⟨o.slots, k b o (fun z => hc (by simp [z])) e⟩) (fun _ _ _ _ n => n)
    (fun b o hc e => ⟨o, k b o (fun z => hc (by simp [z])) e⟩) (fun _ _ e => e) (fun _ _ _ e => e) (fun b ps e => ⟨#[], by rw [e]; simp⟩) (fun m hm => ?_) (fun b u e => ?_) I.bare
  · have e : b = it := by simpa using hb
    subst e
    exact ⟨h1, hL, h2, h3⟩
  · obtain ⟨o, es, ep, ho, r⟩ := hm
    exact ⟨o, es, ep, k _ o (Ne.symm hL) ho, r⟩
  · refine (I.hok b u e).stay (fun c v hc q => k c v ?_ q) (fun _ q => q) fun _ _ q => q
    rcases hc with z | z
    · rw [z]; exact nit b u e
    · exact nit c _ z
theorem Inv.tok (I : Inv X pins σ H s) (t : Nat) : Inv X pins σ H { s with toks := t } := I.un (h' := s.heap) (t' := t) Un.refl I.hok
/-- all objects kept -/
theorem Inv.kept {t' : Nat} (I : Inv X pins σ H s) (k : ∀ b u, s.heap.get? b = some u → h'.get? b = some u) : Inv X pins σ H { s with heap := h', toks := t' } := I.un (Un.kept k) (I.hok.kept k)
/-- a new object laid and tracked -/
theorem Inv.laid {a : Addr} {o : HO} {t' : Nat} (I : Inv X pins σ H s) (k : ∀ b u, s.heap.get? b = some u → h'.get? b = some u) (hp : s.heap.objs.size ≤ a) (new : ObjOk X.prog X.w (upd H a o) h' a o) :
    Inv X pins σ (upd H a o) { s with heap := h', toks := t' } := I.un (Un.laid k hp (I.hok.fresh hp)) (I.hok.laid k hp new)
/-- an object written -/
theorem Inv.write {x e : Addr} {o : HO} {t' : Nat} (I : Inv X pins σ H s) (mu : Mut (H x)) (he : e = x ∨ H e = some (.own x)) (k : ∀ b u, b ≠ e → s.heap.get? b = some u → h'.get? b = some u) (heo : ∃ u, h'.get? e = some u)
    (new : ObjOk X.prog X.w (upd H x o) h' x o) : Inv X pins σ (upd H x o) { s with heap := h', toks := t' } := I.un (Un.write mu he k heo) (I.hok.write mu he k heo new)
/-- forgetting slots, pins -/
theorem Inv.weak {σ' : List (Option V)} (I : Inv X pins σ H s) (hl : σ'.length = σ.length) (w : ∀ (i : Nat) v, σ'[i]? = some (some v) → σ[i]? = some (some v)) : Inv X pins σ' H s :=
  ⟨I.ok, I.os, I.bare, I.base, let ⟨m, hn, hl'⟩ := I.loc; ⟨m, hn, fun i x v e1 e2 e3 => hl' i x v e1 (w i v e2) e3⟩, I.cell, I.free, I.freeC, I.pin, I.hok, hl.trans I.len⟩
theorem Inv.pins_of {pins' : List (Addr × Obj)} (I : Inv X pins σ H s) (h : ∀ p ∈ pins', s.heap.get? p.1 = some p.2 ∧ H p.1 = none ∧ p.1 ≠ X.env.locals ∧ p.1 ∉ X.fs ∧ ∀ v, p.2.data ≠ .cell v) : Inv X pins' σ H s :=
  ⟨I.ok, I.os, I.bare, I.base, I.loc, I.cell, I.free, I.freeC, fun p hp => (List.mem_append.mp hp).elim (fun z => I.pin p (List.mem_append_left _ z)) (h p), I.hok, I.len⟩

theorem nodup_ix {N : List Str} (hN : N.Nodup) {i j : Nat} {x : Str} (a : N[i]? = some x) (b : N[j]? = some x) : i = j := by
  obtain ⟨h1, e1⟩ := List.getElem?_eq_some_iff.mp a
  obtain ⟨h2, e2⟩ := List.getElem?_eq_some_iff.mp b
  exact (List.getElem_inj hN).mp (e1.trans e2.symm)

/-- a name is stored; what changed -/
theorem store_ok2 {M : Model} {A : Around} {E : Value → Shared → Prop} {i : Nat} {x : Str} {v : V} {u : Value} {Q : Unit → Shared → Prop} (I : Inv X pins σ H s) (hN : X.N.Nodup) (hi : X.N[i]? = some x) (hx : Loc X.env.scope x) (r : RelV v u)
    (h : ∀ s', Inv X pins (σ.set i (some v)) H s' → (∃ a, Heap.SameBut a s.heap s'.heap ∧ (a = X.env.locals ∨ X.env.cells.lookup x = some a)) → Q () s') (hf : X.fn x = true ∨ X.env.scope.names.lookup x = some .local := by first | exact .inl rfl | exact .inr rfl | assumption) : wpAny M A (storeName X.env x u) Q E s := by
  obtain ⟨m, hn, hl⟩ := id I.loc
  have hcls : (X.env.scope.kind == .class || (X.env.scope.kind == .module && X.env.locals != X.env.globals)) = false := by rw [I.ok.kind]; rfl
  have hiσ : i < σ.length := by rw [I.len]; exact (List.getElem?_eq_some_iff.mp hi).1
  have cne := I.cne
  have tracked : ∀ {a : Addr} {h' : Heap}, (∃ o, s.heap.get? a = some o ∧ H a = none) → Heap.SameBut a s.heap h' → HOk X.prog X.w H h' := fun {a h'} ha hs b ob e => by
    obtain ⟨_, _, hfree⟩ := ha
    refine (I.hok b ob e).stay (fun c w' hc q => (hs.2 c ?_).trans q) (fun _ q => q) fun _ _ q => q
    rintro rfl
    rcases hc with rfl | hc
    · rw [hfree] at e; cases e
    · rw [hfree] at hc; cases hc
  rcases hx with hk | hk
  · refine wpAny_storeName_local hk hn (fun h' hn' hs => ?_) hcls
    obtain ⟨oL, _, _, hoL, _⟩ := id hn
    refine h _ ⟨I.ok, I.os, I.bare, ⟨fun b o e n hb hx => ?_, fun b o e n hb hx => ?_, I.base.free, fun b o e hx => ?_, I.base.tups, I.base.frzs, I.base.tbls⟩, ⟨_, hn', fun j y v' e1 e2 e3 => ?_⟩, fun y c e => ?_, I.free, I.freeC, fun p hp => ?_, tracked ⟨oL, hoL, I.free⟩ hs, by simpa using I.len⟩ ⟨_, hs, .inl rfl⟩
    · exact (hs.2 b (Nat.ne_of_lt (Nat.lt_of_lt_of_le (Heap.lt_size e) I.ok.above))).trans (I.base.keep b o e n hb hx)
    · obtain ⟨sl, e1⟩ := I.base.slot b o e n hb hx
      exact ⟨sl, (hs.2 b (Nat.ne_of_lt (Nat.lt_of_lt_of_le (Heap.lt_size e) I.ok.above))).trans e1⟩
    · obtain ⟨o', e1⟩ := I.base.there b o e hx
      exact ⟨o', (hs.2 b (Nat.ne_of_lt (Nat.lt_of_lt_of_le (Heap.lt_size e) I.ok.above))).trans e1⟩
    · by_cases hj : j = i
      · subst hj
        rw [hi] at e1; cases e1
        rw [List.getElem?_set_self hiσ] at e2
        cases e2
        exact ⟨u, r, .inl ⟨hk, by simp⟩⟩
      · rw [List.getElem?_set_ne (Ne.symm hj)] at e2
        obtain ⟨u', r', q⟩ := hl j y v' e1 e2 e3
        refine ⟨u', r', ?_⟩
        rcases q with ⟨k, e⟩ | ⟨k, c, e, z⟩
        · refine .inl ⟨k, ?_⟩
          have : y ≠ x := fun e => hj (nodup_ix hN e1 (e ▸ hi))
          simp [this, e]
        · exact .inr ⟨k, c, e, z.sameBut hs (cne y c e)⟩
    · obtain ⟨w', z⟩ := I.cell y c e
      exact ⟨w', z.sameBut hs (cne y c e)⟩
    · obtain ⟨e, n, ne, nf, d⟩ := I.pin p hp
      exact ⟨(hs.2 p.1 ne).trans e, n, ne, nf, d⟩
  · have hfn : X.fn x = true := by
      rcases hf with z | z
      · exact z
      · rw [z] at hk; cases hk
    obtain ⟨c, hc⟩ := I.ok.has x (.inl hk)
    obtain ⟨w', z⟩ := I.cell x c hc
    refine wpAny_storeName_cell I.ok.kind hk hc z (fun h' hc' hs => ?_)
    obtain ⟨oc, hoc, hocd⟩ := id z
    refine h { s with heap := h' } ⟨I.ok, I.os, I.bare, ⟨fun b o e n hb hx => ?_, fun b o e n hb hx => ?_, I.base.free, fun b o e hx => ?_, I.base.tups, I.base.frzs, I.base.tbls⟩, ⟨m, hn.sameBut hs (Ne.symm (cne x c hc)), fun j y v' e1 e2 e3 => ?_⟩, fun y c' e => ?_, I.free, I.freeC, fun p hp => ?_, tracked ⟨oc, hoc, I.freeC x c hc⟩ hs, by simpa using I.len⟩ ⟨c, hs, .inr hc⟩
    · exact (hs.2 b (Nat.ne_of_lt (Nat.lt_of_lt_of_le (Heap.lt_size e) (I.ok.cab x c hfn hc)))).trans (I.base.keep b o e n hb hx)
    · obtain ⟨sl, e1⟩ := I.base.slot b o e n hb hx
      exact ⟨sl, (hs.2 b (Nat.ne_of_lt (Nat.lt_of_lt_of_le (Heap.lt_size e) (I.ok.cab x c hfn hc)))).trans e1⟩
    · obtain ⟨o', e1⟩ := I.base.there b o e hx
      exact ⟨o', (hs.2 b (Nat.ne_of_lt (Nat.lt_of_lt_of_le (Heap.lt_size e) (I.ok.cab x c hfn hc)))).trans e1⟩
    · by_cases hj : j = i
      · subst hj
        rw [hi] at e1; cases e1
        rw [List.getElem?_set_self hiσ] at e2
        cases e2
        exact ⟨u, r, .inr ⟨.inl hk, c, hc, hc'⟩⟩
      · rw [List.getElem?_set_ne (Ne.symm hj)] at e2
        obtain ⟨u', r', q⟩ := hl j y v' e1 e2 e3
        refine ⟨u', r', ?_⟩
        rcases q with q | ⟨k, c', e, z'⟩
        · exact .inl q
        · refine .inr ⟨k, c', e, z'.sameBut hs ?_⟩
          rintro rfl
          exact hj (nodup_ix hN e1 (I.ok.inj _ _ _ e hc ▸ hi))
    · by_cases hcc : c' = c
      · subst hcc; exact ⟨_, hc'⟩
      · obtain ⟨w2, z2⟩ := I.cell y c' e
        exact ⟨w2, z2.sameBut hs hcc⟩
    · obtain ⟨e, n, ne, nf, d⟩ := I.pin p hp
      refine ⟨(hs.2 p.1 ?_).trans e, n, ne, nf, d⟩
      intro q
      rw [q, hoc] at e
      have q' : oc = p.2 := Option.some.inj e
      exact d w' (by rw [← q']; exact hocd)
theorem store_ok {M : Model} {A : Around} {E : Value → Shared → Prop} {i : Nat} {x : Str} {v : V} {u : Value} {Q : Unit → Shared → Prop} (I : Inv X pins σ H s) (hN : X.N.Nodup) (hi : X.N[i]? = some x) (hx : Loc X.env.scope x) (r : RelV v u)
    (h : ∀ s', Inv X pins (σ.set i (some v)) H s' → Q () s') (hf : X.fn x = true ∨ X.env.scope.names.lookup x = some .local := by first | exact .inl rfl | exact .inr rfl | assumption) : wpAny M A (storeName X.env x u) Q E s :=
  store_ok2 I hN hi hx r (fun s' I' _ => h s' I') hf
/-- behind a call or a block, the state as it is -/
theorem Inv.call' {s' : Shared} {ch : List Addr} (I : Inv X pins σ H s) (ho : s'.os = s.os) (u : Un (frs X.stack) ch H H' s.heap s'.heap) (hok : HOk X.prog X.w H' s'.heap) (hg : AllBare s'.gens)
    (hch : ∀ b ∈ ch, (b ∈ X.ex ∨ X.s₀.heap.objs.size ≤ b) ∧ b ≠ X.env.locals ∧ (∀ x c, X.env.cells.lookup x = some c → c ≠ b) ∧ ∀ p ∈ X.pn ++ pins, p.1 ≠ b) : Inv X pins σ H' s' := by
  obtain ⟨h', g', d', t', o'⟩ := s'
  have e : o' = s.os := ho
  subst e
  exact I.call (g' := g') (t' := t') (d' := d') u hok hg hch
end

/-! ### the judgements -/
/-- an exception: its class, its own dict's address (where it has one), the abstract heap behind it -/
abbrev XK := Value → Option Addr → Hp → Prop
abbrev St := List (Option V)
abbrev VK := V → Hp → Prop
/-- an expression's reading; a test's; an argument list's -/
abbrev TE := St → Hp → VK → Prop
abbrev TT := St → Hp → (Bool → Hp → Prop) → Prop
abbrev TA := St → Hp → (List V → Hp → Prop) → Prop
/-- what is wanted behind a statement -/
structure Ends where
  nx : St → Hp → Prop
  rt : VK
  bk : St → Hp → Prop := fun _ _ => False
  ct : St → Hp → Prop := fun _ _ => False
abbrev TS := Ends → St → Hp → Prop

def EP (X : Cx) (pins : List (Addr × Obj)) (σ : St) (Q : VK) (u : Value) (s' : Shared) : Prop := ∃ v H', Inv X pins σ H' s' ∧ RelV v u ∧ Q v H'
def TP (X : Cx) (pins : List (Addr × Obj)) (σ : St) (Q : Bool → Hp → Prop) (b : Bool) (s' : Shared) : Prop := ∃ H', Inv X pins σ H' s' ∧ Q b H'
def AP (X : Cx) (pins : List (Addr × Obj)) (σ : St) (Q : List V → Hp → Prop) (us : List Value) (s' : Shared) : Prop := ∃ vs H', Inv X pins σ H' s' ∧ Vals vs us ∧ Q vs H'
def SP (X : Cx) (pins : List (Addr × Obj)) (D : Ends) (f : Flow) (s' : Shared) : Prop :=
  match f with
  | .next => ∃ σ' H', Inv X pins σ' H' s' ∧ D.nx σ' H'
  | .brk => ∃ σ' H', Inv X pins σ' H' s' ∧ D.bk σ' H'
  | .cont => ∃ σ' H', Inv X pins σ' H' s' ∧ D.ct σ' H'
  | .ret u => ∃ v σ' H', Inv X pins σ' H' s' ∧ RelV v u ∧ D.rt v H'

def PE (X : Cx) (e : Expr) (t : TE) : Prop :=
  ∀ (pins : List (Addr × Obj)) (s : Shared) (σ : St) (H : Hp) (Q : VK), Inv X pins σ H s → t σ H Q → wpAny (model X.prog X.w) X.A (eval e X.env) (EP X pins σ Q) X.xe s
def PT (X : Cx) (e : Expr) (t : TT) : Prop :=
  ∀ (pins : List (Addr × Obj)) (s : Shared) (σ : St) (H : Hp) (Q : Bool → Hp → Prop), Inv X pins σ H s → t σ H Q → wpAny (model X.prog X.w) X.A (isTrue e X.env (eval e X.env)) (TP X pins σ Q) X.xe s
/-- a test whatever its 'whole' is (and, or) -/
def PW (X : Cx) (e : Expr) (t : TT) : Prop :=
  ∀ (whole : Sem Value) (pins : List (Addr × Obj)) (s : Shared) (σ : St) (H : Hp) (Q : Bool → Hp → Prop), Inv X pins σ H s → t σ H Q → wpAny (model X.prog X.w) X.A (isTrue e X.env whole) (TP X pins σ Q) X.xe s
theorem PW.pt {X : Cx} {e : Expr} {t : TT} (h : PW X e t) : PT X e t := h _
/-- an argument list (no star), from the left -/
def PA (X : Cx) (es : List Expr) (t : TA) : Prop :=
  ∀ (pos : Pos) (pins : List (Addr × Obj)) (s : Shared) (σ : St) (H : Hp) (Q : List V → Hp → Prop), Inv X pins σ H s → t σ H Q → wpAny (model X.prog X.w) X.A (spliced (backTo pos (starEach es X.env))) (AP X pins σ Q) X.xe s
def PS (X : Cx) (st : Stmt) (t : TS) : Prop :=
  ∀ (pins : List (Addr × Obj)) (s : Shared) (σ : St) (H : Hp) (D : Ends), Inv X pins σ H s → t D σ H → wpAny (model X.prog X.w) X.A (exec st X.env) (SP X pins D) X.xe s
def PSs (X : Cx) (st : List Stmt) (t : TS) : Prop :=
  ∀ (pins : List (Addr × Obj)) (s : Shared) (σ : St) (H : Hp) (D : Ends), Inv X pins σ H s → t D σ H → wpAny (model X.prog X.w) X.A (execs st X.env) (SP X pins D) X.xe s
/-- weaken the end -/
theorem thn {α : Type} {t : Sem α} {Q Q' : α → Shared → Prop} {M : Model} {A : Around} {E : Value → Shared → Prop} {s : Shared} (h : wpAny M A t Q E s) (hQ : ∀ a s, Q a s → Q' a s) : wpAny M A t Q' E s := wpAny_mono h hQ fun _ _ x => x
end L2

namespace L2
open PySem PySem.Spec PyProof.Rows
section
variable {X : Cx}

/-- two expressions in a row -/
theorem bin {a b : Expr} {ta tb : TE} (ha : PE X a ta) (hb : PE X b tb) {pins : List (Addr × Obj)} {s : Shared} {σ : St} {H : Hp} {R : V → V → Hp → Prop} (I : Inv X pins σ H s) (h : ta σ H fun x H1 => tb σ H1 fun y H2 => R x y H2)
    {α : Type} {Q : α → Shared → Prop} {f : Value → Value → Sem α}
    (hf : ∀ v u s2 x y H2, Inv X pins σ H2 s2 → RelV x v → RelV y u → R x y H2 → wpAny (model X.prog X.w) X.A (f v u) Q X.xe s2) :
    wpAny (model X.prog X.w) X.A (eval a X.env) (fun v s₁ => wpAny (model X.prog X.w) X.A (eval b X.env) (fun u s₂ => wpAny (model X.prog X.w) X.A (f v u) Q X.xe s₂) X.xe s₁) X.xe s := by
  refine thn (ha pins s σ H _ I h) fun v s1 ⟨x, H1, I1, r1, q1⟩ => ?_
  refine thn (hb pins s1 σ H1 _ I1 q1) fun u s2 ⟨y, H2, I2, r2, q2⟩ => ?_
  exact hf v u s2 x y H2 I2 r1 r2 q2

/-! ### names and constants -/
def tVar (i : Nat) : TE := fun σ H Q => ∃ v, σ[i]? = some (some v) ∧ Q v H
def tC (v : V) : TE := fun _ H Q => Q v H
theorem pe_var {i : Nat} {x : Str} {pos : Pos} (hN : X.N[i]? = some x) (hv : Vis X.env.scope x) (hd : (x == ("__debug__" : Str)) = false := by decide) (hcd : (x == ("__classdict__" : Str)) = false := by decide) : PE X (.Name x pos) (tVar i) := by
  intro pins s σ H Q I h
  obtain ⟨v, e, h⟩ := h
  obtain ⟨m, hn, hl⟩ := I.loc
  obtain ⟨u, r, l⟩ := hl i x v hN e hv
  have fin : EP X pins σ Q u s := ⟨v, H, I, r, h⟩
  rcases l with ⟨hk, hm⟩ | ⟨hk, c, hc, hcell⟩
  · exact wpAny_Name (wpAny_loadName_local I.ok.kind hk hn hm fin) hd
  · rcases hk with hk | hk
    · exact wpAny_Name (wpAny_loadName_cell I.ok.kind hk hc hcell fin) hd
    · exact wpAny_Name (wpAny_loadName_free I.ok.kind hk hc hcell fin hcd) hd
theorem pe_int {i j pos} : PE X (.Constant (.int i) j pos) (tC (.int i)) := fun _ _ _ H _ I h => wpAny_Constant_int ⟨.int i, H, I.tok _, ⟨_, rfl⟩, h⟩
theorem pe_bl {b j pos} : PE X (.Constant (.bool b) j pos) (tC (.bl b)) := fun _ _ _ H _ I h => Constant_bool ⟨.bl b, H, I, rfl, h⟩
theorem pe_non {j pos} : PE X (.Constant .none j pos) (tC .non) := fun _ _ _ H _ I h => Constant_none ⟨.non, H, I, rfl, h⟩
theorem pe_str {x j pos} : PE X (.Constant (.str x) j pos) (tC (.str x)) := fun _ _ _ H _ I h => Calls.Constant_str ⟨.str x, H, I.tok _, ⟨_, rfl⟩, h⟩

/-- a global name of the def -/
def Gl (X : Cx) (x : Str) : Prop := X.env.kindOf x = some .globalImplicit
theorem ld_glob {E : Value → Shared → Prop} {pins : List (Addr × Obj)} {s : Shared} {σ : St} {H : Hp} {x : Str} {u : Value} {pos : Pos} {Q : Value → Shared → Prop} (I : Inv X pins σ H s) (hg : Gl X x) (hm : X.mg x = some u) (h : Q u s)
    (hd : (x == ("__debug__" : Str)) = false := by decide) : wpAny (model X.prog X.w) X.A (eval (.Name x pos) X.env) Q E s :=
  Calls.Name_function_global I.ok.kind hg (Calls.loadGlobal_global (by rw [I.ok.glob]; exact I.mod.glob.keeps I.bk) hm h) hd
theorem ld_blt {E : Value → Shared → Prop} {pins : List (Addr × Obj)} {s : Shared} {σ : St} {H : Hp} {x : Str} {u : Value} {pos : Pos} {Q : Value → Shared → Prop} (I : Inv X pins σ H s) (hg : Gl X x) (hm : X.mg x = none) (hv : bootBuiltins x = some u) (h : Q u s)
    (hn : x ≠ "__name__" := by decide) (hd : (x == ("__debug__" : Str)) = false := by decide) : wpAny (model X.prog X.w) X.A (eval (.Name x pos) X.env) Q E s := by
  obtain ⟨mb, h1, h2⟩ := I.mod.blt
  exact Calls.Name_function_global I.ok.kind hg (Calls.loadGlobal_builtin (by rw [I.ok.glob]; exact I.mod.glob.keeps I.bk) hm (by rw [I.ok.blt]; exact h1.keeps I.bk) ((h2 x hn).trans hv) h) hd
/-- a module's constant, a class, a function, as a value -/
theorem pe_glob {x : Str} {v : V} {u : Value} {pos : Pos} (hg : Gl X x) (hm : X.mg x = some u) (r : RelV v u) (hd : (x == ("__debug__" : Str)) = false := by decide) : PE X (.Name x pos) (tC v) :=
  fun _ _ _ H _ I h => ld_glob I hg hm ⟨v, H, I, r, h⟩ hd
theorem pe_bltn {x : Str} {v : V} {u : Value} {pos : Pos} (hg : Gl X x) (hm : X.mg x = none) (hv : bootBuiltins x = some u) (r : RelV v u) (hn : x ≠ "__name__" := by decide) (hd : (x == ("__debug__" : Str)) = false := by decide) : PE X (.Name x pos) (tC v) :=
  fun _ _ _ H _ I h => ld_blt I hg hm hv ⟨v, H, I, r, h⟩ hn hd

/-! ### arithmetic -/
/-- two ints -/
def t2I (ta tb : TE) (k : Int → Int → Hp → Prop) : St → Hp → Prop := fun σ H => ta σ H fun x H1 => tb σ H1 fun y H2 => ∃ i j, x = .int i ∧ y = .int j ∧ k i j H2
def tAdd (ta tb : TE) : TE := fun σ H Q => t2I ta tb (fun i j H2 => Q (.int (i + j)) H2) σ H
def tSub (ta tb : TE) : TE := fun σ H Q => t2I ta tb (fun i j H2 => Q (.int (i - j)) H2) σ H
/-- the left factor below 2^64 -/
def tMul (ta tb : TE) : TE := fun σ H Q => t2I ta tb (fun i j H2 => (-(2 ^ 64) < i ∧ i < 2 ^ 64) ∧ Q (.int (i * j)) H2) σ H
variable {a b : Expr} {ta tb : TE} {pos : Pos}
theorem pe_add (ha : PE X a ta) (hb : PE X b tb) : PE X (.BinOp a .Add b pos) (tAdd ta tb) := by
  intro pins s σ H Q I h
  refine wpAny_BinOp (bin ha hb I h fun v u s2 x y H2 I2 rx ry q => ?_)
  obtain ⟨i, j, rfl, rfl, q⟩ := q
  obtain ⟨t, rfl⟩ := rx
  obtain ⟨t', rfl⟩ := ry
  exact add_int ⟨.int _, H2, I2.tok _, ⟨_, rfl⟩, q⟩
theorem pe_sub (ha : PE X a ta) (hb : PE X b tb) : PE X (.BinOp a .Sub b pos) (tSub ta tb) := by
  intro pins s σ H Q I h
  refine wpAny_BinOp (bin ha hb I h fun v u s2 x y H2 I2 rx ry q => ?_)
  obtain ⟨i, j, rfl, rfl, q⟩ := q
  obtain ⟨t, rfl⟩ := rx
  obtain ⟨t', rfl⟩ := ry
  exact sub_int ⟨.int _, H2, I2.tok _, ⟨_, rfl⟩, q⟩
theorem pe_mul (ha : PE X a ta) (hb : PE X b tb) : PE X (.BinOp a .Mult b pos) (tMul ta tb) := by
  intro pins s σ H Q I h
  refine wpAny_BinOp (bin ha hb I h fun v u s2 x y H2 I2 rx ry q => ?_)
  obtain ⟨i, j, rfl, rfl, ⟨q1, q2⟩, q⟩ := q
  obtain ⟨t, rfl⟩ := rx
  obtain ⟨t', rfl⟩ := ry
  exact mul_int ⟨.int _, H2, I2.tok _, ⟨_, rfl⟩, q⟩ (.of_left (intBits_le_64 q1 q2))

/-! ### comparisons -/
def PC (X : Cx) (op : CmpOp) (a b : Expr) (t : TE) : Prop :=
  ∀ (pins : List (Addr × Obj)) (s : Shared) (σ : St) (H : Hp) (Q : VK), Inv X pins σ H s → t σ H Q →
    wpAny (model X.prog X.w) X.A (eval a X.env) (fun v s₁ => wpAny (model X.prog X.w) X.A (eval b X.env) (fun u s₂ => wpAny (model X.prog X.w) X.A (compareOp op v u) (EP X pins σ Q) X.xe s₂) X.xe s₁) X.xe s
theorem nobehind (b : Expr) {op : CmpOp} (h : op ≠ .In) (h2 : op ≠ .NotIn) : behindInMarks op b = false := by
  have e1 : (op == CmpOp.In) = false := by cases op <;> first | rfl | exact absurd rfl h
  have e2 : (op == CmpOp.NotIn) = false := by cases op <;> first | rfl | exact absurd rfl h2
  cases b <;> simp [behindInMarks, e1, e2]
def tCmp (p : Int → Int → Bool) (ta tb : TE) : TE := fun σ H Q => t2I ta tb (fun i j H2 => Q (.bl (p i j)) H2) σ H
abbrev tLt : TE → TE → TE := tCmp fun i j => decide (i < j)
abbrev tLe : TE → TE → TE := tCmp fun i j => decide (i ≤ j)
abbrev tGt : TE → TE → TE := tCmp fun i j => decide (j < i)
abbrev tGe : TE → TE → TE := tCmp fun i j => decide (j ≤ i)
abbrev tEqI : TE → TE → TE := tCmp fun i j => decide (i = j)
abbrev tNeI : TE → TE → TE := tCmp fun i j => !decide (i = j)
/-- a comparison of two ints, by its rule -/
theorem pc_int {op : CmpOp} {p : Int → Int → Bool} (ha : PE X a ta) (hb : PE X b tb)
    (rule : ∀ (i j : Int) (t u : Tok) (Q : Value → Shared → Prop) (s : Shared), Q (.bool (p i j)) s → wpAny (model X.prog X.w) X.A (compareOp op (.int i t) (.int j u)) Q X.xe s) : PC X op a b (tCmp p ta tb) := by
  intro pins s σ H Q I h
  refine bin ha hb I h fun v u s2 x y H2 I2 rx ry q => ?_
  obtain ⟨i, j, rfl, rfl, q⟩ := q
  obtain ⟨t, rfl⟩ := rx
  obtain ⟨t', rfl⟩ := ry
  exact rule i j t t' _ s2 ⟨.bl _, H2, I2, rfl, q⟩
theorem pc_lt (ha : PE X a ta) (hb : PE X b tb) : PC X .Lt a b (tLt ta tb) := pc_int ha hb fun _ _ _ _ _ _ h => lt_int h
theorem pc_le (ha : PE X a ta) (hb : PE X b tb) : PC X .LtE a b (tLe ta tb) := pc_int ha hb fun _ _ _ _ _ _ h => le_int h
theorem pc_gt (ha : PE X a ta) (hb : PE X b tb) : PC X .Gt a b (tGt ta tb) := pc_int ha hb fun _ _ _ _ _ _ h => gt_int h
theorem pc_ge (ha : PE X a ta) (hb : PE X b tb) : PC X .GtE a b (tGe ta tb) := pc_int ha hb fun _ _ _ _ _ _ h => ge_int h
theorem pc_eqI (ha : PE X a ta) (hb : PE X b tb) : PC X .Eq a b (tEqI ta tb) := pc_int ha hb fun _ _ _ _ _ _ h => eq_int (by rw [Bool.beq_eq_decide_eq]; exact h)
theorem pc_neI (ha : PE X a ta) (hb : PE X b tb) : PC X .NotEq a b (tNeI ta tb) := pc_int ha hb fun _ _ _ _ _ _ h => ne_int (by rw [bne, Bool.beq_eq_decide_eq]; exact h)
/-- is None -/
def tIsN (ta : TE) : TE := fun σ H Q => ta σ H fun x H1 => Q (.bl (decide (x = .non))) H1
def tNotN (ta : TE) : TE := fun σ H Q => ta σ H fun x H1 => Q (.bl (!decide (x = .non))) H1
theorem RelV.none_iff {x : V} {v : Value} (r : RelV x v) : (v == Value.none) = decide (x = .non) := by
  cases x with
  | non => cases r; rfl
  | bl _ => cases r; rfl
  | int _ => obtain ⟨t, rfl⟩ := r; rfl
  | str _ => obtain ⟨t, rfl⟩ := r; rfl
  | byt _ => obtain ⟨t, rfl⟩ := r; rfl
  | flt _ => obtain ⟨t, rfl⟩ := r; rfl
  | ref _ => cases r; rfl
  | ty _ => cases r; rfl
theorem pc_isN {j pos'} (ha : PE X a ta) : PC X .Is a (.Constant .none j pos') (tIsN ta) := by
  intro pins s σ H Q I h
  refine thn (ha pins s σ H _ I h) fun v s1 ⟨x, H1, I1, r1, q1⟩ => ?_
  exact Constant_none (is_none_gen ⟨.bl _, H1, I1, by rw [r1.none_iff]; rfl, q1⟩)
theorem pc_notN {j pos'} (ha : PE X a ta) : PC X .IsNot a (.Constant .none j pos') (tNotN ta) := by
  intro pins s σ H Q I h
  refine thn (ha pins s σ H _ I h) fun v s1 ⟨x, H1, I1, r1, q1⟩ => ?_
  exact Constant_none (isnot_none_gen ⟨.bl _, H1, I1, by rw [r1.none_iff]; rfl, q1⟩)
/-- a comparison as a value, as a test -/
def tB (t : TE) : TT := fun σ H Q => t σ H fun x H1 => ∃ c, x = .bl c ∧ Q c H1
theorem pe_cmp {op : CmpOp} {t : TE} (h : PC X op a b t) (h1 : behindInMarks op b = false := by first | exact nobehind _ (by decide) (by decide) | rfl) : PE X (.Compare a [op] [b] pos) t := fun pins s σ H Q I hw => wpAny_Compare1 (h pins s σ H Q I hw) h1
theorem pt_cmp {op : CmpOp} {t : TE} (h : PC X op a b t) (h1 : behindInMarks op b = false := by first | exact nobehind _ (by decide) (by decide) | rfl) : PT X (.Compare a [op] [b] pos) (tB t) := by
  intro pins s σ H Q I hw
  refine wpAny_isTrue_Compare1 (thn (h pins s σ H _ I hw) fun v s1 h1 => thn h1 fun u s2 h2 => thn h2 fun c s3 ⟨x, H1, I1, r1, q1⟩ => ?_) h1
  obtain ⟨d, rfl, q⟩ := q1
  cases r1
  exact wpAny_truthy_bool ⟨H1, I1, q⟩
/-- an expression whose value is a bool, as a test -/
theorem pt_val {e : Expr} {t : TE} (h : PE X e t) (he : ∀ whole, isTrue e X.env whole = (do let v ← whole; standAt e.pos; holding [v] (truthy v)) := by intro _; rfl) : PT X e (tB t) := by
  intro pins s σ H Q I hw
  refine isTrue_plain (thn (h pins s σ H _ I hw) fun v s1 ⟨x, H1, I1, r1, q1⟩ => ?_) (he _)
  obtain ⟨d, rfl, q⟩ := q1
  cases r1
  exact wpAny_truthy_bool ⟨H1, I1, q⟩

/-! ### and, or, not -/
variable {tA tB' : TT} {rest : List Expr}
def tAnd (t u : TT) : TT := fun σ H Q => t σ H fun c H1 => if c = true then u σ H1 Q else Q false H1
def tOr (t u : TT) : TT := fun σ H Q => t σ H fun c H1 => if c = true then Q true H1 else u σ H1 Q
def tNot (t : TT) : TT := fun σ H Q => t σ H fun c H1 => Q (!c) H1
theorem pw_and1 (ha : PT X a tA) : PW X (.BoolOp .And [a] pos) tA := by
  intro wh pins s σ H Q I h
  refine isTrue_and (thn (ha pins s σ H Q I h) fun c s1 e => ?_)
  cases c with
  | true => exact isTrue_and_nil e
  | false => exact e
theorem pw_or1 (ha : PT X a tA) : PW X (.BoolOp .Or [a] pos) tA := by
  intro wh pins s σ H Q I h
  refine isTrue_or (thn (ha pins s σ H Q I h) fun c s1 e => ?_)
  cases c with
  | false => exact isTrue_or_nil e
  | true => exact e
theorem pw_and (ha : PT X a tA) (hb : PW X (.BoolOp .And (b :: rest) pos) tB') : PW X (.BoolOp .And (a :: b :: rest) pos) (tAnd tA tB') := by
  intro wh pins s σ H Q I h
  refine isTrue_and (thn (ha pins s σ H _ I h) fun c s1 ⟨H1, I1, q1⟩ => ?_)
  cases c with
  | true => exact hb wh pins s1 σ H1 Q I1 q1
  | false => exact ⟨H1, I1, q1⟩
theorem pw_or (ha : PT X a tA) (hb : PW X (.BoolOp .Or (b :: rest) pos) tB') : PW X (.BoolOp .Or (a :: b :: rest) pos) (tOr tA tB') := by
  intro wh pins s σ H Q I h
  refine isTrue_or (thn (ha pins s σ H _ I h) fun c s1 ⟨H1, I1, q1⟩ => ?_)
  cases c with
  | true => exact ⟨H1, I1, q1⟩
  | false => exact hb wh pins s1 σ H1 Q I1 q1
theorem pt_not (ha : PT X a tA) : PT X (.UnaryOp .Not a pos) (tNot tA) := by
  intro pins s σ H Q I h
  exact isTrue_not (ha pins s σ H (fun c H1 => Q (!c) H1) I h)
/-- .. as values (bools) -/
def tAndV (ta tb : TE) : TE := fun σ H Q => ta σ H fun x H1 => ∃ c, x = .bl c ∧ if c = true then tb σ H1 Q else Q (.bl false) H1
def tOrV (ta tb : TE) : TE := fun σ H Q => ta σ H fun x H1 => ∃ c, x = .bl c ∧ if c = true then Q (.bl true) H1 else tb σ H1 Q
def tNotV (ta : TE) : TE := fun σ H Q => ta σ H fun x H1 => ∃ c, x = .bl c ∧ Q (.bl (!c)) H1
theorem pe_one {op} {t : TE} (h : PE X a t) : PE X (.BoolOp op [a] pos) t := fun pins s σ H Q I hw => BoolOp_one (h pins s σ H Q I hw)
theorem pe_and (ha : PE X a ta) (hb : PE X (.BoolOp .And (b :: rest) pos) tb) : PE X (.BoolOp .And (a :: b :: rest) pos) (tAndV ta tb) := by
  intro pins s σ H Q I h
  refine BoolOp_and (thn (ha pins s σ H _ I h) fun v s1 ⟨x, H1, I1, r1, q1⟩ => ?_)
  obtain ⟨c, rfl, q1⟩ := q1
  cases r1
  refine wpAny_truthy_bool ?_
  cases c with
  | true => exact hb pins s1 σ H1 Q I1 q1
  | false => exact ⟨.bl false, H1, I1, rfl, q1⟩
theorem pe_or (ha : PE X a ta) (hb : PE X (.BoolOp .Or (b :: rest) pos) tb) : PE X (.BoolOp .Or (a :: b :: rest) pos) (tOrV ta tb) := by
  intro pins s σ H Q I h
  refine BoolOp_or (thn (ha pins s σ H _ I h) fun v s1 ⟨x, H1, I1, r1, q1⟩ => ?_)
  obtain ⟨c, rfl, q1⟩ := q1
  cases r1
  refine wpAny_truthy_bool ?_
  cases c with
  | false => exact hb pins s1 σ H1 Q I1 q1
  | true => exact ⟨.bl true, H1, I1, rfl, q1⟩
theorem pe_not (ha : PE X a ta) : PE X (.UnaryOp .Not a pos) (tNotV ta) := by
  intro pins s σ H Q I h
  refine UnaryOp_ (thn (ha pins s σ H _ I h) fun v s1 ⟨x, H1, I1, r1, q1⟩ => ?_)
  obtain ⟨c, rfl, q1⟩ := q1
  cases r1
  exact not_of (wpAny_truthy_bool ⟨.bl (!c), H1, I1, rfl, q1⟩)
/-- a if t else b -/
def tIf (t : TT) (ta tb : TE) : TE := fun σ H Q => t σ H fun c H1 => if c = true then ta σ H1 Q else tb σ H1 Q
theorem pe_ifExp {c : Expr} (hc : PT X c tA) (ha : PE X a ta) (hb : PE X b tb) : PE X (.IfExp c a b pos) (tIf tA ta tb) := by
  intro pins s σ H Q I h
  refine wpAny_IfExp (thn (hc pins s σ H _ I h) fun d s1 ⟨H1, I1, q1⟩ => ?_)
  cases d with
  | true => exact ha pins s1 σ H1 Q I1 q1
  | false => exact hb pins s1 σ H1 Q I1 q1
end
end L2

namespace L2
open PySem PySem.Spec PyProof.Rows

/-! ### a list, a tuple that is read: tracked, frozen, or an object of the module -/
def SqL (K : PySem.W.Frag) (H : Hp) (a : Addr) (xs : List V) : Prop :=
  Rd H a (.lst xs) ∨
    ∃ (o : Obj) (its : Array Value) (n : Nat), K.lookup a = some o ∧ o.cls = .type "list" ∧ o.dict = none ∧ o.data = .seq its n ∧ its.size ≤ sizeLine ∧ Vals xs its.toList
def SqT (K : PySem.W.Frag) (H : Hp) (a : Addr) (xs : List V) : Prop :=
  Rd H a (.tup xs) ∨
    ∃ (o : Obj) (its : Array Value) (n : Nat), K.lookup a = some o ∧ o.cls = .type "tuple" ∧ o.data = .seq its n ∧ its.size ≤ sizeLine ∧ Vals xs its.toList
def absV : Value → Option V
  | .none => some .non
  | .bool b => some (.bl b)
  | .int i _ => some (.int i)
  | .str x _ => some (.str x)
  | .bytes b _ => some (.byt b)
  | .float b _ => some (.flt b)
  | .ref a => some (.ref a)
  | .type n => some (.ty n)
  | _ => none
theorem RelV.abs {x : V} {u : Value} (r : RelV x u) : absV u = some x := by
  cases x with
  | non => cases r; rfl
  | bl _ => cases r; rfl
  | int _ => obtain ⟨t, rfl⟩ := r; rfl
  | str _ => obtain ⟨t, rfl⟩ := r; rfl
  | byt _ => obtain ⟨t, rfl⟩ := r; rfl
  | flt _ => obtain ⟨t, rfl⟩ := r; rfl
  | ref _ => cases r; rfl
  | ty _ => cases r; rfl
theorem RelV.inj {x y : V} {u : Value} (r : RelV x u) (q : RelV y u) : x = y := Option.some.inj (r.abs.symm.trans q.abs)
theorem Vals.inj : ∀ {xs ys : List V} {us : List Value}, Vals xs us → Vals ys us → xs = ys
  | _, _, _, .nil, .nil => rfl
  | _, _, _, .cons r t, .cons r' t' => by rw [r.inj r', Vals.inj t t']
section
variable {X : Cx} {pins : List (Addr × Obj)} {σ : St} {H : Hp} {s : Shared} {a : Addr} {xs ys : List V}
theorem SqL.of {K : PySem.W.Frag} (h : H a = some (.lst xs)) : SqL K H a xs := .inl (.inl h)
theorem SqT.of {K : PySem.W.Frag} (h : H a = some (.tup xs)) : SqT K H a xs := .inl (.inl h)
theorem Inv.list (I : Inv X pins σ H s) (h : SqL X.K H a xs) : ∃ its : List Value, Vals xs its ∧ PlainL s.heap a its.toArray ∧ xs.length ≤ sizeLine := by
  rcases h with h | ⟨o, its, n, hk, hc, hd, hs, hz, r⟩
  · obtain ⟨z, its, n, r, e⟩ := h.ok I.hok
    exact ⟨its, r, ⟨_, n, e, rfl, rfl, rfl⟩, z⟩
  · refine ⟨its.toList, r, ⟨o, n, I.kIn a o hk, hc, hd, by simpa using hs⟩, ?_⟩
    have e := r.length
    simp only [Array.length_toList] at e
    omega
theorem Inv.tuple (I : Inv X pins σ H s) (h : SqT X.K H a xs) : ∃ its : List Value, Vals xs its ∧ IsTup s.heap a its.toArray ∧ xs.length ≤ sizeLine := by
  rcases h with h | ⟨o, its, n, hk, hc, hs, hz, r⟩
  · obtain ⟨z, its, r, p⟩ := h.ok I.hok
    exact ⟨its, r, p, z⟩
  · refine ⟨its.toList, r, ⟨o, I.kIn a o hk, hc, n, by simpa using hs⟩, ?_⟩
    have e := r.length
    simp only [Array.length_toList] at e
    omega
theorem Inv.list_inj (I : Inv X pins σ H s) (h : SqL X.K H a xs) (h' : SqL X.K H a ys) : xs = ys := by
  obtain ⟨its, r, ⟨o, n, e, _, _, d⟩, _⟩ := I.list h
  obtain ⟨its', r', ⟨o', n', e', _, _, d'⟩, _⟩ := I.list h'
  rw [e] at e'; cases e'
  rw [d] at d'
  injection d' with d1 _
  have : its = its' := by simpa using congrArg Array.toList d1
  subst this
  exact r.inj r'
theorem Inv.tuple_inj (I : Inv X pins σ H s) (h : SqT X.K H a xs) (h' : SqT X.K H a ys) : xs = ys := by
  obtain ⟨its, r, ⟨o, e, _, n, d⟩, _⟩ := I.tuple h
  obtain ⟨its', r', ⟨o', e', _, n', d'⟩, _⟩ := I.tuple h'
  rw [e] at e'; cases e'
  rw [d] at d'
  injection d' with d1 _
  have : its = its' := by simpa using congrArg Array.toList d1
  subst this
  exact r.inj r'
end

/-! ### another wish about exceptions -/
abbrev Cx.wish (X : Cx) (E : Value → Shared → Prop) : Cx := { X with xe := E }
/-- no exception leaves -/
abbrev Cx.nox (X : Cx) : Cx := X.wish fun _ _ => False
theorem Cx.Ok.wish {X : Cx} (ok : X.Ok) (E : Value → Shared → Prop) : (X.wish E).Ok :=
  ⟨ok.mod, ok.kind, ok.glob, ok.blt, ok.above, ok.inj, ok.has, ok.cab, ok.hd, ok.frames, ok.stk, ok.exf, ok.bs, ok.bsz, ok.noex, ok.exfs, ok.funs, ok.frf⟩
theorem Cx.Ok.unwish {X : Cx} {E : Value → Shared → Prop} (ok : (X.wish E).Ok) : X.Ok :=
  ⟨ok.mod, ok.kind, ok.glob, ok.blt, ok.above, ok.inj, ok.has, ok.cab, ok.hd, ok.frames, ok.stk, ok.exf, ok.bs, ok.bsz, ok.noex, ok.exfs, ok.funs, ok.frf⟩
section
variable {X : Cx} {pins : List (Addr × Obj)} {σ : St} {H : Hp} {s : Shared} {E : Value → Shared → Prop}
theorem Inv.wish (I : Inv X pins σ H s) (E : Value → Shared → Prop) : Inv (X.wish E) pins σ H s := ⟨I.ok.wish E, I.os, I.bare, I.base, I.loc, I.cell, I.free, I.freeC, I.pin, I.hok, I.len⟩
theorem Inv.unwish (I : Inv (X.wish E) pins σ H s) : Inv X pins σ H s := ⟨I.ok.unwish, I.os, I.bare, I.base, I.loc, I.cell, I.free, I.freeC, I.pin, I.hok, I.len⟩
theorem SP.unwish {D : Ends} {f : Flow} {s' : Shared} (h : SP (X.wish E) pins D f s') : SP X pins D f s' := by
  cases f with
  | next => obtain ⟨σ', H', I, q⟩ := h; exact ⟨σ', H', I.unwish, q⟩
  | brk => obtain ⟨σ', H', I, q⟩ := h; exact ⟨σ', H', I.unwish, q⟩
  | cont => obtain ⟨σ', H', I, q⟩ := h; exact ⟨σ', H', I.unwish, q⟩
  | ret u => obtain ⟨v, σ', H', I, r, q⟩ := h; exact ⟨v, σ', H', I.unwish, r, q⟩
theorem PE.nox {e : Expr} {t : TE} (h : PE X.nox e t) : PE X e t := fun pins s σ H Q I hw =>
  wpAny_mono (h pins s σ H Q (I.wish _) hw) (fun _ _ ⟨v, H', I', r, q⟩ => ⟨v, H', I'.unwish, r, q⟩) fun _ _ z => False.elim z
theorem PT.nox {e : Expr} {t : TT} (h : PT X.nox e t) : PT X e t := fun pins s σ H Q I hw =>
  wpAny_mono (h pins s σ H Q (I.wish _) hw) (fun _ _ ⟨H', I', q⟩ => ⟨H', I'.unwish, q⟩) fun _ _ z => False.elim z
theorem PSs.nox {st : List Stmt} {t : TS} (h : PSs X.nox st t) : PSs X st t := fun pins s σ H D I hw =>
  wpAny_mono (h pins s σ H D (I.wish _) hw) (fun _ _ q => q.unwish) fun _ _ z => False.elim z
end

/-! ### blocks and small statements -/
section
variable {X : Cx} {st : Stmt} {rest : List Stmt} {t u : TS} {e : Expr} {te : TE} {pos : Pos}
def tNext : TS := fun D σ H => D.nx σ H
def tSeq (t u : TS) : TS := fun D σ H => t { D with nx := u D } σ H
theorem pss_nil : PSs X [] tNext := fun _ _ σ H _ I h => wpAny_execs_nil ⟨σ, H, I, h⟩
theorem pss_cons (h1 : PS X st t) (h2 : PSs X rest u) : PSs X (st :: rest) (tSeq t u) := by
  intro pins s σ H D I h
  refine wpAny_execs_cons (thn (h1 pins s σ H { D with nx := u D } I h) fun f s1 q => ?_)
  cases f with
  | next =>
    obtain ⟨σ', H', I', q⟩ := q
    exact h2 pins s1 σ' H' D I' q
  | ret v => exact q
  | brk => exact q
  | cont => exact q
theorem pss_one (h1 : PS X st t) : PSs X [st] t := by
  intro pins s σ H D I h
  refine wpAny_execs_cons (thn (h1 pins s σ H D I h) fun f s1 q => ?_)
  cases f with
  | next => exact wpAny_execs_nil q
  | ret v => exact q
  | brk => exact q
  | cont => exact q
def tBreak : TS := fun D σ H => D.bk σ H
def tCont : TS := fun D σ H => D.ct σ H
theorem ps_pass : PS X (.Pass pos) tNext := fun _ _ σ H _ I h => wpAny_Pass ⟨σ, H, I, h⟩
theorem ps_break : PS X (.Break pos) tBreak := fun _ _ σ H _ I h => wpAny_Break ⟨σ, H, I, h⟩
theorem ps_continue : PS X (.Continue pos) tCont := fun _ _ σ H _ I h => wpAny_Continue ⟨σ, H, I, h⟩
/-- in a def's body nothing is shown -/
theorem Inv.quiet {pins : List (Addr × Obj)} {σ : St} {H : Hp} {s : Shared} (I : Inv X pins σ H s) : interactive X.env = false := by simp [interactive, I.ok.kind]
/-- a docstring -/
theorem ps_doc {x j pos pos'} : PS X (.Expr (.Constant (.str x) j pos) pos') tNext := fun _ s σ H _ I h => wpAny_Expr (Calls.Constant_str (show SP X _ _ .next { s with toks := s.toks + 1 } from ⟨σ, H, I.tok _, h⟩)) I.quiet
/-- an expression whose value is dropped -/
def tDrop (te : TE) : TS := fun D σ H => te σ H fun _ H1 => D.nx σ H1
theorem ps_expr (he : PE X e te) (hs : swapsWith e none pos.line X.env = pure false := by rfl) : PS X (.Expr e pos) (tDrop te) := by
  intro pins s σ H D I h
  exact wpAny_Expr_any (thn (he pins s σ H _ I h) fun v s1 ⟨x, H1, I1, r1, q1⟩ => ⟨σ, H1, I1, q1⟩) I.quiet hs
def tRet (te : TE) : TS := fun D σ H => te σ H D.rt
theorem ps_ret (he : PE X e te) : PS X (.Return (some e) pos) (tRet te) := by
  intro pins s σ H D I h
  exact wpAny_Return_some (thn (he pins s σ H _ I h) fun v s1 ⟨x, H1, I1, r1, q1⟩ => ⟨x, σ, H1, I1, r1, q1⟩)
def tRetN : TS := fun D _ H => D.rt .non H
theorem ps_retN : PS X (.Return none pos) tRetN := fun _ _ σ H _ I h => wpAny_Return_none ⟨.non, σ, H, I, rfl, h⟩
def tIfS (c : TT) (t u : TS) : TS := fun D σ H => c σ H fun b H1 => if b = true then t D σ H1 else u D σ H1
theorem ps_if {c : Expr} {a b : List Stmt} {tc : TT} (hc : PT X c tc) (ha : PSs X a t) (hb : PSs X b u) : PS X (.If c a b pos) (tIfS tc t u) := by
  intro pins s σ H D I h
  refine wpAny_If (thn (hc pins s σ H _ I h) fun d s1 ⟨H1, I1, q1⟩ => ?_)
  cases d with
  | true => exact ha pins s1 σ H1 D I1 q1
  | false => exact hb pins s1 σ H1 D I1 q1
/-- code that the proof never comes to -/
def tNever : TS := fun _ _ _ => False
theorem ps_never : PS X st tNever := fun _ _ _ _ _ _ h => h.elim
theorem pss_never {sts : List Stmt} : PSs X sts tNever := fun _ _ _ _ _ _ h => h.elim
end

/-! ### targets -/
abbrev TG := V → St → Hp → (St → Hp → Prop) → Prop
abbrev TGs := List V → St → Hp → (St → Hp → Prop) → Prop
def PG (X : Cx) (target : Expr) (t : TG) : Prop :=
  ∀ (pins : List (Addr × Obj)) (s : Shared) (σ : St) (H : Hp) (v : V) (u : Value) (Q : St → Hp → Prop), Inv X pins σ H s → RelV v u → t v σ H Q →
    wpAny (model X.prog X.w) X.A (assign target X.env u) (fun _ s' => ∃ σ' H', Inv X pins σ' H' s' ∧ Q σ' H') X.xe s
/-- several targets, one after another -/
def PGs (X : Cx) (ts : List Expr) (t : TGs) : Prop :=
  ∀ (pins : List (Addr × Obj)) (s : Shared) (σ : St) (H : Hp) (vs : List V) (us : List Value) (Q : St → Hp → Prop), Inv X pins σ H s → Vals vs us → t vs σ H Q →
    wpAny (model X.prog X.w) X.A (assignInOrder ((assignEach ts X.env).map (·.2)) us) (fun _ s' => ∃ σ' H', Inv X pins σ' H' s' ∧ Q σ' H') X.xe s
/-- o[i] = v, by values -/
abbrev TSet := V → V → V → Hp → (Hp → Prop) → Prop
def PSet (X : Cx) (t : TSet) : Prop :=
  ∀ (pins : List (Addr × Obj)) (s : Shared) (σ : St) (H : Hp) (o i v : V) (ov iv u : Value) (Q : Hp → Prop), Inv X pins σ H s → RelV o ov → RelV i iv → RelV v u → t o i v H Q →
    wpAny (model X.prog X.w) X.A (setItem ov iv u) (fun _ s' => ∃ H', Inv X pins σ H' s' ∧ Q H') X.xe s
/-- a op= b, by values -/
abbrev TIp := V → V → Hp → VK → Prop
def PIp (X : Cx) (op : Operator) (t : TIp) : Prop :=
  ∀ (pins : List (Addr × Obj)) (s : Shared) (σ : St) (H : Hp) (x y : V) (v u : Value) (Q : VK), Inv X pins σ H s → RelV x v → RelV y u → t x y H Q →
    wpAny (model X.prog X.w) X.A (inplaceOp op v u) (EP X pins σ Q) X.xe s
section
variable {X : Cx} {pos : Pos}
def gName (i : Nat) : TG := fun v σ H Q => Q (σ.set i (some v)) H
theorem pg_name {i : Nat} {x : Str} (hN : X.N.Nodup) (hi : X.N[i]? = some x) (hx : Loc X.env.scope x) (hf : X.fn x = true ∨ X.env.scope.names.lookup x = some .local := by first | exact .inl rfl | exact .inr rfl | assumption) : PG X (.Name x pos) (gName i) := by
  intro pins s σ H v u Q I r h
  exact wpAny_assign_Name (store_ok I hN hi hx r (fun s' I' => ⟨_, H, I', h⟩) hf)
def gNil : TGs := fun vs σ H Q => vs = [] ∧ Q σ H
def gCons (t : TG) (u : TGs) : TGs := fun vs σ H Q => ∃ v r, vs = v :: r ∧ t v σ H fun σ' H' => u r σ' H' Q
theorem pgs_nil : PGs X [] gNil := by
  intro pins s σ H vs us Q I r h
  obtain ⟨e, h⟩ := h
  subst e
  cases r
  exact assignInOrder_nil ⟨σ, H, I, h⟩
theorem pgs_cons {e : Expr} {es : List Expr} {t : TG} {u : TGs} (h1 : PG X e t) (h2 : PGs X es u)
    (hs : (assignEach (e :: es) X.env).map (·.2) = assign e X.env :: (assignEach es X.env).map (·.2) := by rfl) : PGs X (e :: es) (gCons t u) := by
  intro pins s σ H vs us Q I r h
  obtain ⟨v, vr, e1, h⟩ := h
  subst e1
  cases r with
  | cons r rr =>
    rw [hs]
    refine assignInOrder_cons (thn (h1 pins s σ H _ _ _ I r h) fun _ s1 ⟨σ1, H1, I1, q1⟩ => ?_)
    exact h2 pins s1 σ1 H1 _ _ Q I1 rr q1
/-- (a, b, ..) = a tuple of that length -/
def gTup (K : PySem.W.Frag) (n : Nat) (t : TGs) : TG := fun v σ H Q => ∃ a xs, v = .ref a ∧ SqT K H a xs ∧ xs.length = n ∧ t xs σ H Q
theorem pg_tup {es : List Expr} {k : Nat} {t : TGs} {n : Nat} (hc : X.calm = true) (h : PGs X es t)
    (hn : (assignEach es X.env).length = n := by rfl) (hst : (assignEach es X.env).findIdx? (·.1) = none := by rfl) : PG X (.Tuple es k pos) (gTup X.K n t) := by
  intro pins s σ H v u Q I r hw
  obtain ⟨a, xs, e1, hq, hl, hw⟩ := hw
  subst e1
  cases r
  obtain ⟨its, rv, ht, hz⟩ := I.tuple hq
  refine assign_Tuple_tuple (I.ok.hd hc) ht (by simp [hn, ← hl, rv.length]) hst fun h' hx => ?_
  have I1 : Inv X pins σ H { s with heap := h' } := I.kept (t' := s.toks) fun b o e => hx b o (Nat.ne_of_lt (Heap.lt_size e)) e
  exact h pins _ σ H xs _ Q I1 (by simpa using rv) hw
/-- o[i] = .. -/
def gSub (to ti : TE) (t : TSet) : TG := fun v σ H Q => to σ H fun o H1 => ti σ H1 fun i H2 => t o i v H2 fun H3 => Q σ H3
theorem pg_sub {o i : Expr} {to ti : TE} {t : TSet} (ho : PE X o to) (hi : PE X i ti) (hs : PSet X t)
    (ha : ∀ v, assign (.Subscript o i pos) X.env v = (do
      let ov ← holding [v] (eval o X.env)
      let iv ← holding [v, ov] (eval i X.env)
      standAt pos
      holding [v, ov, iv] (setItem ov iv v)
      release [v, ov, iv] []) := by intro _; rfl) : PG X (.Subscript o i pos) (gSub to ti t) := by
  intro pins s σ H v u Q I r h
  rw [ha]
  refine wpAny_bind (wpAny_holding (thn (ho pins s σ H _ I h) fun ov s1 ⟨x, H1, I1, r1, q1⟩ => ?_))
  refine wpAny_bind (wpAny_holding (thn (hi pins s1 σ H1 _ I1 q1) fun iv s2 ⟨y, H2, I2, r2, q2⟩ => ?_))
  refine wpAny_bind (wpAny_standAt (wpAny_bind (wpAny_holding (thn (hs pins s2 σ H2 x y v ov iv u _ I2 r1 r2 r q2) fun _ s3 ⟨H3, I3, q3⟩ => ?_))))
  exact wpAny_release ⟨σ, H3, I3, q3⟩
/-- target = value -/
def tAsg (te : TE) (g : TG) : TS := fun D σ H => te σ H fun x H1 => g x σ H1 D.nx
theorem ps_asg {tg e : Expr} {te : TE} {g : TG} (he : PE X e te) (hg : PG X tg g) (hs : swapsWithSole [tg] e pos.line X.env = pure false := by rfl) (hw : swappedStores [tg] e X.env = pure none := by rfl)
    (h1 : (assignEach [tg] X.env).map (·.2) = [assign tg X.env] := by rfl) : PS X (.Assign [tg] e pos) (tAsg te g) := by
  intro pins s σ H D I h
  refine wpAny_Assign_stores (thn (he pins s σ H _ I h) fun v s1 ⟨x, H1, I1, r1, q1⟩ => ?_) hs hw
  rw [h1]
  exact thn (hg pins s1 σ H1 x v _ I1 r1 q1) fun _ s2 q => q
/-- name = value -/
theorem ps_set {i : Nat} {x : Str} {e : Expr} {te : TE} {pos' : Pos} (hN : X.N.Nodup) (hi : X.N[i]? = some x) (hx : Loc X.env.scope x) (he : PE X e te) (hs : swapsWith e (some (.Name x pos')) pos.line X.env = pure false := by rfl) (hf : X.fn x = true ∨ X.env.scope.names.lookup x = some .local := by first | exact .inl rfl | exact .inr rfl | assumption) :
    PS X (.Assign [.Name x pos'] e pos) (tAsg te (gName i)) := by
  intro pins s σ H D I h
  refine wpAny_Assign_Name (thn (he pins s σ H _ I h) fun v s1 ⟨y, H1, I1, r1, q1⟩ => ?_) hs
  exact store_ok I1 hN hi hx r1 (fun s2 I2 => ⟨_, H1, I2, q1⟩) hf
/-- a, b = x, y with plain local names: stored from the right; the pair itself is not tracked (the opening rows as in PyProof/Rows/TupAssign.lean:23) -/
def tPar (i j : Nat) (ta : TA) : TS := fun D σ H => ta σ H fun vs H1 => ∃ v w, vs = [v, w] ∧ D.nx ((σ.set i (some v)).set j (some w)) H1
theorem ps_par {i j : Nat} {x y : Str} {a b : Expr} {ta : TA} {px py pt : Pos} {kt k2 pt2} (hc : X.calm = true) (hN : X.N.Nodup) (hi : X.N[i]? = some x) (hj : X.N[j]? = some y) (hij : i ≠ j)
    (hx : X.env.scope.names.lookup x = some .local) (hy : X.env.scope.names.lookup y = some .local) (ha : PA X [a, b] ta)
    (hw : swappedStores [.Tuple [.Name x px, .Name y py] kt pt] (.Tuple [a, b] k2 pt2) X.env = pure (some [x, y]))
    (hs : swapsWithSole [.Tuple [.Name x px, .Name y py] kt pt] (.Tuple [a, b] k2 pt2) pos.line X.env = pure false := by rfl) :
    PS X (.Assign [.Tuple [.Name x px, .Name y py] kt pt] (.Tuple [a, b] k2 pt2) pos) (tPar i j ta) := by
  intro pins s σ H D I h
  rw [exec_Assign_arm]
  refine wpAny_bind (wpAny_standAt ?_)
  rw [hs]
  refine wpAny_bind (wpAny_pure ?_)
  rw [if_neg (by decide)]
  refine wpAny_bind (Tuple_ (thn (ha _ pins s σ H _ I h) fun us s1 ⟨vs, H1, I1, r1, q1⟩ => ?_))
  obtain ⟨v, w, e1, q1⟩ := q1
  subst e1
  obtain ⟨u1, u2, rfl, rv, rw'⟩ : ∃ u1 u2, us = [u1, u2] ∧ RelV v u1 ∧ RelV w u2 := by
    cases r1 with
    | cons p q =>
      cases q with
      | cons p' q' =>
        cases q'
        exact ⟨_, _, rfl, p, p'⟩
  refine wpAny_newObj_type ?_ (by show 2 ≤ sizeLine; decide)
  have I2 : Inv X pins σ H1 { s1 with heap := s1.heap.push { cls := .type "tuple", data := .seq [u1, u2].toArray } } := I1.kept (t' := s1.toks) fun b o e => Heap.get?_push_of_some _ e
  rw [hw]
  refine wpAny_bind (wpAny_pure ?_)
  show wpAny (model X.prog X.w) X.A (do rule "assign.swapped-stores"; let items ← unpackItems (.ref s1.heap.objs.size) 2 none; assignInOrder [fun v => bindName X.env y v, fun v => bindName X.env x v] items.reverse; pure Flow.next) _ _ _
  refine wpAny_bind (wpAny_rule (wpAny_bind (unpackItems_tuple (items := #[u1, u2]) (I.ok.hd hc) (IsTup.new s1.heap _) fun h' hx' => ?_)))
  have I3 := I2.kept (h' := h') (t' := s1.toks) fun b o e => hx' b o (Nat.ne_of_lt (Heap.lt_size e)) e
  show wpAny _ _ (assignInOrder [fun v => bindName X.env y v, fun v => bindName X.env x v] [u2, u1] >>= fun _ => pure Flow.next) _ _ _
  refine wpAny_bind (assignInOrder_cons (wpAny_bindName (store_ok I3 hN hj (.inl hy) rw' (fun s2 I4 => ?_) (.inr hy))))
  refine assignInOrder_cons (wpAny_bindName (store_ok I4 hN hi (.inl hx) rv (fun s3 I5 => assignInOrder_nil (wpAny_pure ?_)) (.inr hx)))
  rw [List.set_comm _ _ (Ne.symm hij)] at I5
  exact ⟨_, H1, I5, q1⟩
/-- name op= e -/
def tAug (i : Nat) (te : TE) (ti : TIp) : TS := fun D σ H => ∃ x, σ[i]? = some (some x) ∧ te σ H fun y H1 => ti x y H1 fun z H2 => D.nx (σ.set i (some z)) H2
theorem ps_aug {i : Nat} {x : Str} {e : Expr} {te : TE} {op : Operator} {ti : TIp} {pos' : Pos} (hN : X.N.Nodup) (hi : X.N[i]? = some x) (hx : Loc X.env.scope x) (he : PE X e te) (ho : PIp X op ti) (hf : X.fn x = true ∨ X.env.scope.names.lookup x = some .local := by first | exact .inl rfl | exact .inr rfl | assumption) :
    PS X (.AugAssign (.Name x pos') op e pos) (tAug i te ti) := by
  intro pins s σ H D I h
  obtain ⟨v, e1, h⟩ := h
  obtain ⟨m, hn, hl⟩ := I.loc
  have vis : Vis X.env.scope x := by rcases hx with k | k; exact .inl k; exact .inr (.inl k)
  obtain ⟨u, r, l⟩ := hl i x v hi e1 vis
  refine wpAny_AugAssign_Name ?_
  have go : wpAny (model X.prog X.w) X.A (eval e X.env) (fun w s₂ => wpAny (model X.prog X.w) X.A (inplaceOp op u w) (fun r s₃ => wpAny (model X.prog X.w) X.A (storeName X.env x r) (fun _ => SP X pins D .next) X.xe s₃) X.xe s₂) X.xe s := by
    refine thn (he pins s σ H _ I h) fun w s1 ⟨y, H1, I1, r1, q1⟩ => ?_
    refine thn (ho pins s1 σ H1 v y u w _ I1 r r1 q1) fun z s2 ⟨zv, H2, I2, r2, q2⟩ => ?_
    exact store_ok I2 hN hi hx r2 (fun s3 I3 => ⟨_, H2, I3, q2⟩) hf
  rcases l with ⟨hk, hm⟩ | ⟨hk, c, hc, hcell⟩
  · exact wpAny_loadName_local I.ok.kind hk hn hm go
  · rcases hk with hk | hk
    · exact wpAny_loadName_cell I.ok.kind hk hc hcell go
    · rcases hx with k | k
      · have : X.env.scope.names.lookup x = some .free := hk
        rw [k] at this; cases this
      · have : X.env.scope.names.lookup x = some .free := hk
        rw [k] at this; cases this
/-- o[i] op= e -/
def tAugS (to ti te : TE) (tget : V → V → Hp → VK → Prop) (tip : TIp) (tset : TSet) : TS := fun D σ H => to σ H fun o H1 => ti σ H1 fun i H2 => tget o i H2 fun x H3 => te σ H3 fun y H4 => tip x y H4 fun z H5 => tset o i z H5 fun H6 => D.nx σ H6
/-- o[i], by values -/
def PGet (X : Cx) (t : V → V → Hp → VK → Prop) : Prop :=
  ∀ (pins : List (Addr × Obj)) (s : Shared) (σ : St) (H : Hp) (o i : V) (ov iv : Value) (Q : VK), Inv X pins σ H s → RelV o ov → RelV i iv → t o i H Q →
    wpAny (model X.prog X.w) X.A (getItem ov iv) (EP X pins σ Q) X.xe s
theorem ps_augS {o i e : Expr} {to ti te : TE} {tget : V → V → Hp → VK → Prop} {tip : TIp} {tset : TSet} {op : Operator} {tpos : Pos} (ho : PE X o to) (hi : PE X i ti) (hg : PGet X tget) (he : PE X e te) (hp : PIp X op tip) (hs : PSet X tset)
    (ha : ∀ ov iv new, augStore i ov iv new = (do holding [new, ov, iv] (setItem ov iv new); release [new, ov, iv] []; pure .next) := by intros; rfl) : PS X (.AugAssign (.Subscript o i tpos) op e pos) (tAugS to ti te tget tip tset) := by
  intro pins s σ H D I h
  refine wpAny_AugAssign_SubscriptAny (thn (ho pins s σ H _ I h) fun ov s1 ⟨x1, H1, I1, r1, q1⟩ => ?_) ha
  refine thn (hi pins s1 σ H1 _ I1 q1) fun iv s2 ⟨x2, H2, I2, r2, q2⟩ => ?_
  refine thn (hg pins s2 σ H2 x1 x2 ov iv _ I2 r1 r2 q2) fun old s3 ⟨x3, H3, I3, r3, q3⟩ => ?_
  refine thn (he pins s3 σ H3 _ I3 q3) fun v s4 ⟨x4, H4, I4, r4, q4⟩ => ?_
  refine thn (hp pins s4 σ H4 x3 x4 old v _ I4 r3 r4 q4) fun new s5 ⟨x5, H5, I5, r5, q5⟩ => ?_
  exact thn (hs pins s5 σ H5 x1 x2 x5 ov iv new _ I5 r1 r2 r5 q5) fun _ s6 ⟨H6, I6, q6⟩ => ⟨σ, H6, I6, q6⟩
/-- ints -/
def ipI (f : Int → Int → Int) : TIp := fun x y H Q => ∃ i j, x = .int i ∧ y = .int j ∧ Q (.int (f i j)) H
theorem ip_add : PIp X .Add (ipI fun i j => i + j) := by
  intro pins s σ H x y v u Q I r1 r2 h
  obtain ⟨i, j, e1, e2, q⟩ := h
  subst e1; subst e2
  obtain ⟨t, rfl⟩ := r1
  obtain ⟨t', rfl⟩ := r2
  exact iadd_int ⟨.int _, H, I.tok _, ⟨_, rfl⟩, q⟩
theorem ip_sub : PIp X .Sub (ipI fun i j => i - j) := by
  intro pins s σ H x y v u Q I r1 r2 h
  obtain ⟨i, j, e1, e2, q⟩ := h
  subst e1; subst e2
  obtain ⟨t, rfl⟩ := r1
  obtain ⟨t', rfl⟩ := r2
  exact isub_int ⟨.int _, H, I.tok _, ⟨_, rfl⟩, q⟩
end

/-! ### while -/
section
variable {X : Cx} {pos : Pos}
/-- the invariant W with its measure -/
def tWhile (c : TT) (tb : TS) : TS := fun D σ H => ∃ W : Nat → St → Hp → Prop, (∃ m, W m σ H) ∧ ∀ m σ H, W m σ H →
  c σ H fun b H1 => if b = true then ∃ N : St → Hp → Prop, (∀ σ' H', N σ' H' → ∃ m', m' < m ∧ W m' σ' H') ∧ tb { D with nx := N, ct := N, bk := D.nx } σ H1 else D.nx σ H1
theorem ps_while {c : Expr} {body : List Stmt} {tc : TT} {tb : TS} (hp : PassesOwn (model X.prog X.w) X.A X.env X.xe) (hc : PT X c tc) (hb : PSs X body tb) : PS X (.While c body [] pos) (tWhile tc tb) := by
  intro pins s σ H D I h
  obtain ⟨W, ⟨m0, w0⟩, turn⟩ := h
  refine wpAny_While (codeAny_whileLoop (fun n s' => ∃ σ' H', Inv X pins σ' H' s' ∧ W n σ' H') ?_ m0 ⟨σ, H, I, w0⟩)
  rintro n s1 ⟨σ1, H1, I1, w1⟩
  refine wpAny_passesOwn hp (thn (hc pins s1 σ1 H1 _ I1 (turn n σ1 H1 w1)) fun b s2 ⟨H2, I2, q2⟩ => ?_)
  cases b with
  | true =>
    obtain ⟨N, hN, q2⟩ := q2
    rw [if_pos rfl]
    refine wpAny_passesOwn hp (thn (hb pins s2 σ1 H2 _ I2 q2) fun f s3 q3 => ?_)
    cases f with
    | next =>
      obtain ⟨σ3, H3, I3, n3⟩ := q3
      obtain ⟨m', hm, w3⟩ := hN σ3 H3 n3
      exact ⟨m', hm, σ3, H3, I3, w3⟩
    | cont =>
      obtain ⟨σ3, H3, I3, n3⟩ := q3
      obtain ⟨m', hm, w3⟩ := hN σ3 H3 n3
      exact ⟨m', hm, σ3, H3, I3, w3⟩
    | brk => exact q3
    | ret v => exact q3
  | false =>
    rw [if_neg Bool.false_ne_true]
    exact wpAny_execs_nil ⟨σ1, H2, I2, q2⟩
end

/-! ### what a loop or a comprehension walks -/
/-- at turn i: it yields x (the heap may grow), or it stops -/
structure It where
  go : Nat → Hp → Prop
  yld : Nat → Hp → V → Hp → Prop
  stop : Nat → Hp → Prop
/-- the iterator's own objects may turn: they are not the frame's, not pinned, younger than the entry (or a comprehension's own) -/
def FpOk (X : Cx) (pins : List (Addr × Obj)) (H : Hp) (b : Addr) : Prop :=
  H b = none ∧ b ≠ X.env.locals ∧ b ∉ X.fs ∧ (b ∈ X.ex ∨ X.s₀.heap.objs.size ≤ b) ∧ (∀ x c, X.env.cells.lookup x = some c → c ≠ b) ∧ ∀ p ∈ X.pn ++ pins, p.1 ≠ b
theorem Inv.fpOk {X : Cx} {pins : List (Addr × Obj)} {σ : St} {H H' : Hp} {s : Shared} {b : Addr} (I : Inv X pins σ H s) (hb : s.heap.objs.size ≤ b) (hn : H' b = none) : FpOk X pins H' b := by
  refine ⟨hn, Nat.ne_of_gt (Nat.lt_of_lt_of_le I.lt hb), I.nofs hb, .inr (Nat.le_trans I.sz hb), fun x c e z => ?_, fun p hp z => ?_⟩
  · obtain ⟨v, q⟩ := I.cell x c e
    exact absurd (Nat.lt_of_lt_of_le q.lt (by rw [z]; exact hb)) (Nat.lt_irrefl _)
  · exact absurd (Nat.lt_of_lt_of_le (Heap.lt_size (I.pin p hp).1) (by rw [z]; exact hb)) (Nat.lt_irrefl _)
structure Turn (P : Program) (w : World) (K : PySem.W.Frag) (tg : Expr) (J : It) (fp : List Addr) (it : Addr) (tn : Nat → Heap → Prop) : Prop where
  mem : it ∈ fp
  obj : ∀ i h, tn i h → ∀ b ∈ fp, ∃ o, h.get? b = some o ∧ ∀ v, o.data ≠ .cell v
  keep : ∀ i h h', tn i h → (∀ b ∈ fp, ∀ o, h.get? b = some o → h'.get? b = some o) → tn i h'
  item : ∀ (X : Cx), X.prog = P → X.w = w → X.K = K → X.calm = true → ∀ (i : Nat) (pins : List (Addr × Obj)) (s : Shared) (σ : St) (H : Hp) (E : Value → Shared → Prop), Inv X pins σ H s → (∀ b ∈ fp, FpOk X pins H b) → tn i s.heap → J.go i H →
    wpAny (model P w) X.A (pyNext (.ref it)) (fun r s1 => ∃ u, r = some u ∧
      wpAny (model P w) X.A (letOwnedTupleGo tg (.ref it) u) (fun _ s2 => ∃ x H', Inv X pins σ H' s2 ∧ RelV x u ∧ J.yld i H x H' ∧ tn (i + 1) s2.heap ∧ ∀ b ∈ fp, H' b = none) E s1) E s
  done : ∀ (X : Cx), X.prog = P → X.w = w → X.K = K → X.calm = true → ∀ (i : Nat) (pins : List (Addr × Obj)) (s : Shared) (σ : St) (H : Hp) (E : Value → Shared → Prop), Inv X pins σ H s → (∀ b ∈ fp, FpOk X pins H b) → tn i s.heap → J.stop i H →
    wpAny (model P w) X.A (pyNext (.ref it)) (fun r s1 => r = none ∧ Inv X pins σ H s1) E s
  self : ∀ (A : Around) (i : Nat) (s : Shared) (Q : Value → Shared → Prop) (E : Value → Shared → Prop), tn i s.heap → Q (.ref it) s → wpAny (model P w) A (pyIter (.ref it)) Q E s
abbrev TI := St → Hp → (It → Hp → Prop) → Prop
/-- an iterator has come -/
def PIE (X : Cx) (pins : List (Addr × Obj)) (σ : St) (tg : Expr) (R : It → Hp → Prop) (itv : Value) (s2 : Shared) : Prop :=
  ∃ (it : Addr) (fp : List Addr) (tn : Nat → Heap → Prop) (J : It) (H' : Hp), itv = .ref it ∧ Inv X pins σ H' s2 ∧ Turn X.prog X.w X.K tg J fp it tn ∧ tn 0 s2.heap ∧ (∀ b ∈ fp, FpOk X pins H' b) ∧ R J H'
def PI (X : Cx) (tg iter : Expr) (wi : TI) : Prop :=
  ∀ (pins : List (Addr × Obj)) (s : Shared) (σ : St) (H : Hp) (R : It → Hp → Prop), Inv X pins σ H s → wi σ H R →
    wpAny (model X.prog X.w) X.A (eval iter X.env) (fun v s1 => wpAny (model X.prog X.w) X.A (pyIter v) (PIE X pins σ tg R) X.xe s1) X.xe s

/-- the step ahead of the store is nothing for an iterator that keeps no tuple -/
theorem go_of {M : Model} {A : Around} {E : Value → Shared → Prop} {s : Shared} {tg : Expr} {it : Addr} {u : Value} {o : Obj} {n : String} {vs : Array Value} {Q : Unit → Shared → Prop} (ho : s.heap.get? it = some o) (hc : o.cls = .type n) (hd : o.data = .fields vs)
    (hn : ["enumerate", "zip", "dict_itemiterator", "dict_reverseitemiterator", "odict_iterator", "itertools.zip_longest", "itertools.pairwise"].contains n = false) (hQ : Q () s) : wpAny M A (letOwnedTupleGo tg (.ref it) u) Q E s := by
  unfold letOwnedTupleGo
  cases tg <;> first
    | exact wpAny_pure hQ
    | (cases u <;> first
        | exact wpAny_pure hQ
        | (refine wpAny_bind (wpAny_load ho ?_)
           rw [hc, hd]
           show wpAny M A (if (["enumerate", "zip", "dict_itemiterator", "dict_reverseitemiterator", "odict_iterator", "itertools.zip_longest", "itertools.pairwise"].contains n && vs[0]? == some (rawInt _)) = true then _ else _) Q E s
           rw [if_neg (by intro h; rw [hn, Bool.false_and] at h; cases h)]
           exact wpAny_pure hQ))

/-- the list at a, as it stands at each turn (a loop may append to it) -/
def Itl (K : PySem.W.Frag) (a : Addr) : It :=
  ⟨fun i H => ∃ xs x, SqL K H a xs ∧ xs[i]? = some x, fun i H x H' => H' = H ∧ ∀ xs, SqL K H a xs → xs[i]? = some x, fun i H => ∃ xs, SqL K H a xs ∧ xs.length ≤ i⟩
def Itt (K : PySem.W.Frag) (a : Addr) : It :=
  ⟨fun i H => ∃ xs x, SqT K H a xs ∧ xs[i]? = some x, fun i H x H' => H' = H ∧ ∀ xs, SqT K H a xs → xs[i]? = some x, fun i H => ∃ xs, SqT K H a xs ∧ xs.length ≤ i⟩
/-- lo, lo + 1, .. (n of them) -/
def Itr (lo : Int) (n : Nat) : It := ⟨fun i _ => i < n, fun i H x H' => H' = H ∧ x = .int (lo + i), fun i _ => n ≤ i⟩
theorem turn_list {P : Program} {w : World} {K : PySem.W.Frag} {tg : Expr} (a it : Addr) : Turn P w K tg (Itl K a) [it] it (fun i h => h.IsListIter it a i) where
  mem := by simp
  obj := fun i h st b hb => by
    have e : b = it := by simpa using hb
    subst e
    obtain ⟨o, e, c, d⟩ := st
    exact ⟨o, e, fun v z => by rw [d] at z; cases z⟩
  keep := fun i h h' st k => st.at fun o e => k it (by simp) o e
  item := by
    intro X hP hw hK hc i pins s σ H E I hf st hg
    subst hP hw hK
    obtain ⟨xs, x, hq, hx⟩ := hg
    obtain ⟨its, rv, p, hz⟩ := I.list hq
    obtain ⟨u, hu, ru⟩ := rv.get hx
    obtain ⟨f0, f1, f2, f3, f4, f5⟩ := hf it (by simp)
    refine wpAny_pyNext_list_item st p.isList (x := u) (by simpa using hu) fun h' st' sb => ?_
    have I1 : Inv X pins σ H { s with heap := h' } := I.turned (t' := s.toks) (fun b o hb e => (sb.2 b hb).trans e) f0 f1 f3 f4 f5
    obtain ⟨o, e, c, d⟩ := id st'
    exact ⟨u, rfl, go_of (s := { s with heap := h' }) e c d (by decide) ⟨x, H, I1, ru, ⟨rfl, fun ys hy => by rw [I.list_inj hy hq]; exact hx⟩, st', fun b hb => (hf b hb).1⟩⟩
  done := by
    intro X hP hw hK hc i pins s σ H E I hf st hg
    subst hP hw hK
    obtain ⟨xs, hq, hx⟩ := hg
    obtain ⟨its, rv, p, hz⟩ := I.list hq
    obtain ⟨f0, f1, f2, f3, f4, f5⟩ := hf it (by simp)
    have hl := rv.length
    exact wpAny_pyNext_list_end (I.ok.hd hc) st p.isList (by simp; omega) fun h' eb => ⟨rfl, I.turned (t' := s.toks) (fun b o hb e => eb b o hb e) f0 f1 f3 f4 f5⟩
  self := fun _ _ _ _ _ st h => wpAny_pyIter_listiter st h
theorem turn_tuple {P : Program} {w : World} {K : PySem.W.Frag} {tg : Expr} (a it : Addr) : Turn P w K tg (Itt K a) [it] it (fun i h => h.IsTupleIter it a i) where
  mem := by simp
  obj := fun i h st b hb => by
    have e : b = it := by simpa using hb
    subst e
    obtain ⟨o, e, c, d⟩ := st
    exact ⟨o, e, fun v z => by rw [d] at z; cases z⟩
  keep := fun i h h' st k => st.at fun o e => k it (by simp) o e
  item := by
    intro X hP hw hK hc i pins s σ H E I hf st hg
    subst hP hw hK
    obtain ⟨xs, x, hq, hx⟩ := hg
    obtain ⟨its, rv, p, hz⟩ := I.tuple hq
    obtain ⟨u, hu, ru⟩ := rv.get hx
    obtain ⟨f0, f1, f2, f3, f4, f5⟩ := hf it (by simp)
    refine wpAny_pyNext_tuple_item st (show s.heap.IsTuple a its.toArray from p) (x := u) (by simpa using hu) fun h' st' sb => ?_
    have I1 : Inv X pins σ H { s with heap := h' } := I.turned (t' := s.toks) (fun b o hb e => (sb.2 b hb).trans e) f0 f1 f3 f4 f5
    obtain ⟨o, e, c, d⟩ := id st'
    exact ⟨u, rfl, go_of (s := { s with heap := h' }) e c d (by decide) ⟨x, H, I1, ru, ⟨rfl, fun ys hy => by rw [I.tuple_inj hy hq]; exact hx⟩, st', fun b hb => (hf b hb).1⟩⟩
  done := by
    intro X hP hw hK hc i pins s σ H E I hf st hg
    subst hP hw hK
    obtain ⟨xs, hq, hx⟩ := hg
    obtain ⟨its, rv, p, hz⟩ := I.tuple hq
    obtain ⟨f0, f1, f2, f3, f4, f5⟩ := hf it (by simp)
    have hl := rv.length
    exact wpAny_pyNext_tuple_end (I.ok.hd hc) st (show s.heap.IsTuple a its.toArray from p) (by simp; omega) fun h' eb => ⟨rfl, I.turned (t' := s.toks) (fun b o hb e => eb b o hb e) f0 f1 f3 f4 f5⟩
  self := fun _ _ _ _ _ st h => wpAny_pyIter_tupleiter st h
theorem turn_range {P : Program} {w : World} {K : PySem.W.Frag} {tg : Expr} (it : Addr) (lo : Int) (n : Nat) : Turn P w K tg (Itr lo n) [it] it (fun i h => IsRangeIter h it (lo + (i : Nat) * 1) ((n : Int) - (i : Nat)) 1) where
  mem := by simp
  obj := fun i h st b hb => by
    have e : b = it := by simpa using hb
    subst e
    exact ⟨_, st, fun v z => by
      have z' : Data.fields _ = Data.cell v := z
      cases z'⟩
  keep := fun i h h' st k => k it (by simp) _ st
  item := by
    intro X hP hw hK hc i pins s σ H E I hf st hg
    subst hP hw hK
    obtain ⟨f0, f1, f2, f3, f4, f5⟩ := hf it (by simp)
    have W := Walks.range (prog := X.prog) (w := X.w) (I.ok.hd hc) it lo 1 n
    refine W.item i s _ _ hg st fun v h' tk hv st' kk => ?_
    obtain ⟨t, rfl⟩ := hv
    have I1 : Inv X pins σ H { s with heap := h', toks := tk } := I.turned (fun b o hb e => kk b o (by simpa using hb) e) f0 f1 f3 f4 f5
    refine ⟨_, rfl, go_of (s := { s with heap := h', toks := tk }) (n := "range_iterator") st' rfl rfl (by decide) ⟨.int (lo + i), H, I1, ⟨t, ?_⟩, ⟨rfl, rfl⟩, st', fun b hb => (hf b hb).1⟩⟩
    rw [Int.mul_one]
  done := by
    intro X hP hw hK hc i pins s σ H E I hf st hg
    subst hP hw hK
    obtain ⟨f0, f1, f2, f3, f4, f5⟩ := hf it (by simp)
    exact wpAny_pyNext_range_end (I.ok.hd hc) st (by have : n ≤ i := hg; omega) fun h' eb => ⟨rfl, I.turned (t' := s.toks) (fun b o hb e => eb b o hb e) f0 f1 f3 f4 f5⟩
  self := fun _ _ _ _ _ st h => wpAny_pyIter_rangeiter st h
end L2

namespace L2
open PySem PySem.Spec PyProof.Rows
section
variable {X : Cx} {tg : Expr}
def iList (K : PySem.W.Frag) (tl : TE) : TI := fun σ H R => tl σ H fun x H1 => ∃ a, x = .ref a ∧ (∃ xs, SqL K H1 a xs) ∧ R (Itl K a) H1
def iTup (K : PySem.W.Frag) (tl : TE) : TI := fun σ H R => tl σ H fun x H1 => ∃ a, x = .ref a ∧ (∃ xs, SqT K H1 a xs) ∧ R (Itt K a) H1
theorem pi_list {l : Expr} {tl : TE} (hl : PE X l tl) : PI X tg l (iList X.K tl) := by
  intro pins s σ H R I h
  refine thn (hl pins s σ H _ I h) fun v s1 ⟨x, H1, I1, r1, q1⟩ => ?_
  obtain ⟨a, e, ⟨xs, hq⟩, q⟩ := q1
  subst e
  cases r1
  obtain ⟨its, rv, p, hz⟩ := I1.list hq
  refine wpAny_pyIter_list p.isList ?_
  refine ⟨s1.heap.objs.size, [s1.heap.objs.size], _, _, H1, rfl, I1.kept (t' := s1.toks) fun b o e => Heap.get?_push_of_some _ e, turn_list a _, ⟨_, Heap.get?_push_size _ rfl, rfl, rfl⟩, fun b hb => ?_, q⟩
  have e : b = s1.heap.objs.size := by simpa using hb
  subst e
  exact I1.fpOk (Nat.le_refl _) (I1.hok.fresh (Nat.le_refl _))
theorem pi_tup {l : Expr} {tl : TE} (hl : PE X l tl) : PI X tg l (iTup X.K tl) := by
  intro pins s σ H R I h
  refine thn (hl pins s σ H _ I h) fun v s1 ⟨x, H1, I1, r1, q1⟩ => ?_
  obtain ⟨a, e, ⟨xs, hq⟩, q⟩ := q1
  subst e
  cases r1
  obtain ⟨its, rv, p, hz⟩ := I1.tuple hq
  refine wpAny_pyIter_tuple (show s1.heap.IsTuple a its.toArray from p) ?_
  refine ⟨s1.heap.objs.size, [s1.heap.objs.size], _, _, H1, rfl, I1.kept (t' := s1.toks) fun b o e => Heap.get?_push_of_some _ e, turn_tuple a _, ⟨_, Heap.get?_push_size _ rfl, rfl, rfl⟩, fun b hb => ?_, q⟩
  have e : b = s1.heap.objs.size := by simpa using hb
  subst e
  exact I1.fpOk (Nat.le_refl _) (I1.hok.fresh (Nat.le_refl _))
/-- a range object just made, walked -/
theorem range_it {pins : List (Addr × Obj)} {σ : St} {H : Hp} {s : Shared} {R : It → Hp → Prop} {E : Value → Shared → Prop} {lo hi : Int} {t u v : Tok} {tk : Nat} (I : Inv X pins σ H s) (h1 : -(2 ^ 62) ≤ lo) (h2 : lo < 2 ^ 62) (h3 : -(2 ^ 62) ≤ hi) (h4 : hi < 2 ^ 62)
    (q : R (Itr lo (hi - lo).toNat) H) : wpAny (model X.prog X.w) X.A (pyIter (.ref s.heap.objs.size)) (PIE X pins σ tg R) E { s with heap := s.heap.push { cls := .type "range", data := .fields #[.int lo t, .int hi u, .int 1 v] }, toks := tk } := by
  refine wpAny_pyIter_range (IsRange.new ..) (small_one h1 h2 h3 h4) ?_
  have I1 : Inv X pins σ H { s with heap := s.heap.push { cls := .type "range", data := .fields #[.int lo t, .int hi u, .int 1 v] }, toks := tk } := I.kept fun b o e => Heap.get?_push_of_some _ e
  refine ⟨(s.heap.push { cls := .type "range", data := .fields #[.int lo t, .int hi u, .int 1 v] }).objs.size, [(s.heap.push { cls := .type "range", data := .fields #[.int lo t, .int hi u, .int 1 v] }).objs.size], _, _, H, rfl,
    I1.kept (t' := tk) fun b o e => Heap.get?_push_of_some _ e, turn_range _ lo (hi - lo).toNat, ?_, fun b hb => ?_, q⟩
  · have e1 : lo + ((0 : Nat) : Int) * 1 = lo := by simp
    have e2 : (((hi - lo).toNat : Nat) : Int) - ((0 : Nat) : Int) = Builtin.Range.rangeSize lo hi 1 := by rw [rangeSize_one]; split <;> omega
    show IsRangeIter _ _ (lo + ((0 : Nat) : Int) * 1) ((((hi - lo).toNat : Nat) : Int) - ((0 : Nat) : Int)) 1
    rw [e1, e2]
    exact Heap.get?_push_size _ rfl
  · have e : b = (s.heap.push { cls := .type "range", data := .fields #[.int lo t, .int hi u, .int 1 v] }).objs.size := by simpa using hb
    subst e
    exact I1.fpOk (Nat.le_refl _) (I1.hok.fresh (Nat.le_refl _))
def iRng1 (ta : TA) : TI := fun σ H R => ta σ H fun vs H1 => ∃ j : Int, vs = [.int j] ∧ -(2 ^ 62) ≤ j ∧ j < 2 ^ 62 ∧ R (Itr 0 j.toNat) H1
def iRng2 (ta : TA) : TI := fun σ H R => ta σ H fun vs H1 => ∃ i j : Int, vs = [.int i, .int j] ∧ (-(2 ^ 62) ≤ i ∧ i < 2 ^ 62 ∧ -(2 ^ 62) ≤ j ∧ j < 2 ^ 62) ∧ R (Itr i (j - i).toNat) H1
theorem pi_range1 {a : Expr} {ta : TA} {p pos : Pos} (hg : Gl X "range") (hm : X.mg "range" = none) (ha : PA X [a] ta) (hs : starEach [a] X.env = [(false, eval a X.env)] := by rfl) : PI X tg (.Call (.Name "range" p) [a] [] pos) (iRng1 ta) := by
  intro pins s σ H R I h
  refine Call_ (ld_blt I hg hm boot_range (PyProof.Rows.callWith_type1 (thn (ha pos pins s σ H _ I h) fun us s1 ⟨vs, H1, I1, r1, q1⟩ => ?_) hs rfl))
  obtain ⟨j, e, q1, q2, q⟩ := q1
  subst e
  cases r1 with
  | cons r rr =>
    cases rr
    obtain ⟨t, rfl⟩ := r
    exact call_range_1 (range_it I1 (by omega) (by omega) q1 q2 (by simpa using q))
theorem pi_range2 {a b : Expr} {ta : TA} {p pos : Pos} (hg : Gl X "range") (hm : X.mg "range" = none) (ha : PA X [a, b] ta) (hs : starEach [a, b] X.env = [(false, eval a X.env), (false, eval b X.env)] := by rfl) (hs2 : starEach [b] X.env = [(false, eval b X.env)] := by rfl) :
    PI X tg (.Call (.Name "range" p) [a, b] [] pos) (iRng2 ta) := by
  intro pins s σ H R I h
  refine Call_ (ld_blt I hg hm boot_range (PyProof.Rows.callWith_type1 (thn (ha pos pins s σ H _ I h) fun us s1 ⟨vs, H1, I1, r1, q1⟩ => ?_) (by rw [hs, hs2]) (by rw [hs2]; rfl)))
  obtain ⟨i, j, e, ⟨q1, q2, q3, q4⟩, q⟩ := q1
  subst e
  cases r1 with
  | cons r rr =>
    cases rr with
    | cons r' rr =>
      cases rr
      obtain ⟨t, rfl⟩ := r
      obtain ⟨t', rfl⟩ := r'
      exact call_range_2 (range_it I1 q1 q2 q3 q4 q)

/-! ### for -/
/-- W: the invariant by the turn and a measure; N: what the body is to reach -/
def tFor (wi : TI) (g : TG) (tb : TS) : TS := fun D σ H => wi σ H fun J H1 => ∃ W : Nat → Nat → St → Hp → Prop, (∃ m, W 0 m σ H1) ∧ ∀ i m σ H, W i m σ H →
  (J.stop i H ∧ D.nx σ H) ∨ (J.go i H ∧ ∃ N : St → Hp → Prop, (∀ σ' H', N σ' H' → ∃ m', m' < m ∧ W (i + 1) m' σ' H') ∧ ∀ x H', J.yld i H x H' → g x σ H' fun σ2 H2 => tb { D with nx := N, ct := N, bk := D.nx } σ2 H2)
/-- the records at fp as they stand -/
def pinsAt (fp : List Addr) (h : Heap) : List (Addr × Obj) := fp.filterMap fun b => (h.get? b).map fun o => (b, o)
theorem mem_pinsAt {fp : List Addr} {h : Heap} {b : Addr} {o : Obj} (hb : b ∈ fp) (e : h.get? b = some o) : (b, o) ∈ pinsAt fp h := List.mem_filterMap.mpr ⟨b, hb, by rw [e]; rfl⟩
theorem of_pinsAt {fp : List Addr} {h : Heap} {p : Addr × Obj} (hp : p ∈ pinsAt fp h) : p.1 ∈ fp ∧ h.get? p.1 = some p.2 := by
  obtain ⟨b, hb, e⟩ := List.mem_filterMap.mp hp
  cases q : h.get? b with
  | none => rw [q] at e; cases e
  | some o =>
    rw [q] at e
    have e' : (b, o) = p := Option.some.inj e
    subst e'
    exact ⟨hb, q⟩
theorem Inv.pinned {pins : List (Addr × Obj)} {σ : St} {H : Hp} {s : Shared} {fp : List Addr} (I : Inv X pins σ H s) (hf : ∀ b ∈ fp, FpOk X pins H b) (ho : ∀ b ∈ fp, ∃ o, s.heap.get? b = some o ∧ ∀ v, o.data ≠ .cell v) : Inv X (pins ++ pinsAt fp s.heap) σ H s :=
  I.pins_of fun p hp => (List.mem_append.mp hp).elim (fun z => I.pin p (List.mem_append_right _ z)) fun z => by
    obtain ⟨hb, e⟩ := of_pinsAt z
    obtain ⟨f0, f1, f2, _⟩ := hf p.1 hb
    obtain ⟨o, e', d⟩ := ho p.1 hb
    rw [e] at e'; cases e'
    exact ⟨e, f0, f1, f2, d⟩
theorem Inv.unpinned {pins pl : List (Addr × Obj)} {σ : St} {H : Hp} {s : Shared} (I : Inv X (pins ++ pl) σ H s) : Inv X pins σ H s := I.pins_of fun p hp => I.pin p (List.mem_append_right _ (List.mem_append_left _ hp))
theorem ps_for {iter : Expr} {body : List Stmt} {wi : TI} {g : TG} {tb : TS} {pos : Pos} (hp : PassesOwn (model X.prog X.w) X.A X.env X.xe) (hc : X.calm = true) (hi : PI X tg iter wi) (hg : PG X tg g) (hb : PSs X body tb)
    (hs : ∀ x, foldedSetIterable iter X.env x = pure x := by intro _; rfl) : PS X (.For tg iter body [] pos) (tFor wi g tb) := by
  intro pins s σ H D I h
  refine wpAny_For (thn (hi pins s σ H _ I h) fun v s1 h1 => thn h1 fun itv s2 h2 => ?_) hs
  obtain ⟨it, fp, tn, J, H2, e, I2, T, st2, f2, W, ⟨m0, w0⟩, turn⟩ := h2
  subst e
  -- what stays true of the iterator's objects through the loop
  have stat : ∀ {H' : Hp}, (∀ b ∈ fp, H' b = none) → ∀ b ∈ fp, FpOk X pins H' b := fun hn b hb => ⟨hn b hb, (f2 b hb).2⟩
  refine codeAny_forLoop_any (fun n s' => ∃ i σ' H', Inv X pins σ' H' s' ∧ tn i s'.heap ∧ (∀ b ∈ fp, H' b = none) ∧ W i n σ' H') ?_ m0 ⟨0, σ, H2, I2, st2, fun b hb => (f2 b hb).1, w0⟩
  rintro n s3 ⟨i, σ3, H3, I3, st3, fr3, w3⟩
  rcases turn i n σ3 H3 w3 with ⟨stop, qn⟩ | ⟨go, N, hN, step⟩
  · refine wpAny_passesOwn hp (thn (T.done X rfl rfl rfl hc i pins s3 σ3 H3 X.xe I3 (stat fr3) st3 stop) fun r s4 ⟨hr, I4⟩ => ?_)
    subst hr
    exact wpAny_execs_nil ⟨σ3, H3, I4, qn⟩
  · refine wpAny_passesOwn hp (thn (T.item X rfl rfl rfl hc i pins s3 σ3 H3 X.xe I3 (stat fr3) st3 go) fun r s4 ⟨u, hr, h4⟩ => ?_)
    subst hr
    refine wpAny_passesOwn hp (thn h4 fun _ s5 ⟨x, H5, I5, r5, y5, st5, fr5⟩ => ?_)
    have I5' := I5.pinned (stat fr5) (T.obj _ _ st5)
    refine wpAny_passesOwn hp (thn (hg _ s5 σ3 H5 x u _ I5' r5 (step x H5 y5)) fun _ s6 ⟨σ6, H6, I6, q6⟩ => ?_)
    refine wpAny_passesOwn hp (thn (hb _ s6 σ6 H6 _ I6 q6) fun f s7 q7 => ?_)
    have again : ∀ {σ7 : St} {H7 : Hp}, Inv X (pins ++ pinsAt fp s5.heap) σ7 H7 s7 → N σ7 H7 → ∃ m, m < n ∧ ∃ i σ' H', Inv X pins σ' H' s7 ∧ tn i s7.heap ∧ (∀ b ∈ fp, H' b = none) ∧ W i m σ' H' := fun {σ7 H7} I7 n7 => by
      obtain ⟨m', hm, w7⟩ := hN σ7 H7 n7
      refine ⟨m', hm, i + 1, σ7, H7, I7.unpinned, T.keep _ _ _ st5 fun b hb o e => (I7.pin (b, o) (List.mem_append_right _ (List.mem_append_right _ (mem_pinsAt hb e)))).1, fun b hb => ?_, w7⟩
      obtain ⟨o, e, d⟩ := T.obj _ _ st5 b hb
      exact (I7.pin (b, o) (List.mem_append_right _ (List.mem_append_right _ (mem_pinsAt hb e)))).2.1
    cases f with
    | next => obtain ⟨σ7, H7, I7, n7⟩ := q7; exact again I7 n7
    | cont => obtain ⟨σ7, H7, I7, n7⟩ := q7; exact again I7 n7
    | brk => obtain ⟨σ7, H7, I7, q7⟩ := q7; exact ⟨σ7, H7, I7.unpinned, q7⟩
    | ret v => obtain ⟨x7, σ7, H7, I7, r7, q7⟩ := q7; exact ⟨x7, σ7, H7, I7.unpinned, r7, q7⟩
end

/-! ### the forms one uses -/
/-- over a list that the body leaves as it is -/
theorem for_list {K : PySem.W.Frag} {a : Addr} {xs : List V} {g : TG} {tb : TS} {D : Ends} {σ : St} {H : Hp} (Pv : Nat → St → Hp → Prop) (h0 : Pv 0 σ H) (hl : ∀ i σ H, i ≤ xs.length → Pv i σ H → SqL K H a xs)
    (hs : ∀ i x σ H, xs[i]? = some x → Pv i σ H → g x σ H fun σ2 H2 => tb { D with nx := Pv (i + 1), ct := Pv (i + 1), bk := D.nx } σ2 H2) (hd : ∀ σ H, Pv xs.length σ H → D.nx σ H) :
    ∃ W : Nat → Nat → St → Hp → Prop, (∃ m, W 0 m σ H) ∧ ∀ i m σ H, W i m σ H →
      ((Itl K a).stop i H ∧ D.nx σ H) ∨ ((Itl K a).go i H ∧ ∃ N : St → Hp → Prop, (∀ σ' H', N σ' H' → ∃ m', m' < m ∧ W (i + 1) m' σ' H') ∧ ∀ x H', (Itl K a).yld i H x H' → g x σ H' fun σ2 H2 => tb { D with nx := N, ct := N, bk := D.nx } σ2 H2) := by
  refine ⟨fun i m σ H => m = xs.length - i ∧ i ≤ xs.length ∧ Pv i σ H, ⟨xs.length, by simp, Nat.zero_le _, h0⟩, ?_⟩
  rintro i m σ H ⟨rfl, hi, p⟩
  have q := hl i σ H hi p
  by_cases hlt : i < xs.length
  · refine .inr ⟨⟨xs, xs[i], q, by simp [hlt]⟩, Pv (i + 1), fun σ' H' p' => ⟨xs.length - (i + 1), by omega, rfl, hlt, p'⟩, fun x H' y => ?_⟩
    obtain ⟨e, y⟩ := y
    subst e
    exact hs i x σ _ (y xs q) p
  · have e : i = xs.length := by omega
    subst e
    exact .inl ⟨⟨xs, q, Nat.le_refl _⟩, hd σ H p⟩
theorem for_tup {K : PySem.W.Frag} {a : Addr} {xs : List V} {g : TG} {tb : TS} {D : Ends} {σ : St} {H : Hp} (Pv : Nat → St → Hp → Prop) (h0 : Pv 0 σ H) (hl : ∀ i σ H, i ≤ xs.length → Pv i σ H → SqT K H a xs)
    (hs : ∀ i x σ H, xs[i]? = some x → Pv i σ H → g x σ H fun σ2 H2 => tb { D with nx := Pv (i + 1), ct := Pv (i + 1), bk := D.nx } σ2 H2) (hd : ∀ σ H, Pv xs.length σ H → D.nx σ H) :
    ∃ W : Nat → Nat → St → Hp → Prop, (∃ m, W 0 m σ H) ∧ ∀ i m σ H, W i m σ H →
      ((Itt K a).stop i H ∧ D.nx σ H) ∨ ((Itt K a).go i H ∧ ∃ N : St → Hp → Prop, (∀ σ' H', N σ' H' → ∃ m', m' < m ∧ W (i + 1) m' σ' H') ∧ ∀ x H', (Itt K a).yld i H x H' → g x σ H' fun σ2 H2 => tb { D with nx := N, ct := N, bk := D.nx } σ2 H2) := by
  refine ⟨fun i m σ H => m = xs.length - i ∧ i ≤ xs.length ∧ Pv i σ H, ⟨xs.length, by simp, Nat.zero_le _, h0⟩, ?_⟩
  rintro i m σ H ⟨rfl, hi, p⟩
  have q := hl i σ H hi p
  by_cases hlt : i < xs.length
  · refine .inr ⟨⟨xs, xs[i], q, by simp [hlt]⟩, Pv (i + 1), fun σ' H' p' => ⟨xs.length - (i + 1), by omega, rfl, hlt, p'⟩, fun x H' y => ?_⟩
    obtain ⟨e, y⟩ := y
    subst e
    exact hs i x σ _ (y xs q) p
  · have e : i = xs.length := by omega
    subst e
    exact .inl ⟨⟨xs, q, Nat.le_refl _⟩, hd σ H p⟩
theorem for_range {lo : Int} {n : Nat} {g : TG} {tb : TS} {D : Ends} {σ : St} {H : Hp} (Pv : Nat → St → Hp → Prop) (h0 : Pv 0 σ H)
    (hs : ∀ i σ H, i < n → Pv i σ H → g (.int (lo + i)) σ H fun σ2 H2 => tb { D with nx := Pv (i + 1), ct := Pv (i + 1), bk := D.nx } σ2 H2) (hd : ∀ σ H, Pv n σ H → D.nx σ H) :
    ∃ W : Nat → Nat → St → Hp → Prop, (∃ m, W 0 m σ H) ∧ ∀ i m σ H, W i m σ H →
      ((Itr lo n).stop i H ∧ D.nx σ H) ∨ ((Itr lo n).go i H ∧ ∃ N : St → Hp → Prop, (∀ σ' H', N σ' H' → ∃ m', m' < m ∧ W (i + 1) m' σ' H') ∧ ∀ x H', (Itr lo n).yld i H x H' → g x σ H' fun σ2 H2 => tb { D with nx := N, ct := N, bk := D.nx } σ2 H2) := by
  refine ⟨fun i m σ H => m = n - i ∧ i ≤ n ∧ Pv i σ H, ⟨n, by simp, Nat.zero_le _, h0⟩, ?_⟩
  rintro i m σ H ⟨rfl, hi, p⟩
  by_cases hlt : i < n
  · refine .inr ⟨hlt, Pv (i + 1), fun σ' H' p' => ⟨n - (i + 1), by omega, rfl, hlt, p'⟩, fun x H' y => ?_⟩
    obtain ⟨e, y⟩ := y
    subst e y
    exact hs i σ _ hlt p
  · have e : i = n := by omega
    subst e
    exact .inl ⟨Nat.le_refl _, hd σ H p⟩
/-- while, by a word and a measure of the state -/
theorem while_by {c : TT} {tb : TS} {D : Ends} {σ : St} {H : Hp} (Pv : St → Hp → Prop) (μ : St → Hp → Nat) (h0 : Pv σ H)
    (hs : ∀ σ H, Pv σ H → c σ H fun b H1 => if b = true then tb { D with nx := fun σ' H' => Pv σ' H' ∧ μ σ' H' < μ σ H, ct := fun σ' H' => Pv σ' H' ∧ μ σ' H' < μ σ H, bk := D.nx } σ H1 else D.nx σ H1)
    (mono : ∀ σ H Q Q', (∀ b H1, Q b H1 → Q' b H1) → c σ H Q → c σ H Q') : tWhile c tb D σ H := by
  refine ⟨fun m σ H => m = μ σ H ∧ Pv σ H, ⟨_, rfl, h0⟩, ?_⟩
  rintro m σ H ⟨rfl, p⟩
  refine mono σ H _ _ (fun b H1 q => ?_) (hs σ H p)
  cases b with
  | true => exact ⟨_, fun σ' H' ⟨p', l⟩ => ⟨_, l, rfl, p'⟩, q⟩
  | false => exact q
end L2

namespace L2
open PySem PySem.Spec PyProof.Rows

abbrev R2 := V → V → Hp → VK → Prop
/-- a two-place operation on values: f is binaryOp op, inplaceOp op or compareOp op -/
def OpR (X : Cx) (f : Value → Value → Sem Value) (r : R2) : Prop :=
  ∀ (pins : List (Addr × Obj)) (s : Shared) (σ : St) (H : Hp) (x y : V) (v u : Value) (Q : VK), Inv X pins σ H s → RelV x v → RelV y u → r x y H Q →
    wpAny (model X.prog X.w) X.A (f v u) (EP X pins σ Q) X.xe s
/-- a one-place operation -/
def UnR (X : Cx) (f : Value → Sem Value) (r : V → Hp → VK → Prop) : Prop :=
  ∀ (pins : List (Addr × Obj)) (s : Shared) (σ : St) (H : Hp) (x : V) (v : Value) (Q : VK), Inv X pins σ H s → RelV x v → r x H Q →
    wpAny (model X.prog X.w) X.A (f v) (EP X pins σ Q) X.xe s
/-- a call of a value that is known (a builtin, a type) with values -/
def CallR (X : Cx) (f : Value) (r : List V → Hp → VK → Prop) : Prop :=
  ∀ (pins : List (Addr × Obj)) (s : Shared) (σ : St) (H : Hp) (xs : List V) (us : List Value) (Q : VK), Inv X pins σ H s → Vals xs us → r xs H Q →
    wpAny (model X.prog X.w) X.A (call f us) (EP X pins σ Q) X.xe s
/-- a value's truth -/
def TruR (X : Cx) (r : V → Hp → (Bool → Hp → Prop) → Prop) : Prop :=
  ∀ (pins : List (Addr × Obj)) (s : Shared) (σ : St) (H : Hp) (x : V) (v : Value) (Q : Bool → Hp → Prop), Inv X pins σ H s → RelV x v → r x H Q →
    wpAny (model X.prog X.w) X.A (truthy v) (TP X pins σ Q) X.xe s

def tOp (r : R2) (ta tb : TE) : TE := fun σ H Q => ta σ H fun x H1 => tb σ H1 fun y H2 => r x y H2 Q
def tUn (r : V → Hp → VK → Prop) (ta : TE) : TE := fun σ H Q => ta σ H fun x H1 => r x H1 Q
/-- ints in, under C, and a value out -/
def rI (C : Int → Int → Prop) (g : Int → Int → V) : R2 := fun x y H Q => ∃ i j, x = .int i ∧ y = .int j ∧ C i j ∧ Q (g i j) H
def rI0 (g : Int → Int → V) : R2 := fun x y H Q => ∃ i j, x = .int i ∧ y = .int j ∧ Q (g i j) H
def rU (g : Int → V) : V → Hp → VK → Prop := fun x H Q => ∃ i, x = .int i ∧ Q (g i) H

section
variable {X : Cx} {a b c : Expr} {ta tb tc : TE} {pos : Pos}

theorem binT (ha : PE X a ta) (hb : PE X b tb) {pins : List (Addr × Obj)} {s : Shared} {σ : St} {H : Hp} {R : V → V → Hp → Prop} (I : Inv X pins σ H s)
    (h : ta σ H fun x H1 => tb σ H1 fun y H2 => R x y H2) {Q : Value → Shared → Prop} {f : Value → Value → Sem Value}
    (hf : ∀ v u s2 x y H2, Inv X pins σ H2 s2 → RelV x v → RelV y u → R x y H2 → wpAny (model X.prog X.w) X.A (f v u) Q X.xe s2) :
    wpAny (model X.prog X.w) X.A (eval a X.env) (fun v s₁ => wpAny (model X.prog X.w) X.A (eval b X.env) (fun u s₂ => wpAny (model X.prog X.w) X.A (f v u) Q X.xe s₂) X.xe s₁) X.xe s := by
  refine thn (ha pins s σ H _ I h) fun v s1 ⟨x, H1, I1, r1, q1⟩ => ?_
  refine thn (hb pins s1 σ H1 _ I1 q1) fun u s2 ⟨y, H2, I2, r2, q2⟩ => ?_
  exact hf v u s2 x y H2 I2 r1 r2 q2

theorem pe_op {op : Operator} {r : R2} (ho : OpR X (binaryOp op) r) (ha : PE X a ta) (hb : PE X b tb) : PE X (.BinOp a op b pos) (tOp r ta tb) := by
  intro pins s σ H Q I h
  exact wpAny_BinOp (binT ha hb I h fun v u s2 x y H2 I2 rx ry q => ho pins s2 σ H2 x y v u Q I2 rx ry q)
theorem pe_un {op : UnaryOp} {r : V → Hp → VK → Prop} (ho : UnR X (unaryOp op) r) (ha : PE X a ta) : PE X (.UnaryOp op a pos) (tUn r ta) := by
  intro pins s σ H Q I h
  exact UnaryOp_ (thn (ha pins s σ H _ I h) fun v s1 ⟨x, H1, I1, r1, q1⟩ => ho pins s1 σ H1 x v Q I1 r1 q1)
/-- a op= e at a name: the name's slot i -/
theorem augR {op : Operator} {r : R2} (ho : OpR X (inplaceOp op) r) {pins : List (Addr × Obj)} {s : Shared} {σ : St} {H : Hp} {x y : V} {v u : Value} {Q : VK} (I : Inv X pins σ H s)
    (rx : RelV x v) (ry : RelV y u) (q : r x y H Q) : wpAny (model X.prog X.w) X.A (inplaceOp op v u) (EP X pins σ Q) X.xe s := ho pins s σ H x y v u Q I rx ry q

/-! ### ints -/
theorem opI {f : Value → Value → Sem Value} {C : Int → Int → Prop} {g : Int → Int → Int}
    (rule : ∀ (i j : Int) (t u : Tok) (s : Shared) (Q : Value → Shared → Prop) (E : Value → Shared → Prop), C i j → Q (.int (g i j) s.toks) { s with toks := s.toks + 1 } → wpAny (model X.prog X.w) X.A (f (.int i t) (.int j u)) Q E s) :
    OpR X f (rI C fun i j => .int (g i j)) := by
  intro pins s σ H x y v u Q I rx ry h
  obtain ⟨i, j, rfl, rfl, hc, q⟩ := h
  obtain ⟨t, rfl⟩ := rx
  obtain ⟨t', rfl⟩ := ry
  exact rule i j t t' s _ _ hc ⟨.int (g i j), H, I.tok _, ⟨_, rfl⟩, q⟩
theorem opI0 {f : Value → Value → Sem Value} {g : Int → Int → Int}
    (rule : ∀ (i j : Int) (t u : Tok) (s : Shared) (Q : Value → Shared → Prop) (E : Value → Shared → Prop), Q (.int (g i j) s.toks) { s with toks := s.toks + 1 } → wpAny (model X.prog X.w) X.A (f (.int i t) (.int j u)) Q E s) :
    OpR X f (rI0 fun i j => .int (g i j)) := by
  intro pins s σ H x y v u Q I rx ry h
  obtain ⟨i, j, rfl, rfl, q⟩ := h
  obtain ⟨t, rfl⟩ := rx
  obtain ⟨t', rfl⟩ := ry
  exact rule i j t t' s _ _ ⟨.int (g i j), H, I.tok _, ⟨_, rfl⟩, q⟩
theorem opB0 {f : Value → Value → Sem Value} {g : Int → Int → Bool}
    (rule : ∀ (i j : Int) (t u : Tok) (s : Shared) (Q : Value → Shared → Prop) (E : Value → Shared → Prop), Q (.bool (g i j)) s → wpAny (model X.prog X.w) X.A (f (.int i t) (.int j u)) Q E s) :
    OpR X f (rI0 fun i j => .bl (g i j)) := by
  intro pins s σ H x y v u Q I rx ry h
  obtain ⟨i, j, rfl, rfl, q⟩ := h
  obtain ⟨t, rfl⟩ := rx
  obtain ⟨t', rfl⟩ := ry
  exact rule i j t t' s _ _ ⟨.bl (g i j), H, I, rfl, q⟩

def CDiv (i j : Int) : Prop := 0 < j ∧ j < 1073741824
def CDivN (i j : Int) : Prop := j ≠ 0 ∧ j.natAbs < 1073741824
def CPow (i j : Int) : Prop := 0 ≤ j ∧ j ≤ 1000000 ∧ i.natAbs < 2 ^ 64
def CMul (i j : Int) : Prop := (-(2 ^ 64) < i ∧ i < 2 ^ 64) ∨ (-(2 ^ 64) < j ∧ j < 2 ^ 64)
theorem CMul.ok {i j : Int} (h : CMul i j) : IntMulOk i j := by
  rcases h with ⟨h1, h2⟩ | ⟨h1, h2⟩
  · exact .of_left (intBits_le_64 h1 h2)
  · exact .of_right (intBits_le_64 h1 h2)
theorem two_pow_nn (k : Nat) : (0 : Int) ≤ 2 ^ k := by
  rw [two_pow_cast]
  exact Int.natCast_nonneg _

theorem op_add : OpR X (binaryOp .Add) (rI0 fun i j => .int (i + j)) := opI0 fun _ _ _ _ _ _ _ q => add_int q
theorem op_sub : OpR X (binaryOp .Sub) (rI0 fun i j => .int (i - j)) := opI0 fun _ _ _ _ _ _ _ q => sub_int q
theorem op_mul : OpR X (binaryOp .Mult) (rI CMul fun i j => .int (i * j)) := opI fun _ _ _ _ _ _ _ hc q => mul_int q hc.ok
/-- // by a positive divisor -/
theorem op_fdiv : OpR X (binaryOp .FloorDiv) (rI CDiv fun i j => .int (i / j)) := opI fun i j _ _ _ _ _ hc q => by
  have h1 : (0 : Int) < j := hc.1
  have h2 : j < 1073741824 := hc.2
  exact floordiv_int (by omega) (by rw [Int.fdiv_eq_ediv_of_nonneg i (by omega)]; exact q) (.inl (PyProof.noPylong_small (by omega)))
theorem op_fdivN : OpR X (binaryOp .FloorDiv) (rI CDivN fun i j => .int (i.fdiv j)) := opI fun _ _ _ _ _ _ _ hc q => floordiv_int hc.1 q (.inl (PyProof.noPylong_small hc.2))
/-- % by a positive divisor of any size -/
theorem op_mod : OpR X (binaryOp .Mod) (rI (fun _ j => 0 < j) fun i j => .int (i % j)) := opI fun i j _ _ _ _ _ hc q => by
  have h1 : (0 : Int) < j := hc
  exact mod_int' (by omega) (by rw [Int.fmod_eq_emod_of_nonneg i (by omega)]; exact q)
theorem op_modN : OpR X (binaryOp .Mod) (rI (fun _ j => j ≠ 0) fun i j => .int (i.fmod j)) := opI fun _ _ _ _ _ _ _ hc q => mod_int' hc q
theorem op_pow : OpR X (binaryOp .Pow) (rI CPow fun i j => .int (i ^ j.toNat)) := opI fun _ _ _ _ _ _ _ hc q => pow_int_small hc.1 hc.2.1 hc.2.2 q
theorem op_shl : OpR X (binaryOp .LShift) (rI CPow fun i j => .int (i * 2 ^ j.toNat)) := opI fun _ _ _ _ _ _ _ hc q => lshift_int_small hc.1 hc.2.1 hc.2.2 q
theorem op_shr : OpR X (binaryOp .RShift) (rI (fun _ j => 0 ≤ j) fun i j => .int (i / 2 ^ j.toNat)) := opI fun i j _ _ _ _ _ hc q =>
  rshift_int hc (by rw [Int.fdiv_eq_ediv_of_nonneg i (two_pow_nn _)]; exact q)
theorem op_and : OpR X (binaryOp .BitAnd) (rI0 fun i j => .int (Builtin.bitAnd i j)) := opI0 fun _ _ _ _ _ _ _ q => and_int q
theorem op_or : OpR X (binaryOp .BitOr) (rI0 fun i j => .int (Builtin.bitOr i j)) := opI0 fun _ _ _ _ _ _ _ q => or_int q
theorem op_xor : OpR X (binaryOp .BitXor) (rI0 fun i j => .int (Builtin.bitXor i j)) := opI0 fun _ _ _ _ _ _ _ q => xor_int q

theorem iop_add : OpR X (inplaceOp .Add) (rI0 fun i j => .int (i + j)) := opI0 fun _ _ _ _ _ _ _ q => iadd_int q
theorem iop_sub : OpR X (inplaceOp .Sub) (rI0 fun i j => .int (i - j)) := opI0 fun _ _ _ _ _ _ _ q => isub_int q
theorem iop_mul : OpR X (inplaceOp .Mult) (rI CMul fun i j => .int (i * j)) := opI fun _ _ _ _ _ _ _ hc q => imul_int q hc.ok
theorem iop_fdiv : OpR X (inplaceOp .FloorDiv) (rI CDiv fun i j => .int (i / j)) := opI fun i j _ _ _ _ _ hc q => by
  have h1 : (0 : Int) < j := hc.1
  have h2 : j < 1073741824 := hc.2
  exact ifloordiv_int (by omega) (by rw [Int.fdiv_eq_ediv_of_nonneg i (by omega)]; exact q) (.inl (PyProof.noPylong_small (by omega)))
theorem iop_mod : OpR X (inplaceOp .Mod) (rI (fun _ j => 0 < j) fun i j => .int (i % j)) := opI fun i j _ _ _ _ _ hc q => by
  have h1 : (0 : Int) < j := hc
  exact imod_int (by omega) (by rw [Int.fmod_eq_emod_of_nonneg i (by omega)]; exact q)
theorem iop_shl : OpR X (inplaceOp .LShift) (rI CPow fun i j => .int (i * 2 ^ j.toNat)) := opI fun _ _ _ _ _ _ _ hc q => ilshift_int_small hc.1 hc.2.1 hc.2.2 q
theorem iop_shr : OpR X (inplaceOp .RShift) (rI (fun _ j => 0 ≤ j) fun i j => .int (i / 2 ^ j.toNat)) := opI fun i j _ _ _ _ _ hc q =>
  irshift_int hc (by rw [Int.fdiv_eq_ediv_of_nonneg i (two_pow_nn _)]; exact q)
theorem iop_and : OpR X (inplaceOp .BitAnd) (rI0 fun i j => .int (Builtin.bitAnd i j)) := opI0 fun _ _ _ _ _ _ _ q => iand_int q
theorem iop_or : OpR X (inplaceOp .BitOr) (rI0 fun i j => .int (Builtin.bitOr i j)) := opI0 fun _ _ _ _ _ _ _ q => ior_int q
theorem iop_xor : OpR X (inplaceOp .BitXor) (rI0 fun i j => .int (Builtin.bitXor i j)) := opI0 fun _ _ _ _ _ _ _ q => ixor_int q

theorem unI {f : Value → Sem Value} {g : Int → Int}
    (rule : ∀ (i : Int) (t : Tok) (s : Shared) (Q : Value → Shared → Prop) (E : Value → Shared → Prop), Q (.int (g i) s.toks) { s with toks := s.toks + 1 } → wpAny (model X.prog X.w) X.A (f (.int i t)) Q E s) :
    UnR X f (rU fun i => .int (g i)) := by
  intro pins s σ H x v Q I rx h
  obtain ⟨i, rfl, q⟩ := h
  obtain ⟨t, rfl⟩ := rx
  exact rule i t s _ _ ⟨.int (g i), H, I.tok _, ⟨_, rfl⟩, q⟩
theorem un_neg : UnR X (unaryOp .USub) (rU fun i => .int (-i)) := unI fun _ _ _ _ _ q => neg_int q
theorem un_inv : UnR X (unaryOp .Invert) (rU fun i => .int (Builtin.bitNot i)) := unI fun _ _ _ _ _ q => invert_int q

/-! ### bools among ints: n += (a < b) -/
theorem op_add_ib : OpR X (binaryOp .Add) (fun x y H Q => ∃ i k, x = .int i ∧ y = .bl k ∧ Q (.int (i + b2i k)) H) := by
  intro pins s σ H x y v u Q I rx ry h
  obtain ⟨i, k, rfl, rfl, q⟩ := h
  obtain ⟨t, rfl⟩ := rx
  cases ry
  exact add_int_bool ⟨.int (i + b2i k), H, I.tok _, ⟨_, rfl⟩, q⟩
end

/-! ### comparisons -/
/-- the scalars that == tells apart as data does -/
def scal : V → V → Bool
  | .non, .non => true | .non, .int _ => true | .int _, .non => true | .non, .bl _ => true | .bl _, .non => true | .non, .str _ => true | .str _, .non => true
  | .int _, .int _ => true | .bl _, .bl _ => true | .str _, .str _ => true | .byt _, .byt _ => true
  | .int _, .str _ => true | .str _, .int _ => true | .bl _, .str _ => true | .str _, .bl _ => true
  | _, _ => false
def rEq : R2 := fun x y H Q => scal x y = true ∧ Q (.bl (decide (x = y))) H
def rNe : R2 := fun x y H Q => scal x y = true ∧ Q (.bl (!decide (x = y))) H

theorem dec_int {i j : Int} : decide (V.int i = V.int j) = (i == j) := by
  rw [Bool.eq_iff_iff]
  simp
theorem dec_bl {i j : Bool} : decide (V.bl i = V.bl j) = (i == j) := by
  rw [Bool.eq_iff_iff]
  simp
theorem dec_str {i j : Str} : decide (V.str i = V.str j) = (i == j) := by
  rw [Bool.eq_iff_iff]
  simp
theorem dec_byt {i j : Array UInt8} : decide (V.byt i = V.byt j) = (i.toList == j.toList) := by
  rw [Bool.eq_iff_iff]
  cases i
  cases j
  simp

section
variable {X : Cx} {a b c : Expr} {ta tb tc : TE} {pos : Pos}
theorem fin_bl {pins : List (Addr × Obj)} {σ : St} {H : Hp} {s : Shared} {Q : VK} {k k' : Bool} (I : Inv X pins σ H s) (q : Q (.bl k) H) (e : k = k') : EP X pins σ Q (.bool k') s := by
  subst e
  exact ⟨.bl k, H, I, rfl, q⟩
theorem op_eq : OpR X (compareOp .Eq) rEq := by
  intro pins s σ H x y v u Q I rx ry h
  obtain ⟨hs, q⟩ := h
  cases x with
  | non =>
    cases rx
    cases y with
    | non => cases ry; exact PySem.EqNone.eq_none_none (fin_bl I q (by simp))
    | bl j => cases ry; exact PySem.EqNone.eq_none_bool (fin_bl I q (by simp))
    | int j => obtain ⟨t', rfl⟩ := ry; exact PySem.EqNone.eq_none_int (fin_bl I q (by simp))
    | str j => obtain ⟨t', rfl⟩ := ry; exact PySem.EqNone.eq_none_str (fin_bl I q (by simp))
    | _ => exact absurd (show false = true from hs) Bool.false_ne_true
  | bl i =>
    cases rx
    cases y with
    | non => cases ry; exact PySem.EqNone.eq_bool_none (fin_bl I q (by simp))
    | bl j => cases ry; exact eq_bool (fin_bl I q dec_bl)
    | str j => obtain ⟨t', rfl⟩ := ry; exact PySem.EqMixed.eq_bool_str (fin_bl I q (by simp))
    | _ => exact absurd (show false = true from hs) Bool.false_ne_true
  | int i =>
    obtain ⟨t, rfl⟩ := rx
    cases y with
    | non => cases ry; exact PySem.EqNone.eq_int_none (fin_bl I q (by simp))
    | int j => obtain ⟨t', rfl⟩ := ry; exact eq_int (fin_bl I q dec_int)
    | str j => obtain ⟨t', rfl⟩ := ry; exact PySem.EqMixed.eq_int_str (fin_bl I q (by simp))
    | _ => exact absurd (show false = true from hs) Bool.false_ne_true
  | str i =>
    obtain ⟨t, rfl⟩ := rx
    cases y with
    | non => cases ry; exact PySem.EqNone.eq_str_none (fin_bl I q (by simp))
    | bl j => cases ry; exact PySem.EqMixed.eq_str_bool (fin_bl I q (by simp))
    | int j => obtain ⟨t', rfl⟩ := ry; exact PySem.EqMixed.eq_str_int (fin_bl I q (by simp))
    | str j => obtain ⟨t', rfl⟩ := ry; exact eq_str (fin_bl I q dec_str)
    | _ => exact absurd (show false = true from hs) Bool.false_ne_true
  | byt i =>
    obtain ⟨t, rfl⟩ := rx
    cases y with
    | byt j => obtain ⟨t', rfl⟩ := ry; exact PySem.W.eq_bytes (fin_bl I q dec_byt)
    | _ => exact absurd (show false = true from hs) Bool.false_ne_true
  | _ => cases y <;> exact absurd (show false = true from hs) Bool.false_ne_true
theorem op_ne : OpR X (compareOp .NotEq) rNe := by
  intro pins s σ H x y v u Q I rx ry h
  obtain ⟨hs, q⟩ := h
  cases x with
  | non =>
    cases rx
    cases y with
    | non => cases ry; exact PySem.EqNone.ne_none_none (fin_bl I q (by simp))
    | bl j => cases ry; exact PySem.EqNone.ne_none_bool (fin_bl I q (by simp))
    | int j => obtain ⟨t', rfl⟩ := ry; exact PySem.EqNone.ne_none_int (fin_bl I q (by simp))
    | str j => obtain ⟨t', rfl⟩ := ry; exact PySem.EqNone.ne_none_str (fin_bl I q (by simp))
    | _ => exact absurd (show false = true from hs) Bool.false_ne_true
  | bl i =>
    cases rx
    cases y with
    | non => cases ry; exact PySem.EqNone.ne_bool_none (fin_bl I q (by simp))
    | bl j => cases ry; exact ne_bool (fin_bl I q (congrArg not dec_bl))
    | str j => obtain ⟨t', rfl⟩ := ry; exact PySem.EqMixed.ne_bool_str (fin_bl I q (by simp))
    | _ => exact absurd (show false = true from hs) Bool.false_ne_true
  | int i =>
    obtain ⟨t, rfl⟩ := rx
    cases y with
    | non => cases ry; exact PySem.EqNone.ne_int_none (fin_bl I q (by simp))
    | int j => obtain ⟨t', rfl⟩ := ry; exact ne_int (fin_bl I q (congrArg not dec_int))
    | str j => obtain ⟨t', rfl⟩ := ry; exact PySem.EqMixed.ne_int_str (fin_bl I q (by simp))
    | _ => exact absurd (show false = true from hs) Bool.false_ne_true
  | str i =>
    obtain ⟨t, rfl⟩ := rx
    cases y with
    | non => cases ry; exact PySem.EqNone.ne_str_none (fin_bl I q (by simp))
    | bl j => cases ry; exact PySem.EqMixed.ne_str_bool (fin_bl I q (by simp))
    | int j => obtain ⟨t', rfl⟩ := ry; exact PySem.EqMixed.ne_str_int (fin_bl I q (by simp))
    | str j => obtain ⟨t', rfl⟩ := ry; exact ne_str (fin_bl I q (congrArg not dec_str))
    | _ => exact absurd (show false = true from hs) Bool.false_ne_true
  | byt i =>
    obtain ⟨t, rfl⟩ := rx
    cases y with
    | byt j => obtain ⟨t', rfl⟩ := ry; exact PySem.W.ne_bytes (fin_bl I q (congrArg not dec_byt))
    | _ => exact absurd (show false = true from hs) Bool.false_ne_true
  | _ => cases y <;> exact absurd (show false = true from hs) Bool.false_ne_true

theorem op_lt : OpR X (compareOp .Lt) (rI0 fun i j => .bl (decide (i < j))) := opB0 fun _ _ _ _ _ _ _ q => lt_int q
theorem op_le : OpR X (compareOp .LtE) (rI0 fun i j => .bl (decide (i ≤ j))) := opB0 fun _ _ _ _ _ _ _ q => le_int q
theorem op_gt : OpR X (compareOp .Gt) (rI0 fun i j => .bl (decide (j < i))) := opB0 fun _ _ _ _ _ _ _ q => gt_int q
theorem op_ge : OpR X (compareOp .GtE) (rI0 fun i j => .bl (decide (j ≤ i))) := opB0 fun _ _ _ _ _ _ _ q => ge_int q
theorem op_lt_str : OpR X (compareOp .Lt) (fun x y H Q => ∃ i j, x = .str i ∧ y = .str j ∧ Q (.bl (decide (i.cps.toList < j.cps.toList))) H) := by
  intro pins s σ H x y v u Q I rx ry h
  obtain ⟨i, j, rfl, rfl, q⟩ := h
  obtain ⟨t, rfl⟩ := rx
  obtain ⟨t', rfl⟩ := ry
  exact lt_str (fin_bl I q rfl)
/-- the one string within the other -/
theorem op_in_str : OpR X (compareOp .In) (fun x y H Q => ∃ i j, x = .str i ∧ y = .str j ∧ Q (.bl (!(Builtin.Str.occurrences j i 0 j.length 1).isEmpty)) H) := by
  intro pins s σ H x y v u Q I rx ry h
  obtain ⟨i, j, rfl, rfl, q⟩ := h
  obtain ⟨t, rfl⟩ := rx
  obtain ⟨t', rfl⟩ := ry
  exact in_str (fin_bl I q rfl)

/-- is None, is not None: the right side a value none -/
theorem op_isN : OpR X (compareOp .Is) (fun x y H Q => y = .non ∧ Q (.bl (decide (x = .non))) H) := by
  intro pins s σ H x y v u Q I rx ry h
  obtain ⟨rfl, q⟩ := h
  cases ry
  refine is_none_gen (fin_bl I q ?_)
  cases x <;> first
    | (cases rx; rfl)
    | (obtain ⟨t, rfl⟩ := rx; rfl)
theorem op_notN : OpR X (compareOp .IsNot) (fun x y H Q => y = .non ∧ Q (.bl (!decide (x = .non))) H) := by
  intro pins s σ H x y v u Q I rx ry h
  obtain ⟨rfl, q⟩ := h
  cases ry
  refine isnot_none_gen (fin_bl I q ?_)
  cases x <;> first
    | (cases rx; rfl)
    | (obtain ⟨t, rfl⟩ := rx; rfl)

theorem op_notin_str : OpR X (compareOp .NotIn) (fun x y H Q => ∃ i j, x = .str i ∧ y = .str j ∧ Q (.bl (!(!(Builtin.Str.occurrences j i 0 j.length 1).isEmpty))) H) := by
  intro pins s σ H x y v u Q I rx ry h
  obtain ⟨i, j, rfl, rfl, q⟩ := h
  obtain ⟨t, rfl⟩ := rx
  obtain ⟨t', rfl⟩ := ry
  exact notIn_str (fin_bl I q rfl)
/-- is, is not of two objects that are tracked lists or instances -/
def isObj : HO → Bool
  | .lst _ => true
  | .ins _ _ _ => true
  | _ => false
theorem obj_there {pins : List (Addr × Obj)} {s : Shared} {σ : St} {H : Hp} {a : Addr} {o : HO} (I : Inv X pins σ H s) (h : H a = some o) (p : isObj o = true) : ∃ ob, s.heap.get? a = some ob ∧ ob.cls ≠ .type "tuple" := by
  cases o with
  | lst xs =>
    obtain ⟨_, its, n, _, e⟩ : xs.length ≤ sizeLine ∧ ∃ (its : List Value) (n : Nat), Vals xs its ∧ s.heap.get? a = some { cls := .type "list", data := .seq its.toArray n } := I.hok a _ h
    exact ⟨_, e, (by show Value.type "list" ≠ .type "tuple"; decide +kernel)⟩
  | ins C dx fs =>
    have x := I.hok a _ h
    obtain ⟨_, _, _, e, _⟩ := x
    exact ⟨_, e, (by show Value.ref C ≠ .type "tuple"; exact fun z => by cases z)⟩
  | _ => exact absurd (show false = true from p) Bool.false_ne_true
theorem op_is_ref : OpR X (compareOp .Is) (fun x y H Q => ∃ a b oa ob, x = .ref a ∧ y = .ref b ∧ H a = some oa ∧ isObj oa = true ∧ H b = some ob ∧ isObj ob = true ∧ Q (.bl (decide (a = b))) H) := by
  intro pins s σ H x y v u Q I rx ry h
  obtain ⟨a, b, oa, ob, rfl, rfl, ha, pa, hb, pb, q⟩ := h
  cases rx
  cases ry
  obtain ⟨o1, e1, n1⟩ := obj_there I ha pa
  obtain ⟨o2, e2, _⟩ := obj_there I hb pb
  by_cases z : a = b
  · subst z
    exact wpAny_is_ref_self (fin_bl I q (by simp))
  · exact wpAny_is_ref_other z e1 e2 n1 (fin_bl I q (by simp [z]))
theorem op_isnot_ref : OpR X (compareOp .IsNot) (fun x y H Q => ∃ a b oa ob, x = .ref a ∧ y = .ref b ∧ H a = some oa ∧ isObj oa = true ∧ H b = some ob ∧ isObj ob = true ∧ Q (.bl (!decide (a = b))) H) := by
  intro pins s σ H x y v u Q I rx ry h
  obtain ⟨a, b, oa, ob, rfl, rfl, ha, pa, hb, pb, q⟩ := h
  cases rx
  cases ry
  obtain ⟨o1, e1, n1⟩ := obj_there I ha pa
  obtain ⟨o2, e2, _⟩ := obj_there I hb pb
  by_cases z : a = b
  · subst z
    exact wpAny_isNot_ref_self (fin_bl I q (by simp))
  · exact wpAny_isNot_ref_other z e1 e2 n1 (fin_bl I q (by simp [z]))

/-- two rules for one operation: by cases -/
theorem OpR.or {f : Value → Value → Sem Value} {r r' : R2} (h : OpR X f r) (h' : OpR X f r') : OpR X f (fun x y H Q => r x y H Q ∨ r' x y H Q) := by
  intro pins s σ H x y v u Q I rx ry q
  rcases q with q | q
  · exact h pins s σ H x y v u Q I rx ry q
  · exact h' pins s σ H x y v u Q I rx ry q

theorem nomark (b : Expr) {op : CmpOp} (h : op ≠ .In := by decide) (h2 : op ≠ .NotIn := by decide) : behindInMarks op b = false := by
  have e1 : (op == CmpOp.In) = false := by cases op <;> first | rfl | exact absurd rfl h
  have e2 : (op == CmpOp.NotIn) = false := by cases op <;> first | rfl | exact absurd rfl h2
  cases b <;> simp [behindInMarks, e1, e2]
/-- a comparison as a value; hm: nomark b, or (for in, not in) by with_unfolding_all rfl -/
theorem pe_cmpR {op : CmpOp} {r : R2} (ho : OpR X (compareOp op) r) (ha : PE X a ta) (hb : PE X b tb) (hm : behindInMarks op b = false) : PE X (.Compare a [op] [b] pos) (tOp r ta tb) := by
  intro pins s σ H Q I h
  exact wpAny_Compare1 (binT ha hb I h fun v u s2 x y H2 I2 rx ry q => ho pins s2 σ H2 x y v u Q I2 rx ry q) hm
/-- a reading of a value as a test -/
def tTest (t : TE) : TT := fun σ H Q => t σ H fun x H' => ∃ k, x = .bl k ∧ Q k H'
theorem pt_cmpR {op : CmpOp} {r : R2} (ho : OpR X (compareOp op) r) (ha : PE X a ta) (hb : PE X b tb) (hm : behindInMarks op b = false) : PT X (.Compare a [op] [b] pos) (tTest (tOp r ta tb)) := by
  intro pins s σ H Q I h
  refine wpAny_isTrue_Compare1 (thn (ha pins s σ H _ I h) fun v s1 ⟨x, H1, I1, r1, q1⟩ => thn (hb pins s1 σ H1 _ I1 q1) fun u s2 ⟨y, H2, I2, r2, q2⟩ =>
    thn (ho pins s2 σ H2 x y v u _ I2 r1 r2 q2) fun c s3 ⟨z, H3, I3, r3, k, e, q3⟩ => ?_) hm
  subst e
  cases r3
  exact wpAny_truthy_bool ⟨H3, I3, q3⟩
/-- a op1 b op2 c -/
def tChain (r r' : R2) (ta tb tc : TE) : TE := fun σ H Q => ta σ H fun x H1 => tb σ H1 fun y H2 => r x y H2 fun z H3 => ∃ k, z = .bl k ∧
  (if k = true then tc σ H3 fun w' H4 => r' y w' H4 Q else Q (.bl false) H3)
theorem pe_chain {op op' : CmpOp} {r r' : R2} (ho : OpR X (compareOp op) r) (ho' : OpR X (compareOp op') r') (ha : PE X a ta) (hb : PE X b tb) (hc : PE X c tc)
    (hm : lastMarks [op, op'] [b, c] = false := by with_unfolding_all rfl) : PE X (.Compare a [op, op'] [b, c] pos) (tChain r r' ta tb tc) := by
  intro pins s σ H Q I h
  refine Compare_chain (thn (ha pins s σ H _ I h) fun v s1 ⟨x, H1, I1, r1, q1⟩ => chain_link (thn (hb pins s1 σ H1 _ I1 q1) fun u s2 ⟨y, H2, I2, r2, q2⟩ =>
    thn (ho pins s2 σ H2 x y v u _ I2 r1 r2 q2) fun d s3 ⟨z, H3, I3, r3, k, e, q3⟩ => ?_)) hm
  subst e
  cases r3
  refine wpAny_truthy_bool ?_
  cases k with
  | false => exact ite_ff ⟨.bl false, H3, I3, rfl, q3⟩
  | true => exact ite_tt (chain_last (thn (hc pins s3 σ H3 _ I3 q3) fun w' s4 ⟨z', H4, I4, r4, q4⟩ => ho' pins s4 σ H4 y z' u w' Q I4 r2 r4 q4))
theorem pt_chain {op op' : CmpOp} {r r' : R2} (ho : OpR X (compareOp op) r) (ho' : OpR X (compareOp op') r') (ha : PE X a ta) (hb : PE X b tb) (hc : PE X c tc)
    (hm : lastMarks [op, op'] [b, c] = false := by with_unfolding_all rfl) : PT X (.Compare a [op, op'] [b, c] pos) (tTest (tChain r r' ta tb tc)) := by
  intro pins s σ H Q I h
  refine isTrue_chain (thn (ha pins s σ H _ I h) fun v s1 ⟨x, H1, I1, r1, q1⟩ => test_link (thn (hb pins s1 σ H1 _ I1 q1) fun u s2 ⟨y, H2, I2, r2, q2⟩ =>
    thn (ho pins s2 σ H2 x y v u _ I2 r1 r2 q2) fun d s3 ⟨z, H3, I3, r3, k, e, q3⟩ => ?_)) hm
  subst e
  cases r3
  refine wpAny_truthy_bool ?_
  cases k with
  | false =>
    obtain ⟨k', e', q'⟩ := q3
    cases e'
    exact ite_ff ⟨H3, I3, q'⟩
  | true =>
    refine ite_tt (test_last (thn (hc pins s3 σ H3 _ I3 q3) fun w' s4 ⟨z', H4, I4, r4, q4⟩ => thn (ho' pins s4 σ H4 y z' u w' _ I4 r2 r4 q4) fun d' s5 ⟨z2, H5, I5, r5, k2, e2, q5⟩ => ?_))
    subst e2
    cases r5
    exact wpAny_truthy_bool ⟨H5, I5, q5⟩

/-! ### truth -/
/-- a value's truth by the abstract heap -/
def TruV (K : PySem.W.Frag) (x : V) (H : Hp) (k : Bool) : Prop :=
  match x with
  | .non => k = false
  | .bl b => k = b
  | .int i => k = (i != 0)
  | .str y => y.length ≤ sizeLine ∧ k = ((y.length : Int) != 0)
  | .byt y => y.size ≤ sizeLine ∧ k = ((y.size : Int) != 0)
  | .ref p => (∃ xs, SqL K H p xs ∧ k = !xs.isEmpty) ∨ (∃ xs, SqT K H p xs ∧ k = !xs.isEmpty) ∨ ∃ kvs, H p = some (.dK kvs) ∧ k = !kvs.isEmpty
  | _ => False
theorem isEmpty_kv {κ : Type} {kvs : List (κ × V)} {vs : List (κ × Value)} (r : KV kvs vs) : (!vs.isEmpty) = !kvs.isEmpty := by
  cases r <;> rfl
theorem isEmpty_of {xs : List V} {its : List Value} (r : Vals xs its) : (!its.toArray.isEmpty) = !xs.isEmpty := by
  cases r <;> simp
theorem line63 : (sizeLine : Nat) < 2 ^ 63 := by rw [sizeLine_eq]; decide
theorem tru_ok : TruR X (fun x H Q => ∃ k, TruV X.K x H k ∧ Q k H) := by
  intro pins s σ H x v Q I rx h
  obtain ⟨k, e, q⟩ := h
  have hl := line63
  have hs : sizeLine = 16777216 := sizeLine_eq
  cases x with
  | non =>
    cases rx
    have e' : k = false := e
    subst e'
    exact truthy_none ⟨H, I, q⟩
  | bl b =>
    cases rx
    have e' : k = b := e
    subst e'
    exact wpAny_truthy_bool ⟨H, I, q⟩
  | int i =>
    obtain ⟨t, rfl⟩ := rx
    have e' : k = (i != 0) := e
    subst e'
    exact PySem.P.truthy_int ⟨H, I, q⟩
  | str y =>
    obtain ⟨t, rfl⟩ := rx
    obtain ⟨hy, e'⟩ : y.length ≤ sizeLine ∧ k = ((y.length : Int) != 0) := e
    subst e'
    exact PySem.P.truthy_str (by omega) ⟨H, I.tok _, q⟩
  | byt y =>
    obtain ⟨t, rfl⟩ := rx
    obtain ⟨hy, e'⟩ : y.size ≤ sizeLine ∧ k = ((y.size : Int) != 0) := e
    subst e'
    exact PySem.W.truthy_bytes (by omega) ⟨H, I.tok _, q⟩
  | ref p =>
    cases rx
    have e' : (∃ xs, SqL X.K H p xs ∧ k = !xs.isEmpty) ∨ (∃ xs, SqT X.K H p xs ∧ k = !xs.isEmpty) ∨ ∃ kvs, H p = some (.dK kvs) ∧ k = !kvs.isEmpty := e
    rcases e' with ⟨xs, hx, e'⟩ | ⟨xs, hx, e'⟩ | ⟨kvs, hx, e'⟩
    · subst e'
      obtain ⟨its, r, pl, hz⟩ := I.list hx
      have hlen := r.length
      exact wpAny_truthy_list pl.isList (by simp only [List.size_toArray]; omega) ⟨H, I.tok _, by rw [isEmpty_of r]; exact q⟩
    · subst e'
      obtain ⟨its, r, pl, hz⟩ := I.tuple hx
      have hlen := r.length
      exact truthy_tuple pl (by simp only [List.size_toArray]; omega) ⟨H, I.tok _, by rw [isEmpty_of r]; exact q⟩
    · subst e'
      obtain ⟨hz, hS, vs, r, m⟩ : kvs.length ≤ sizeLine ∧ (p == sysModules) = false ∧ ∃ vs, KV kvs vs ∧ s.heap.DictOf (mixKind X.prog X.w) p vs := I.hok p _ hx
      have hlen : kvs.length = vs.length := Paired.length r
      exact wpAny_truthy_dict hS m (by omega) ⟨H, I.tok _, by rw [isEmpty_kv r]; exact q⟩
  | _ => exact (show False from e).elim
/-- any expression whose test is its value's truth (a name, a call, a subscript, a field ..: he by fun _ => rfl) -/
theorem pt_truth (ha : PE X a ta) (he : ∀ whole, isTrue a X.env whole = (do let v ← whole; standAt a.pos; holding [v] (truthy v))) :
    PT X a (fun σ H Q => ta σ H fun x H' => ∃ k, TruV X.K x H' k ∧ Q k H') := by
  intro pins s σ H Q I h
  exact isTrue_plain (thn (ha pins s σ H _ I h) fun v s1 ⟨x, H1, I1, r1, q1⟩ => tru_ok pins s1 σ H1 x v Q I1 r1 q1) (he _)

/-! ### strs and bytes -/
theorem pe_byt {x : List UInt8} {k : Nat} : PE X (.Constant (.bytes x) k pos) (fun _ H Q => Q (.byt x.toArray) H) := fun _ _ _ H _ I h => PySem.W.Constant_bytes ⟨.byt x.toArray, H, I.tok _, ⟨_, rfl⟩, h⟩
theorem op_add_str : OpR X (binaryOp .Add) (fun x y H Q => ∃ i j, x = .str i ∧ y = .str j ∧ i.length + j.length ≤ sizeLine ∧ Q (.str (i ++ j)) H) := by
  intro pins s σ H x y v u Q I rx ry h
  obtain ⟨i, j, rfl, rfl, hz, q⟩ := h
  obtain ⟨t, rfl⟩ := rx
  obtain ⟨t', rfl⟩ := ry
  exact add_str (fun t' tk => ⟨.str (i ++ j), H, I.tok _, ⟨_, rfl⟩, q⟩) hz
theorem iop_add_str : OpR X (inplaceOp .Add) (fun x y H Q => ∃ i j, x = .str i ∧ y = .str j ∧ i.length + j.length ≤ sizeLine ∧ Q (.str (i ++ j)) H) := by
  intro pins s σ H x y v u Q I rx ry h
  obtain ⟨i, j, rfl, rfl, hz, q⟩ := h
  obtain ⟨t, rfl⟩ := rx
  obtain ⟨t', rfl⟩ := ry
  exact iadd_str (fun t' tk => ⟨.str (i ++ j), H, I.tok _, ⟨_, rfl⟩, q⟩) hz
theorem op_add_byt : OpR X (binaryOp .Add) (fun x y H Q => ∃ i j, x = .byt i ∧ y = .byt j ∧ i.size + j.size ≤ 16777216 ∧ Q (.byt (i ++ j)) H) := by
  intro pins s σ H x y v u Q I rx ry h
  obtain ⟨i, j, rfl, rfl, hz, q⟩ := h
  obtain ⟨t, rfl⟩ := rx
  obtain ⟨t', rfl⟩ := ry
  exact PySem.W.KBy.add_bytes hz (fun t' tk => ⟨.byt (i ++ j), H, I.tok _, ⟨_, rfl⟩, q⟩)

def PlainIxT (b : Expr) : Prop := ∀ o i, subscripted b false o i = operate [o, i] (getItem o i)
/-- s[i], 0 ≤ i < len -/
theorem pe_item_str (ha : PE X a ta) (hb : PE X b tb) (hs : PlainIxT b) :
    PE X (.Subscript a b pos) (tOp (fun x y H Q => ∃ z i c, x = .str z ∧ y = .int i ∧ 0 ≤ i ∧ i < 2 ^ 63 ∧ i < z.length ∧ z.cps[i.toNat]? = some c ∧ Q (.str ⟨#[c]⟩) H) ta tb) := by
  intro pins s σ H Q I h
  refine Subscript_ (binT ha hb I h fun v u s2 x y H2 I2 rx ry q => ?_)
  obtain ⟨z, i, c, rfl, rfl, h0, h63, h1, hc, q⟩ := q
  obtain ⟨t, rfl⟩ := rx
  obtain ⟨t', rfl⟩ := ry
  have e : seqIndex? i z.length = some i.toNat := PySem.StrLaws.seqIndex_nonneg h0 h1
  exact tail_any (typeIs_str s2 z t) slot_str_getitem.lookup (getItem_str (c := c) (by
    have e1 : decide (i < -(2 ^ 63 : Int)) = false := decide_eq_false (by omega)
    have e2 : decide (i ≥ 2 ^ 63) = false := decide_eq_false (by omega)
    rw [e1, e2] <;> rfl) (by rw [e]; exact hc) ⟨.str ⟨#[c]⟩, H2, I2.tok _, ⟨_, rfl⟩, q⟩) (hs _ _)
/-- b[i], 0 ≤ i < len -/
theorem pe_item_byt (ha : PE X a ta) (hb : PE X b tb) (hs : PlainIxT b) :
    PE X (.Subscript a b pos) (tOp (fun x y H Q => ∃ (z : List UInt8) (i : Int), x = .byt z.toArray ∧ y = .int i ∧ z.length ≤ sizeLine ∧ 0 ≤ i ∧ i < z.length ∧ Q (.int ((z.getD i.toNat 0).toNat : Nat)) H) ta tb) := by
  intro pins s σ H Q I h
  refine Subscript_ (binT ha hb I h fun v u s2 x y H2 I2 rx ry q => ?_)
  obtain ⟨z, i, rfl, rfl, hz, h0, h1, q⟩ := q
  obtain ⟨t, rfl⟩ := rx
  obtain ⟨t', rfl⟩ := ry
  have hl : sizeLine = 16777216 := sizeLine_eq
  exact tail_any (PySem.W.typeIs_bytes s2 z.toArray t) PySem.W.FB.slot_bytes_getitem.lookup (PySem.W.getItem_bytes (by omega) h0 h1 ⟨.int ((z.getD i.toNat 0).toNat : Nat), H2, I2.tok _, ⟨_, rfl⟩, q⟩) (hs _ _)

/-! ### scalar builtins, by CallR -/
theorem vals1 {x : V} {us : List Value} (r : Vals [x] us) : ∃ u, us = [u] ∧ RelV x u := by
  cases r with
  | cons r1 r2 => cases r2; exact ⟨_, rfl, r1⟩
theorem vals2 {x y : V} {us : List Value} (r : Vals [x, y] us) : ∃ u w', us = [u, w'] ∧ RelV x u ∧ RelV y w' := by
  cases r with
  | cons r1 r2 =>
    cases r2 with
    | cons r3 r4 => cases r4; exact ⟨_, _, rfl, r1, r3⟩
theorem call_abs : CallR X (.builtin "abs") (fun xs H Q => ∃ i, xs = [.int i] ∧ Q (.int (if i < 0 then -i else i)) H) := by
  intro pins s σ H xs us Q I r h
  obtain ⟨i, rfl, q⟩ := h
  obtain ⟨u, rfl, t, rfl⟩ := vals1 r
  exact call_abs_int fun u tk => ⟨.int (if i < 0 then -i else i), H, I.tok _, ⟨_, rfl⟩, q⟩
theorem call_max2 (hc : X.calm = true) : CallR X (.builtin "max") (fun xs H Q => ∃ i j, xs = [.int i, .int j] ∧ Q (.int (if j > i then j else i)) H) := by
  intro pins s σ H xs us Q I r h
  obtain ⟨i, j, rfl, q⟩ := h
  obtain ⟨u, w', rfl, ⟨t, rfl⟩, ⟨t', rfl⟩⟩ := vals2 r
  refine max_two_ints (I.ok.hd hc) fun h' tk k => ⟨_, H, I.kept k, ?_, q⟩
  by_cases hj : j > i
  · rw [if_pos hj, if_pos hj]; exact ⟨_, rfl⟩
  · rw [if_neg hj, if_neg hj]; exact ⟨_, rfl⟩
theorem call_min2 (hc : X.calm = true) : CallR X (.builtin "min") (fun xs H Q => ∃ i j, xs = [.int i, .int j] ∧ Q (.int (if j < i then j else i)) H) := by
  intro pins s σ H xs us Q I r h
  obtain ⟨i, j, rfl, q⟩ := h
  obtain ⟨u, w', rfl, ⟨t, rfl⟩, ⟨t', rfl⟩⟩ := vals2 r
  refine min_two_ints (I.ok.hd hc) fun h' tk k => ⟨_, H, I.kept k, ?_, q⟩
  by_cases hj : j < i
  · rw [if_pos hj, if_pos hj]; exact ⟨_, rfl⟩
  · rw [if_neg hj, if_neg hj]; exact ⟨_, rfl⟩
theorem call_int1 : CallR X (.type "int") (fun xs H Q => (∃ i, xs = [.int i] ∧ Q (.int i) H) ∨ ∃ k, xs = [.bl k] ∧ Q (.int (if k then 1 else 0)) H) := by
  intro pins s σ H xs us Q I r h
  rcases h with ⟨i, rfl, q⟩ | ⟨k, rfl, q⟩
  · obtain ⟨u, rfl, t, rfl⟩ := vals1 r
    exact call_int_int ⟨.int i, H, I, ⟨_, rfl⟩, q⟩
  · obtain ⟨u, rfl, r1⟩ := vals1 r
    cases r1
    exact call_int_bool ⟨.int (if k then 1 else 0), H, I.tok _, ⟨_, rfl⟩, q⟩
theorem call_bool1 : CallR X (.type "bool") (fun xs H Q => (∃ i, xs = [.int i] ∧ Q (.bl (i != 0)) H) ∨ ∃ k, xs = [.bl k] ∧ Q (.bl k) H) := by
  intro pins s σ H xs us Q I r h
  rcases h with ⟨i, rfl, q⟩ | ⟨k, rfl, q⟩
  · obtain ⟨u, rfl, t, rfl⟩ := vals1 r
    exact call_bool_int ⟨.bl (i != 0), H, I, rfl, q⟩
  · obtain ⟨u, rfl, r1⟩ := vals1 r
    cases r1
    exact call_bool_bool ⟨.bl k, H, I, rfl, q⟩
theorem call_str_int : CallR X (.type "str") (fun xs H Q => ∃ i, xs = [.int i] ∧ i.natAbs.log2 < 1920 ∧ Q (.str (toString i)) H) := by
  intro pins s σ H xs us Q I r h
  obtain ⟨i, rfl, hz, q⟩ := h
  obtain ⟨u, rfl, t, rfl⟩ := vals1 r
  exact PySem.P.str_of_int hz ⟨.str _, H, I.tok _, ⟨_, rfl⟩, q⟩
theorem call_ord : CallR X (.builtin "ord") (fun xs H Q => ∃ x, xs = [.str x] ∧ x.length = 1 ∧ Q (.int (x.cps.getD 0 0 : Nat)) H) := by
  intro pins s σ H xs us Q I r h
  obtain ⟨x, rfl, hz, q⟩ := h
  obtain ⟨u, rfl, t, rfl⟩ := vals1 r
  exact ord_of_one hz ⟨.int _, H, I.tok _, ⟨_, rfl⟩, q⟩
theorem call_chr : CallR X (.builtin "chr") (fun xs H Q => ∃ i, xs = [.int i] ∧ 0 ≤ i ∧ i ≤ 1114111 ∧ Q (.str ⟨#[i.toNat]⟩) H) := by
  intro pins s σ H xs us Q I r h
  obtain ⟨i, rfl, h0, h1, q⟩ := h
  obtain ⟨u, rfl, t, rfl⟩ := vals1 r
  exact chr_of_range h0 h1 ⟨.str _, H, I.tok _, ⟨_, rfl⟩, q⟩
/-- len of a str, a bytes, a list, a tuple -/
def LenV (K : PySem.W.Frag) (x : V) (H : Hp) (n : Nat) : Prop :=
  match x with
  | .str y => y.length ≤ sizeLine ∧ n = y.length
  | .byt y => y.size ≤ sizeLine ∧ n = y.size
  | .ref p => (∃ xs, SqL K H p xs ∧ n = xs.length) ∨ ∃ xs, SqT K H p xs ∧ n = xs.length
  | _ => False
theorem call_len : CallR X (.builtin "len") (fun xs H Q => ∃ x n, xs = [x] ∧ LenV X.K x H n ∧ Q (.int n) H) := by
  intro pins s σ H xs us Q I r h
  obtain ⟨x, n, rfl, e, q⟩ := h
  obtain ⟨u, rfl, rx⟩ := vals1 r
  have hl := line63
  have hs : sizeLine = 16777216 := sizeLine_eq
  cases x with
  | str y =>
    obtain ⟨t, rfl⟩ := rx
    obtain ⟨hy, e'⟩ : y.length ≤ sizeLine ∧ n = y.length := e
    subst e'
    exact len_str (by omega) ⟨.int _, H, I.tok _, ⟨_, rfl⟩, q⟩
  | byt y =>
    obtain ⟨t, rfl⟩ := rx
    obtain ⟨hy, e'⟩ : y.size ≤ sizeLine ∧ n = y.size := e
    subst e'
    exact PySem.W.len_bytes (by omega) ⟨.int _, H, I.tok _, ⟨_, rfl⟩, q⟩
  | ref p =>
    cases rx
    have e' : (∃ xs, SqL X.K H p xs ∧ n = xs.length) ∨ ∃ xs, SqT X.K H p xs ∧ n = xs.length := e
    rcases e' with ⟨xs, hx, e'⟩ | ⟨xs, hx, e'⟩
    · subst e'
      obtain ⟨its, r', pl, hz⟩ := I.list hx
      have hlen := r'.length
      exact Calls.call_len_list pl.isList (by simp only [List.size_toArray]; omega) ⟨.int xs.length, H, I.tok _, ⟨_, by simp only [List.size_toArray]; rw [hlen]⟩, q⟩
    · subst e'
      obtain ⟨its, r', pl, hz⟩ := I.tuple hx
      have hlen := r'.length
      exact len_tuple pl (by simp only [List.size_toArray]; omega) ⟨.int xs.length, H, I.tok _, ⟨_, by simp only [List.size_toArray]; rw [hlen]⟩, q⟩
  | _ => exact (show False from e).elim
/-- divmod: a new tuple -/
theorem call_divmod : CallR X (.builtin "divmod") (fun xs H Q => ∃ i j, xs = [.int i, .int j] ∧ CDiv i j ∧ ∀ p, H p = none → Q (.ref p) (upd H p (.tup [.int (i / j), .int (i % j)]))) := by
  intro pins s σ H xs us Q I r h
  obtain ⟨i, j, rfl, ⟨h1, h2⟩, q⟩ := h
  obtain ⟨u, w', rfl, ⟨t, rfl⟩, ⟨t', rfl⟩⟩ := vals2 r
  refine divmod_int (by omega) ?_ (.inl (PyProof.noPylong_small (by omega)))
  rw [Int.fdiv_eq_ediv_of_nonneg i (by omega), Int.fmod_eq_emod_of_nonneg i (by omega)]
  have hn : H s.heap.objs.size = none := I.hok.fresh (Nat.le_refl _)
  refine ⟨.ref s.heap.objs.size, _, ?_, rfl, q _ hn⟩
  refine I.laid (fun b o e => Heap.get?_push_of_some _ e) (Nat.le_refl _) ⟨by simp only [List.length_cons, List.length_nil]; rw [sizeLine_eq]; decide, [.int (i / j) s.toks, .int (i % j) (s.toks + 1)], .cons ⟨_, rfl⟩ (.cons ⟨_, rfl⟩ .nil), ?_⟩
  exact ⟨_, Heap.get?_push_size s.heap rfl, rfl, 0, rfl⟩
end
end L2

namespace L2
open PySem PySem.Spec PyProof.Rows

/-! ### an instance, its attributes a map -/
structure ObjM (h : Heap) (x dx C : Addr) (mA : Str → Option Value) : Prop where
  obj : h.get? x = some (PySem.W.instObj C dx)
  ns : h.Ns1 dx mA
  ne : dx ≠ x

theorem lookIn_ns {h : Heap} {dx : Addr} {mA : Str → Option Value} (n : h.Ns1 dx mA) : ∃ od, h.get? dx = some od ∧ ∀ name, PySem.W.lookIn name od = some (mA name) := by
  obtain ⟨o, es, ep, ho, hd, hk, _, hm⟩ := n
  refine ⟨o, ho, fun name => ?_⟩
  have e := hm name
  unfold nsFind findBy at e
  rw [← Array.find?_toList] at e
  unfold PySem.W.lookIn
  rw [hd]
  dsimp only
  split
  · rename_i y q
    rw [q] at e
    exact congrArg some e
  · rename_i q
    rw [q] at e
    have a : es.toList.any (·.refKey) = false := by
      rw [List.any_eq_false]
      intro y hy
      obtain ⟨z, t, hkey⟩ := hk y (Array.mem_toList_iff.mp hy)
      simp [DictEntry.refKey, hkey]
    have a' : ¬ es.toList.any (·.refKey) = true := by rw [a]; exact Bool.false_ne_true
    rw [if_neg a']
    exact congrArg some e

theorem ObjM.look {h : Heap} {x dx C : Addr} {mA : Str → Option Value} (I : ObjM h x dx C mA) : ∃ od, PySem.W.InstAt h x (PySem.W.instObj C dx) C (some od) ∧ ∀ name, PySem.W.lookIn name od = some (mA name) :=
  let ⟨od, ho, hl⟩ := lookIn_ns I.ns
  ⟨od, ⟨I.obj, rfl, rfl, ho⟩, hl⟩

section
variable {prog : Program} {w : World} {A : Around} {E : Value → Shared → Prop} {s : Shared} {K : PySem.W.Frag} {x dx C f : Addr} {mA : Str → Option Value} {name : Str} {v : Value}

theorem get_map {expr : Bool} {Q : Value → Shared → Prop} (X : K.In s.heap) (I : ObjM s.heap x dx C mA) (hg : PySem.W.plainGet K C name = true) (hh : PySem.W.hasDictIn K C = true)
    (ha : PySem.W.findIn K (.ref C) name = some none) (hv : mA name = some v) (hv' : PySem.W.handedIn v = true) (h : Q v { s with toks := s.toks + 1 }) :
    wpAny (model prog w) A (getAttr (.ref x) name expr) Q E s := by
  obtain ⟨od, J, hl⟩ := I.look
  exact PySem.W.get_value X J (PySem.W.plainGet_of hg).1 (PySem.W.findObj_own hh ha rfl (by rw [hl, hv])) hv' h

theorem get_const {expr : Bool} {a : Value} {Q : Value → Shared → Prop} (X : K.In s.heap) (I : ObjM s.heap x dx C mA) (hg : PySem.W.plainGet K C name = true) (hh : PySem.W.hasDictIn K C = true)
    (ha : PySem.W.findIn K (.ref C) name = some (some a)) (hn : PySem.W.specialIn K a "__get__" = some none) (hc : PySem.W.copiedNames.contains name = false) (hv : mA name = none) (hv' : PySem.W.handedIn a = true)
    (h : Q a { s with toks := s.toks + 1 }) : wpAny (model prog w) A (getAttr (.ref x) name expr) Q E s := by
  obtain ⟨od, J, hl⟩ := I.look
  exact PySem.W.get_value X J (PySem.W.plainGet_of hg).1 (PySem.W.findObj_cls hh ha hn hv' hc (by rw [hl, hv])) hv' h

theorem get_meth {pl : Sem Bool} {Q : Value × List Value → Shared → Prop} (X : K.In s.heap) (I : ObjM s.heap x dx C mA) (hg : PySem.W.plainGet K C name = true)
    (hf : PySem.W.findIn K (.ref C) name = some (some (.ref f))) (ht : PySem.W.isFn K (.ref f) = true) (hv : mA name = none) (h : Q (.ref f, [.ref x]) s) :
    wpAny (model prog w) A (getMethod (.ref x) name pl) Q E s := by
  obtain ⟨od, J, hl⟩ := I.look
  exact PySem.W.method_fn X J (PySem.W.plainGet_of hg).1 (PySem.W.plainGet_of hg).2 hf (beq_iff_eq.mp ht) (by show (PySem.W.lookIn name od).map (·.isSome) = some false; rw [hl, hv]; rfl) h

theorem set_map {ns : List Str} {Q : Unit → Shared → Prop} (X : K.In s.heap) (I : ObjM s.heap x dx C mA)
    (hs : PySem.W.findIn K (.ref C) "__setattr__" = some (some (.builtin "object.__setattr__"))) (hp : PySem.W.plainOver K C = true) (ht : PySem.W.takerIn K C name = some none) (hh : PySem.W.hasDictIn K C = true)
    (hw : PySem.Within mA ns) (hsz : ns.length ≤ sizeLine)
    (h : ∀ h', ObjM h' x dx C (fun y => if y = name then some v else mA y) → Heap.SameBut dx s.heap h' → Q () { s with heap := h', toks := s.toks + 2 }) :
    wpAny (model prog w) A (setAttr (.ref x) name v) Q E s := by
  obtain ⟨od, J, hl⟩ := I.look
  refine PySem.W.set_plain X J hs (PySem.W.osa_open (s := { s with toks := s.toks + 1 }) (r := none) X J hp ht fun b => ?_)
  obtain ⟨cd, hc, hd'⟩ := PySem.W.any_some hh
  have hx : s.heap.get? x = some ⟨.ref C, some dx, .plain, #[]⟩ := I.obj
  refine wpAny_bind (wpAny_pure (wpAny_bind (wpAny_bind (wpAny_loadPart hx (wpAny_bind (PySem.W.Looks.here (s := { s with toks := s.toks + 1 }) (PySem.W.looks_clsIn X hc) ?_))))))
  rw [hd']
  refine wpAny_pure (a := some dx) (wpAny_bind (wpAny_pure (wpAny_bind ?_)))
  refine wpAny_nsSet1 (s := { s with toks := s.toks + 1 }) I.ns fun h' hn2 hs2 => ?_
  obtain ⟨oD, esD, epD, hoD, hdD, hcD⟩ := hn2.count (PySem.Within.cons name v hw)
  refine wpAny_bind (wpAny_lookBehind hoD (by rw [hdD]; exact pastItsLine_dict (Nat.le_trans hcD (by rw [List.length_cons]; omega))) ?_)
  exact wpAny_pure (h _ ⟨(hs2.2 _ (Ne.symm I.ne)).trans I.obj, hn2, I.ne⟩ hs2)

/-- C(..): the dict at the heap's end, the instance behind it; then its __init__ -/
theorem make_map {R : Result → Shared → Prop} {vs : List Value} {kw : List (Str × Value)} (X : K.In s.heap) (hm : PySem.W.makesIn K C = true)
    (hi : PySem.W.findIn K (.ref C) "__init__" = some (some (.ref f))) (hf : PySem.W.typeIn K (.ref f) = some (.type "function"))
    (h : codeAny (model prog w) (A.under (.builtin "type.__call__" ⟨.ref C :: vs, kw⟩)) (.call (.ref f) ⟨.ref (s.heap.objs.size + 1) :: vs, kw⟩) (PySem.W.InitBack (s.heap.objs.size + 1) R)
      { s with heap := (s.heap.push PySem.W.emptyDict).push (PySem.W.instObj C s.heap.objs.size) }) :
    codeAny (model prog w) A (.call (.ref C) ⟨vs, kw⟩) R s := by
  obtain ⟨hh, g, d, t, os⟩ := s
  exact PySem.W.make_core (PySem.W.makes_of X hm) (PySem.W.looks_findIn X hi) (fun self => PySem.W.bind_fn X self hf) (.inl rfl) h
/-- C() where there is no __init__ but object's -/
theorem make_map0 {R : Result → Shared → Prop} (X : K.In s.heap) (hm : PySem.W.makesIn K C = true)
    (hi : PySem.W.findIn K (.ref C) "__init__" = some (some (.builtin "object.__init__")))
    (hb : ∀ self, PySem.W.Looks (model prog w) s.heap (bindSpecial (.builtin "object.__init__") self) (.builtin "object.__init__", [self]))
    (h : codeAny (model prog w) (A.under (.builtin "type.__call__" ⟨[.ref C], []⟩)) (.call (.builtin "object.__init__") ⟨[.ref (s.heap.objs.size + 1)], []⟩) (PySem.W.InitBack (s.heap.objs.size + 1) R)
      { s with heap := (s.heap.push PySem.W.emptyDict).push (PySem.W.instObj C s.heap.objs.size) }) :
    codeAny (model prog w) A (.call (.ref C) ⟨[], []⟩) R s := by
  obtain ⟨hh, g, d, t, os⟩ := s
  exact PySem.W.make_core (PySem.W.makes_of X hm) (PySem.W.looks_findIn X hi) hb (.inr ⟨rfl, rfl⟩) h
end

/-! ### the attributes as a list of pairs -/
def putF (f : Str) (v : V) : List (Str × V) → List (Str × V)
  | [] => [(f, v)]
  | (g, x) :: r => if g = f then (g, v) :: r else (g, x) :: putF f v r
theorem lookup_putF (f g : Str) (v : V) : ∀ fs : List (Str × V), (putF f v fs).lookup g = if g = f then some v else fs.lookup g
  | [] => by
    show List.lookup g [(f, v)] = _
    by_cases h : g = f
    · have hb : (g == f) = true := beq_iff_eq.mpr h
      simp only [List.lookup, hb, if_pos h]
    · have hb : (g == f) = false := beq_eq_false_iff_ne.mpr h
      simp only [List.lookup, hb, if_neg h]
  | (k, x) :: r => by
    have ih := lookup_putF f g v r
    rw [show putF f v ((k, x) :: r) = (if k = f then (k, v) :: r else (k, x) :: putF f v r) from rfl]
    by_cases hk : k = f
    · rw [if_pos hk]
      by_cases h : g = k
      · have hb : (g == k) = true := beq_iff_eq.mpr h
        simp only [List.lookup, hb, if_pos (h.trans hk)]
      · have hb : (g == k) = false := beq_eq_false_iff_ne.mpr h
        simp only [List.lookup, hb, if_neg (fun e : g = f => h (e.trans hk.symm))]
    · rw [if_neg hk]
      by_cases h : g = k
      · have hb : (g == k) = true := beq_iff_eq.mpr h
        simp only [List.lookup, hb, if_neg (fun e : g = f => hk (h.symm.trans e))]
      · have hb : (g == k) = false := beq_eq_false_iff_ne.mpr h
        simp only [List.lookup, hb]
        exact ih
theorem keys_putF (f : Str) (v : V) : ∀ fs : List (Str × V), f ∈ (putF f v fs).map (·.1) ∧ ∀ g, g ∈ fs.map (·.1) → g ∈ (putF f v fs).map (·.1)
  | [] => ⟨by simp [putF], fun g h => by simp at h⟩
  | (k, x) :: r => by
    obtain ⟨i1, i2⟩ := keys_putF f v r
    rw [show putF f v ((k, x) :: r) = (if k = f then (k, v) :: r else (k, x) :: putF f v r) from rfl]
    by_cases hk : k = f
    · rw [if_pos hk]
      subst hk
      exact ⟨by simp, fun g h => by simpa using h⟩
    · rw [if_neg hk]
      refine ⟨?_, fun g h => ?_⟩
      · rw [List.map_cons]
        exact List.mem_cons_of_mem _ i1
      · rw [List.map_cons] at h ⊢
        rcases List.mem_cons.mp h with e | e
        · exact List.mem_cons.mpr (.inl e)
        · exact List.mem_cons_of_mem _ (i2 g e)
theorem length_putF (f : Str) (v : V) : ∀ fs : List (Str × V), (putF f v fs).length ≤ fs.length + 1
  | [] => by simp [putF]
  | (k, x) :: r => by
    have ih := length_putF f v r
    rw [show putF f v ((k, x) :: r) = (if k = f then (k, v) :: r else (k, x) :: putF f v r) from rfl]
    by_cases hk : k = f
    · rw [if_pos hk, List.length_cons, List.length_cons]; omega
    · rw [if_neg hk, List.length_cons, List.length_cons]; omega

theorem RelO.some_of {v : V} {o : Option Value} (r : RelO (some v) o) : ∃ u, o = some u ∧ RelV v u := by
  cases o with
  | none => exact (show False from r).elim
  | some u => exact ⟨u, rfl, r⟩
theorem RelO.none_of {o : Option Value} (r : RelO none o) : o = none := by
  cases o with
  | none => rfl
  | some u => exact (show False from r).elim
theorem handed_of {v : V} {u : Value} (r : RelV v u) : PySem.W.handedIn u = true := by
  cases v with
  | non => cases (show u = Value.none from r); rfl
  | bl b => cases (show u = Value.bool b from r); rfl
  | int i => obtain ⟨t, e⟩ := (show ∃ t, u = Value.int i t from r); cases e; rfl
  | str x => obtain ⟨t, e⟩ := (show ∃ t, u = Value.str x t from r); cases e; rfl
  | byt b => obtain ⟨t, e⟩ := (show ∃ t, u = Value.bytes b t from r); cases e; rfl
  | flt b => obtain ⟨t, e⟩ := (show ∃ t, u = Value.float b t from r); cases e; rfl
  | ref a => cases (show u = Value.ref a from r); rfl
  | ty n => cases (show u = Value.type n from r); rfl

section
variable {P : Program} {w : World} {H H' : Hp} {h h' : Heap} {a C dx : Addr} {fs fs' : List (Str × V)}
theorem ins_get (hok : HOk P w H h) (e : H a = some (.ins C dx fs)) : ∃ mA, ObjM h a dx C mA ∧ (∀ f, RelO (fs.lookup f) (mA f)) ∧ PySem.Within mA (fs.map (·.1)) ∧ fs.length ≤ 1000 ∧ H dx = some (.own a) := by
  obtain ⟨d, z, ne, ob, mA, n, r, q⟩ := (show ObjOk P w H h a (.ins C dx fs) from hok a _ e)
  exact ⟨mA, ⟨ob, n, ne⟩, r, q, z, d⟩
end

/-! ### what of the text a class must have -/
structure Cls (K : PySem.W.Frag) (C : Addr) : Prop where
  pg : PySem.W.plainGet K C Str.empty = true
  hd : PySem.W.hasDictIn K C = true
  po : PySem.W.plainOver K C = true
  sa : PySem.W.findIn K (.ref C) "__setattr__" = some (some (.builtin "object.__setattr__"))
theorem Cls.get {K : PySem.W.Frag} {C : Addr} (c : Cls K C) (f : Str) : PySem.W.plainGet K C f = true := c.pg
/-- no class of it has the name -/
def NoAttr (K : PySem.W.Frag) (C : Addr) (f : Str) : Prop := PySem.W.findIn K (.ref C) f = some none
theorem NoAttr.taker {K : PySem.W.Frag} {C : Addr} {f : Str} (n : NoAttr K C f) : PySem.W.takerIn K C f = some none := by
  unfold PySem.W.takerIn
  rw [show PySem.W.findIn K (.ref C) f = some none from n]
  rfl
/-- a constant of the class -/
structure Con (K : PySem.W.Frag) (C : Addr) (f : Str) (v : V) (u : Value) : Prop where
  at_ : PySem.W.findIn K (.ref C) f = some (some u)
  rel : RelV v u
  get : PySem.W.specialIn K u "__get__" = some none
  cp : PySem.W.copiedNames.contains f = false
/-- a method: a plain def of the class or of one above it -/
structure Meth (K : PySem.W.Frag) (C : Addr) (m : Str) (f : Addr) : Prop where
  at_ : PySem.W.findIn K (.ref C) m = some (some (.ref f))
  fn : PySem.W.isFn K (.ref f) = true
  kp : PySem.W.keepIn K (.ref f) = true

section
variable {X : Cx} {pins : List (Addr × Obj)} {σ : St} {H : Hp} {s : Shared} {a C dx : Addr} {fs : List (Str × V)} {f : Str} {v : V} {A : Around} {E : Value → Shared → Prop}

theorem getattr_ok {b : Bool} {Q : Value → Shared → Prop} (I : Inv X pins σ H s) (e : H a = some (.ins C dx fs)) (c : Cls X.K C) (n : NoAttr X.K C f) (l : fs.lookup f = some v)
    (h : ∀ u s', Inv X pins σ H s' → RelV v u → Q u s') : wpAny (model X.prog X.w) A (getAttr (.ref a) f b) Q E s := by
  obtain ⟨mA, O, r, _, _, _⟩ := ins_get I.hok e
  obtain ⟨u, hu, ru⟩ := RelO.some_of (v := v) (o := mA f) (by rw [← l]; exact r f)
  exact get_map I.kIn O (c.get f) c.hd n hu (handed_of ru) (h u _ (I.tok _) ru)

theorem getcon_ok {b : Bool} {u : Value} {Q : Value → Shared → Prop} (I : Inv X pins σ H s) (e : H a = some (.ins C dx fs)) (c : Cls X.K C) (k : Con X.K C f v u) (l : fs.lookup f = none)
    (h : ∀ s', Inv X pins σ H s' → Q u s') : wpAny (model X.prog X.w) A (getAttr (.ref a) f b) Q E s := by
  obtain ⟨mA, O, r, _, _, _⟩ := ins_get I.hok e
  have hn : mA f = none := RelO.none_of (by rw [← l]; exact r f)
  exact get_const I.kIn O (c.get f) c.hd k.at_ k.get k.cp hn (handed_of k.rel) (h _ (I.tok _))

theorem getmeth_ok {m : Str} {g : Addr} {pl : Sem Bool} {Q : Value × List Value → Shared → Prop} (I : Inv X pins σ H s) (e : H a = some (.ins C dx fs)) (c : Cls X.K C) (k : Meth X.K C m g) (l : fs.lookup m = none)
    (h : Q (.ref g, [.ref a]) s) : wpAny (model X.prog X.w) A (getMethod (.ref a) m pl) Q E s := by
  obtain ⟨mA, O, r, _, _, _⟩ := ins_get I.hok e
  have hn : mA m = none := RelO.none_of (by rw [← l]; exact r m)
  exact get_meth I.kIn O (c.get m) k.at_ k.fn hn h

theorem setattr_ok {y : V} {u : Value} {Q : Unit → Shared → Prop} (I : Inv X pins σ H s) (e : H a = some (.ins C dx fs)) (c : Cls X.K C) (n : NoAttr X.K C f) (hl : fs.length < 1000) (ry : RelV y u)
    (h : ∀ s', Inv X pins σ (upd H a (.ins C dx (putF f y fs))) s' → Q () s') : wpAny (model X.prog X.w) A (setAttr (.ref a) f u) Q E s := by
  obtain ⟨mA, O, r, wi, _, ho⟩ := ins_get I.hok e
  have hz : (fs.map (·.1)).length ≤ sizeLine := by rw [List.length_map, sizeLine_eq]; omega
  refine set_map I.kIn O c.sa c.po n.taker c.hd wi hz fun h' O' sb => h _ ?_
  have hd : ∃ o, h'.get? dx = some o := let ⟨o, _, _, e', _⟩ := O'.ns; ⟨o, e'⟩
  refine I.write (x := a) (e := dx) (by rw [e]; exact True.intro) (.inr ho) (fun b q hb z => (sb.2 b hb).trans z) hd ?_
  refine ⟨by rw [upd_ne O.ne]; exact ho, ?_, O.ne, O'.obj, _, O'.ns, fun g => ?_, fun g hg => ?_⟩
  · have := length_putF f y fs; omega
  · show RelO ((putF f y fs).lookup g) (if g = f then some u else mA g)
    rw [lookup_putF]
    by_cases q : g = f
    · rw [if_pos q, if_pos q]; exact ry
    · rw [if_neg q, if_neg q]; exact r g
  · by_cases q : g = f
    · rw [q]; exact (keys_putF f y fs).1
    · refine (keys_putF f y fs).2 g (wi g fun z => hg ?_)
      show (if g = f then some u else mA g) = none
      rw [if_neg q]; exact z

/-- a new instance, tracked, without attributes -/
theorem Inv.made (I : Inv X pins σ H s) : Inv X pins σ (upd (upd H s.heap.objs.size (.own (s.heap.objs.size + 1))) (s.heap.objs.size + 1) (.ins C s.heap.objs.size []))
    { s with heap := (s.heap.push PySem.W.emptyDict).push (PySem.W.instObj C s.heap.objs.size) } := by
  have e1 : (s.heap.push PySem.W.emptyDict).get? s.heap.objs.size = some PySem.W.emptyDict := Heap.get?_push_size s.heap rfl
  have e2 : ((s.heap.push PySem.W.emptyDict).push (PySem.W.instObj C s.heap.objs.size)).get? (s.heap.objs.size + 1) = some (PySem.W.instObj C s.heap.objs.size) := by
    have := Heap.get?_push_size (s.heap.push PySem.W.emptyDict) (o := PySem.W.instObj C s.heap.objs.size) rfl
    rwa [Heap.size_push] at this
  have e3 : (s.heap.push PySem.W.emptyDict).Ns s.heap.objs.size (fun _ => none) := ⟨PySem.W.emptyDict, #[], _, e1, rfl, (fun e he => absurd he (by simp)), fun _ => rfl⟩
  have I1 := I.laid (a := s.heap.objs.size) (o := .own (s.heap.objs.size + 1)) (h' := s.heap.push PySem.W.emptyDict) (t' := s.toks) (fun b u q => Heap.get?_push_of_some _ q) (Nat.le_refl _) ⟨_, e1⟩
  refine I1.laid (a := s.heap.objs.size + 1) (o := .ins C s.heap.objs.size []) (t' := s.toks) (fun b u q => Heap.get?_push_of_some _ q) (Nat.le_of_eq (Heap.size_push _ _)) ?_
  have ne : s.heap.objs.size ≠ s.heap.objs.size + 1 := Nat.ne_of_lt (Nat.lt_succ_self _)
  refine ⟨by rw [upd_ne ne, upd_same], Nat.zero_le _, ne, e2, fun _ => none, (Heap.Ns1.of_empty e3).at fun o q => Heap.get?_push_of_some _ q, fun _ => True.intro, fun y hy => absurd rfl hy⟩

/-- e.f where nothing but the object is asked: through attributeBase (super) and the last hold -/
theorem attr_of {prog : Program} {w : World} {env : Env} {e : Expr} {f : Str} {pos : Pos} {s : Shared} {Q : Value → Shared → Prop} (hb : attributeBase e f env (eval e env) = eval e env)
    (h : wpAny (model prog w) A (eval e env) (fun o s₁ => wpAny (model prog w) A (getAttr o f true) Q E s₁) E s) : wpAny (model prog w) A (eval (.Attribute e f pos) env) Q E s :=
  Attribute_any_ h (by rw [arm_eval_Attribute, hb])
end

/-! ### readings and rules -/
/-- e.f, an attribute of the instance -/
def tFld (K : PySem.W.Frag) (ta : TE) (f : Str) : TE := fun σ H Q => ta σ H fun x H1 => ∃ a C dx fs v, x = .ref a ∧ H1 a = some (.ins C dx fs) ∧ Cls K C ∧ NoAttr K C f ∧ fs.lookup f = some v ∧ Q v H1
/-- e.f, a constant of the class -/
def tCon (K : PySem.W.Frag) (ta : TE) (f : Str) : TE := fun σ H Q => ta σ H fun x H1 => ∃ a C dx fs v u, x = .ref a ∧ H1 a = some (.ins C dx fs) ∧ Cls K C ∧ Con K C f v u ∧ fs.lookup f = none ∧ Q v H1
/-- e.f = value -/
def sFld (K : PySem.W.Frag) (ta tv : TE) (f : Str) : TS := fun D σ H => tv σ H fun y H1 => ta σ H1 fun x H2 => ∃ a C dx fs, x = .ref a ∧ H2 a = some (.ins C dx fs) ∧ Cls K C ∧ NoAttr K C f ∧ fs.length < 1000 ∧
  D.nx σ (upd H2 a (.ins C dx (putF f y fs)))
/-- an augmented operator on two values -/
def InOp (X : Cx) (op : Operator) (rd : V → V → Hp → VK → Prop) : Prop :=
  ∀ (pins : List (Addr × Obj)) (s : Shared) (σ : St) (H : Hp) (x y : V) (u v : Value) (Q : VK), Inv X pins σ H s → RelV x u → RelV y v → rd x y H Q → wpAny (model X.prog X.w) X.A (inplaceOp op u v) (EP X pins σ Q) X.xe s
/-- e.f op= value -/
def sFldAug (K : PySem.W.Frag) (ta tv : TE) (rd : V → V → Hp → VK → Prop) (f : Str) : TS := fun D σ H => ta σ H fun x H1 => ∃ a C dx fs v, x = .ref a ∧ H1 a = some (.ins C dx fs) ∧ Cls K C ∧ NoAttr K C f ∧ fs.lookup f = some v ∧
  tv σ H1 fun y H2 => rd v y H2 fun z H3 => ∃ dx' fs', H3 a = some (.ins C dx' fs') ∧ fs'.length < 1000 ∧ D.nx σ (upd H3 a (.ins C dx' (putF f z fs')))

section
variable {X : Cx} {o e value : Expr} {f : Str} {pos pos' tpos : Pos} {ta tv : TE}
theorem pe_fld (he : PE X e ta) (hb : attributeBase e f X.env (eval e X.env) = eval e X.env) : PE X (.Attribute e f pos) (tFld X.K ta f) := by
  intro pins s σ H Q I h
  refine attr_of hb (thn (he pins s σ H _ I h) fun u s1 ⟨x, H1, I1, rx, a, C, dx, fs, v, ex, ea, c, n, l, q⟩ => ?_)
  subst ex
  obtain rfl : u = Value.ref a := rx
  exact getattr_ok I1 ea c n l fun u' s2 I2 ru => ⟨v, H1, I2, ru, q⟩
theorem pe_con (he : PE X e ta) (hb : attributeBase e f X.env (eval e X.env) = eval e X.env) : PE X (.Attribute e f pos) (tCon X.K ta f) := by
  intro pins s σ H Q I h
  refine attr_of hb (thn (he pins s σ H _ I h) fun u s1 ⟨x, H1, I1, rx, a, C, dx, fs, v, u0, ex, ea, c, k, l, q⟩ => ?_)
  subst ex
  obtain rfl : u = Value.ref a := rx
  exact getcon_ok I1 ea c k l fun s2 I2 => ⟨v, H1, I2, k.rel, q⟩
theorem ps_fld (ha : PE X o ta) (hv : PE X value tv) (hs : swapsWith value (some (.Attribute o f pos')) pos.line X.env = pure false) : PS X (.Assign [.Attribute o f pos'] value pos) (sFld X.K ta tv f) := by
  intro pins s σ H D I h
  refine plainObj_wpAny_Assign_Attribute (thn (hv pins s σ H _ I h) fun u s1 ⟨y, H1, I1, ry, q⟩ => thn (ha pins s1 σ H1 _ I1 q) fun ov s2 ⟨x, H2, I2, rx, a, C, dx, fs, ex, ea, c, n, l, q2⟩ => ?_) hs
  subst ex
  obtain rfl : ov = Value.ref a := rx
  exact setattr_ok I2 ea c n l ry fun s3 I3 => ⟨σ, _, I3, q2⟩
theorem ps_fldaug {op : Operator} {rd : V → V → Hp → VK → Prop} (ha : PE X o ta) (hv : PE X value tv) (hop : InOp X op rd) : PS X (.AugAssign (.Attribute o f tpos) op value pos) (sFldAug X.K ta tv rd f) := by
  intro pins s σ H D I h
  refine wpAny_AugAssign_AttributeAny (thn (ha pins s σ H _ I h) fun ov s1 ⟨x, H1, I1, rx, a, C, dx, fs, v, ex, ea, c, n, l, q⟩ => ?_)
  subst ex
  obtain rfl : ov = Value.ref a := rx
  refine getattr_ok I1 ea c n l fun u s2 I2 ru => thn (hv pins s2 σ H1 _ I2 q) fun w3 s3 ⟨y, H2, I3, ry, q3⟩ => thn (hop pins s3 σ H2 v y u w3 _ I3 ru ry q3) fun w4 s4 ⟨z, H3, I4, rz, dx', fs', ea', l', q4⟩ => ?_
  exact setattr_ok I4 ea' c n l' rz fun s5 I5 => ⟨σ, _, I5, q4⟩
def rAdd : V → V → Hp → VK → Prop := fun x y H Q => ∃ i j, x = .int i ∧ y = .int j ∧ Q (.int (i + j)) H
def rSub : V → V → Hp → VK → Prop := fun x y H Q => ∃ i j, x = .int i ∧ y = .int j ∧ Q (.int (i - j)) H
theorem in_add : InOp X .Add rAdd := by
  rintro pins s σ H x y u v Q I rx ry ⟨i, j, rfl, rfl, q⟩
  obtain ⟨t, rfl⟩ := (show ∃ t, u = Value.int i t from rx)
  obtain ⟨t', rfl⟩ := (show ∃ t', v = Value.int j t' from ry)
  exact PyProof.Rows.iadd_int ⟨.int (i + j), H, I.tok _, ⟨_, rfl⟩, q⟩
theorem in_sub : InOp X .Sub rSub := by
  rintro pins s σ H x y u v Q I rx ry ⟨i, j, rfl, rfl, q⟩
  obtain ⟨t, rfl⟩ := (show ∃ t, u = Value.int i t from rx)
  obtain ⟨t', rfl⟩ := (show ∃ t', v = Value.int j t' from ry)
  exact PyProof.Rows.isub_int ⟨.int (i - j), H, I.tok _, ⟨_, rfl⟩, q⟩

/-- what is between an instance and its method: the tree of a method call -/
theorem methcall_of {pl : Sem Bool} {m : Str} {apos : Pos} {args : List Expr} {pins : List (Addr × Obj)} {s : Shared} {σ : St} {H : Hp} {Q : Value → Shared → Prop} {te : TE} (he : PE X e te) (I : Inv X pins σ H s)
    (h : te σ H fun x H1 => ∃ a C dx fs g, x = .ref a ∧ H1 a = some (.ins C dx fs) ∧ Cls X.K C ∧ Meth X.K C m g ∧ fs.lookup m = none ∧
      ∀ s1, Inv X pins σ H1 s1 → wpAny (model X.prog X.w) X.A (callWith pos (.ref g) [.ref a] (backTo pos (starEach args X.env)) (backToKw pos (keywordEach [] X.env))) Q X.xe s1)
    (ht : eval (.Call (.Attribute e m apos) args [] pos) X.env = (do
      let ov ← eval e X.env
      standAt apos.atName
      let (f, first) ← holding [ov] (getMethod ov m pl)
      callWith pos f first (backTo pos (starEach args X.env)) (backToKw pos (keywordEach [] X.env)))) :
    wpAny (model X.prog X.w) X.A (eval (.Call (.Attribute e m apos) args [] pos) X.env) Q X.xe s := by
  refine PySem.W.methodCall_KW (pl := pl) (thn (he pins s σ H _ I h) fun u s1 ⟨x, H1, I1, rx, a, C, dx, fs, g, ex, ea, c, k, l, q⟩ => ?_) ht
  subst ex
  obtain rfl : u = Value.ref a := rx
  exact getmeth_ok I1 ea c k l (q s1 I1)
end

/-! ### isinstance -/
section
variable {X : Cx} {pins : List (Addr × Obj)} {σ : St} {H : Hp} {s : Shared} {A : Around} {E : Value → Shared → Prop} {Q : Value → Shared → Prop} {c : Value} {b : Bool}
/-- the type of a value, as the fragment's deciders take it; for an instance its class -/
inductive TyOf (K : PySem.W.Frag) (H : Hp) : V → Value → Prop where
  | non : TyOf K H .non (.type "NoneType")
  | bl (x : Bool) : TyOf K H (.bl x) (.type "bool")
  | int (i : Int) : TyOf K H (.int i) (.type "int")
  | str (x : Str) : TyOf K H (.str x) (.type "str")
  | flt (x : UInt64) : TyOf K H (.flt x) (.type "float")
  | lst {a : Addr} {xs : List V} (e : H a = some (.lst xs)) : TyOf K H (.ref a) (.type "list")
  | frz {a : Addr} {o : Obj} {xs : List V} (e : H a = some (.frz o (.lst xs))) : TyOf K H (.ref a) (.type "list")
  | tup {a : Addr} {xs : List V} (e : H a = some (.tup xs)) : TyOf K H (.ref a) (.type "tuple")
  | dK {a : Addr} {kvs : List (Key × V)} (e : H a = some (.dK kvs)) : TyOf K H (.ref a) (.type "dict")
  | dT {a : Addr} {kvs : List (List Key × V)} (e : H a = some (.dT kvs)) : TyOf K H (.ref a) (.type "dict")
  | ins {a C dx : Addr} {fs : List (Str × V)} (e : H a = some (.ins C dx fs)) (cl : Cls K C) (ha : PySem.W.findIn K (.ref C) "__class__" = some (some (.builtin "object.__class__")))
      (hn : PySem.W.specialIn K (.builtin "object.__class__") "__get__" = some (some (.builtin "getset_descriptor.__get__"))) (htk : PySem.W.takesIn K (.builtin "object.__class__") = some true)
      (hm : PySem.W.mroIn K C (.type "object") = some true) : TyOf K H (.ref a) (.ref C)
/-- isinstance(x, c) for one class c, a built-in or an own one: kitOne's answer -/
theorem isinst_ok {x : V} {u t : Value} (I : Inv X pins σ H s) (rx : RelV x u) (ty : TyOf X.K H x t) (e : PySem.W.kitOne X.K t c = some b) (h : ∀ tk, Q (.bool b) { s with toks := tk }) :
    wpAny (model X.prog X.w) A (call (.builtin "isinstance") [u, c]) Q E s := by
  cases ty with
  | non => cases (show u = Value.none from rx); exact PySem.W.kia_one PySem.W.kitx_none I.kIn True.intro e (fun z => nomatch z) h
  | bl y => cases (show u = Value.bool y from rx); exact PySem.W.kia_one PySem.W.kitx_bool I.kIn True.intro e (fun z => nomatch z) h
  | int i => obtain ⟨t, q⟩ := (show ∃ t, u = Value.int i t from rx); cases q; exact PySem.W.kia_one PySem.W.kitx_int I.kIn True.intro e (fun z => nomatch z) h
  | str y => obtain ⟨t, q⟩ := (show ∃ t, u = Value.str y t from rx); cases q; exact PySem.W.kia_one PySem.W.kitx_str I.kIn True.intro e (fun z => nomatch z) h
  | flt y => obtain ⟨t, q⟩ := (show ∃ t, u = Value.float y t from rx); cases q; exact PySem.W.kia_one PySem.W.kitx_float I.kIn True.intro e (fun z => nomatch z) h
  | @lst a xs ea =>
    cases (show u = Value.ref a from rx)
    obtain ⟨_, _, n, _, h1⟩ := (show ObjOk X.prog X.w H s.heap a (.lst xs) from I.hok a _ ea)
    exact PySem.W.kia_one PySem.W.kitx_list I.kIn ⟨_, h1, rfl⟩ e (fun z => nomatch z) h
  | @frz a ob xs ea =>
    cases (show u = Value.ref a from rx)
    obtain ⟨_, _, _, n, _, h1⟩ := (show ObjOk X.prog X.w H s.heap a (.frz ob (.lst xs)) from I.hok a _ ea)
    exact PySem.W.kia_one PySem.W.kitx_list I.kIn ⟨_, h1, rfl⟩ e (fun z => nomatch z) h
  | @tup a xs ea =>
    cases (show u = Value.ref a from rx)
    obtain ⟨_, _, _, p⟩ := (show ObjOk X.prog X.w H s.heap a (.tup xs) from I.hok a _ ea)
    obtain ⟨o, h1, h2, _⟩ := p
    exact PySem.W.kia_one PySem.W.kitx_tuple I.kIn ⟨o, h1, h2⟩ e (fun z => nomatch z) h
  | @dK a kvs ea =>
    cases (show u = Value.ref a from rx)
    obtain ⟨_, _, vs, _, p⟩ := (show ObjOk X.prog X.w H s.heap a (.dK kvs) from I.hok a _ ea)
    obtain ⟨o, es, ep, h1, h2, _⟩ := p
    exact PySem.W.kia_one PySem.W.kitx_dict I.kIn ⟨o, h1, h2.1⟩ e (fun z => nomatch z) h
  | @dT a kvs ea =>
    cases (show u = Value.ref a from rx)
    obtain ⟨_, _, xs, _, o, es, ep, h1, h2, _⟩ := (show ObjOk X.prog X.w H s.heap a (.dT kvs) from I.hok a _ ea)
    exact PySem.W.kia_one PySem.W.kitx_dict I.kIn ⟨o, h1, h2.1⟩ e (fun z => nomatch z) h
  | @ins a C dx fs ea cl ha hn htk hm =>
    cases (show u = Value.ref a from rx)
    obtain ⟨mA, O, _⟩ := ins_get I.hok ea
    obtain ⟨od, J, _⟩ := O.look
    exact PySem.W.kia_one (PySem.W.kitx_own (cl.get _) cl.hd ha hn htk hm) I.kIn J e (fun z => nomatch z) h
end
end L2

namespace L2
open PySem PySem.Spec PyProof.Rows

/-! ### room -/
structure Room (k : Nat) (A : Around) : Prop where
  hd : A.handled = none
  dp : A.depth + 3 * k + 5 < recursionLimit
  un : A.units + 16 * k + 200 < cLine
  gd : A.guards = some []
theorem Room.mono {j k : Nat} {A : Around} (r : Room k A) (h : j ≤ k) : Room j A := ⟨r.hd, by have := r.dp; omega, by have := r.un; omega, r.gd⟩
theorem Room.deeper {k : Nat} {A : Around} (r : Room (k + 1) A) (env : Env) : Room k (A.deeper env) :=
  ⟨r.hd, by have := r.dp; show A.depth + 1 + 3 * k + 5 < _; omega, by have := r.un; show A.units + 3 + 16 * k + 200 < _; omega, r.gd⟩
theorem Room.in1 {k : Nat} {A : Around} (r : Room (k + 1) A) : Room k A.in1 :=
  ⟨r.hd, by have := r.dp; show A.depth + 3 * k + 5 < _; omega, by have := r.un; show A.units + 1 + 16 * k + 200 < _; omega, r.gd⟩
theorem make_depth {A : Around} {C : Addr} {us : List Value} {kw : List (Str × Value)} : (A.under (.builtin "type.__call__" ⟨.ref C :: us, kw⟩)).depth = A.depth + 1 := by
  first | rfl | simp [Around.under, Code.weight, Code.isCreation, Code.isGuard, Code.isCaller, Code.frames, Code.isFrame, guardIds]
theorem make_units {A : Around} {C : Addr} {us : List Value} {kw : List (Str × Value)} : (A.under (.builtin "type.__call__" ⟨.ref C :: us, kw⟩)).units = A.units + 1 := by
  first | rfl | simp [Around.under, Code.cUnits, Code.frames, Code.isFrame]
theorem Room.make {k : Nat} {A : Around} (r : Room (k + 1) A) (C : Addr) (us : List Value) (kw : List (Str × Value)) : Room k (A.under (.builtin "type.__call__" ⟨.ref C :: us, kw⟩)) :=
  ⟨r.hd, by have := r.dp; rw [make_depth]; omega, by have := r.un; rw [make_units]; omega, r.gd⟩
theorem Room.depth {k : Nat} {A : Around} (r : Room k A) : A.depth < recursionLimit := by have := r.dp; omega
theorem Room.units {k : Nat} {A : Around} (r : Room k A) : A.units + 64 < cLine := by have := r.un; omega
theorem Room.units0 {k : Nat} {A : Around} (r : Room k A) : A.units < cLine := by have := r.un; omega

/-! ### argument lists and displays -/
def tNil : TA := fun _ H Q => Q [] H
def tCons (ta : TE) (tr : TA) : TA := fun σ H Q => ta σ H fun x H1 => tr σ H1 fun xs H2 => Q (x :: xs) H2
section
variable {X : Cx} {e : Expr} {es : List Expr} {te : TE} {t : TA} {pos : Pos}
theorem pa_nil : PA X [] tNil := fun _ _ _ _ H Q I h => Calls.spliced_nil ⟨[], H, I, .nil, h⟩
theorem pa_cons (ha : PE X e te) (hr : PA X es t) (hs : starEach (e :: es) X.env = (false, eval e X.env) :: starEach es X.env := by rfl) : PA X (e :: es) (tCons te t) := by
  intro pos pins s σ H Q I h
  rw [hs]
  show wpAny _ _ (spliced ((false, eval e X.env) :: backTo pos (starEach es X.env))) _ _ s
  refine Calls.spliced_cons (thn (ha pins s σ H _ I h) fun u s1 ⟨x, H1, I1, r1, q1⟩ => ?_)
  exact thn (hr pos pins s1 σ H1 _ I1 q1) fun us s2 ⟨xs, H2, I2, r2, q2⟩ => ⟨x :: xs, H2, I2, .cons r1 r2, q2⟩

/-- a tuple, a list of written items -/
def tTup (t : TA) : TE := fun σ H Q => t σ H fun xs H1 => xs.length ≤ sizeLine ∧ ∀ p, H1 p = none → Q (.ref p) (upd H1 p (.tup xs))
def tLst (t : TA) : TE := fun σ H Q => t σ H fun xs H1 => xs.length ≤ sizeLine ∧ ∀ p, H1 p = none → Q (.ref p) (upd H1 p (.lst xs))
theorem pe_tup {x1} (h : PA X es t) : PE X (.Tuple es x1 pos) (tTup t) := by
  intro pins s σ H Q I hq
  refine wpAny_Tuple_spliced (thn (h pos pins s σ H _ I hq) fun us s1 ⟨xs, H1, I1, r, z, q⟩ => ⟨by rw [← r.length]; exact z, ?_⟩)
  have hf : H1 s1.heap.objs.size = none := I1.hok.fresh (Nat.le_refl _)
  refine ⟨.ref s1.heap.objs.size, upd H1 s1.heap.objs.size (.tup xs), I1.laid (t' := s1.toks) (fun b u e => Heap.get?_push_of_some _ e) (Nat.le_refl _) ?_, rfl, q _ hf⟩
  exact ⟨z, us, r, ⟨_, Heap.get?_push_size _ rfl, rfl, _, rfl⟩⟩
theorem pe_lst (h : PA X es t) : PE X (.List es pos) (tLst t) := by
  intro pins s σ H Q I hq
  refine wpAny_List_spliced (thn (h pos pins s σ H _ I hq) fun us s1 ⟨xs, H1, I1, r, z, q⟩ => ⟨by rw [← r.length]; exact z, ?_⟩)
  have hf : H1 s1.heap.objs.size = none := I1.hok.fresh (Nat.le_refl _)
  refine ⟨.ref s1.heap.objs.size, upd H1 s1.heap.objs.size (.lst xs), I1.laid (t' := s1.toks) (fun b u e => Heap.get?_push_of_some _ e) (Nat.le_refl _) ?_, rfl, q _ hf⟩
  exact ⟨z, us, 0, r, Heap.get?_push_size _ rfl⟩
end

/-! ### what a def promises -/
/-- a def's promise: the bound arguments in the parameters' order, the heap, the wanted end, the wanted exception -/
abbrev Sp := List V → Hp → VK → XK → Prop
/-- how an exception lies behind a call (file 08 gives it): the callers' frames, abstract heap and state ahead of the call, the wish, the exception, the state -/
abbrev CXT := List Env → Hp → Shared → XK → Value → Shared → Prop

/-- the state at a call -/
structure Env0 (P : Program) (w : World) (K : PySem.W.Frag) (mg : Str → Option Value) (base : Heap) (A : Around) (outer : List Env) (s : Shared) (H : Hp) : Prop where
  frames : A.frames = some outer
  mod : Mod K mg base
  bs : ∀ b o, base.get? b = some o → s.heap.get? b = some o ∧ H b = none
  bsz : base.objs.size ≤ s.heap.objs.size
  funs : s.heap.FunFrames base outer
  frf : ∀ b ∈ frs outer, H b = none
  hok : HOk P w H s.heap
  bare : AllBare s.gens
/-- a call's end -/
def CE (outer : List Env) (P : Program) (w : World) (H : Hp) (s : Shared) (Q : VK) (u : Value) (s' : Shared) : Prop :=
  ∃ v H', s'.os = s.os ∧ AllBare s'.gens ∧ Un (frs outer) [] H H' s.heap s'.heap ∧ HOk P w H' s'.heap ∧ RelV v u ∧ Q v H'
def CR (CX : CXT) (outer : List Env) (P : Program) (w : World) (H : Hp) (s : Shared) (Q : VK) (E : XK) (r : Result) (s' : Shared) : Prop :=
  match r with
  | .ok (.ret u) => CE outer P w H s Q u s'
  | .ok _ => False
  | .error e => CX outer H s E e s'
structure FnOk (P : Program) (w : World) (K : PySem.W.Frag) (mg : Str → Option Value) (base : Heap) (CX : CXT) (k : Nat) (f : Addr) (fd : FuncData) (ps : List Str) (sp : Sp) : Prop where
  len : ∀ vs H Q E, sp vs H Q E → vs.length = ps.length
  run : ∀ (A : Around) (outer : List Env) (s : Shared) (H : Hp) (args : Args) (us : List Value) (vs : List V) (Q : VK) (E : XK), Room k A → Env0 P w K mg base A outer s H → BindsTo s fd args (ps.zip us) → Vals vs us → sp vs H Q E →
    codeAny (model P w) A (.call (.ref f) args) (CR CX outer P w H s Q E) s
theorem FnOk.mono {P : Program} {w : World} {K : PySem.W.Frag} {mg : Str → Option Value} {base : Heap} {CX : CXT} {j k : Nat} {f : Addr} {fd : FuncData} {ps : List Str} {sp : Sp} (F : FnOk P w K mg base CX j f fd ps sp) (h : j ≤ k) :
    FnOk P w K mg base CX k f fd ps sp := ⟨F.len, fun A outer s H args us vs Q E hr => F.run A outer s H args us vs Q E (hr.mono h)⟩
/-- a weaker promise -/
theorem FnOk.imp {P : Program} {w : World} {K : PySem.W.Frag} {mg : Str → Option Value} {base : Heap} {CX : CXT} {k : Nat} {f : Addr} {fd : FuncData} {ps : List Str} {sp sp' : Sp} (F : FnOk P w K mg base CX k f fd ps sp)
    (h : ∀ vs H Q E, sp' vs H Q E → sp vs H Q E) : FnOk P w K mg base CX k f fd ps sp' :=
  ⟨fun vs H Q E q => F.len vs H Q E (h _ _ _ _ q), fun A outer s H args us vs Q E hr he hb hv hs => F.run A outer s H args us vs Q E hr he hb hv (h _ _ _ _ hs)⟩

theorem Env0.make {P : Program} {w : World} {K : PySem.W.Frag} {mg : Str → Option Value} {base : Heap} {A : Around} {outer : List Env} {s : Shared} {H : Hp} (e : Env0 P w K mg base A outer s H) (C : Addr) (us : List Value) (kw : List (Str × Value)) :
    Env0 P w K mg base (A.under (.builtin "type.__call__" ⟨.ref C :: us, kw⟩)) outer s H := ⟨by first | exact e.frames | (simpa [Around.under, Code.envs, Code.isFrame, pushEnvs] using e.frames), e.mod, e.bs, e.bsz, e.funs, e.frf, e.hok, e.bare⟩
theorem Env0.in1 {P : Program} {w : World} {K : PySem.W.Frag} {mg : Str → Option Value} {base : Heap} {A : Around} {outer : List Env} {s : Shared} {H : Hp} (e : Env0 P w K mg base A outer s H) :
    Env0 P w K mg base A.in1 outer s H := ⟨e.frames, e.mod, e.bs, e.bsz, e.funs, e.frf, e.hok, e.bare⟩

section
variable {X : Cx} {pins : List (Addr × Obj)} {σ : St} {H : Hp} {s s' : Shared}
/-- from a body: what a callee wants -/
theorem Inv.env0 (I : Inv X pins σ H s) : Env0 X.prog X.w X.K X.mg X.base X.A X.stack s H :=
  ⟨I.ok.frames, I.ok.mod, I.bs, Nat.le_trans I.ok.bsz I.sz, I.stack, I.stkFree, I.hok, I.bare⟩
/-- behind a call -/
theorem Inv.after {Q : VK} {u : Value} (I : Inv X pins σ H s) (h : CE X.stack X.prog X.w H s Q u s') : EP X pins σ Q u s' := by
  obtain ⟨v, H', os, bare, un, hok, r, q⟩ := h
  obtain ⟨hh, g, d, t, os'⟩ := s'
  obtain rfl : os' = s.os := os
  exact ⟨v, H', I.call (h' := hh) (g' := g) (d' := d) (t' := t) (ch := []) un hok bare (fun b z => absurd z (by simp)), r, q⟩
end

/-! ### calls -/
/-- f(..): the written arguments, then the defaults dvs; E: what is wanted of an exception -/
def tCall (sp : Sp) (dvs : List V) (E : XK) (t : TA) : TE := fun σ H Q => t σ H fun vs H1 => sp (vs ++ dvs) H1 Q E
/-- o.m(..) of an instance of the class at C -/
def tMeth (C : Addr) (m : Str) (sp : Sp) (dvs : List V) (E : XK) (ta : TE) (t : TA) : TE := fun σ H Q => ta σ H fun x H1 => ∃ a dx fs, x = .ref a ∧ H1 a = some (.ins C dx fs) ∧ fs.lookup m = none ∧
  t σ H1 fun vs H2 => sp (x :: (vs ++ dvs)) H2 Q E
/-- C(..): a new instance and its dict, then __init__ -/
def tMake (C : Addr) (sp : Sp) (dvs : List V) (E : XK) (t : TA) : TE := fun σ H Q => t σ H fun vs H1 => ∀ x dx, H1 x = none → H1 dx = none → dx ≠ x →
  sp (.ref x :: (vs ++ dvs)) (upd (upd H1 dx (.own x)) x (.ins C dx [])) (fun v H2 => v = .non ∧ Q (.ref x) H2) E

/-- how the parameters are bound: us the positional arguments, kw the keywords' values by name, ds the defaults that fill up -/
def Binds (K : PySem.W.Frag) (fd : FuncData) (ps : List Str) (ds : List Value) : Prop :=
  ∀ (s : Shared) (us : List Value), K.In s.heap → (us ++ ds).length = ps.length → BindsTo s fd ⟨us, []⟩ (ps.zip (us ++ ds))
/-- every parameter is given -/
theorem Binds.all {K : PySem.W.Frag} {fd : FuncData} {ps : List Str} (h : ∀ us : List Value, us.length = ps.length → bindArgs fd ⟨us, []⟩ = pure (ps.zip us)) : Binds K fd ps [] := fun s us _ hl => by
  rw [List.append_nil] at hl ⊢
  exact .of_eq (h us hl)

/-- an exception of a callee reaches what this body wants of exceptions -/
def Passes (CX : CXT) (X : Cx) (E : XK) : Prop := ∀ (pins : List (Addr × Obj)) (σ : St) (H : Hp) (s : Shared) (e : Value) (s' : Shared), Inv X pins σ H s → CX X.stack H s E e s' → X.xe e s'

section
variable {X : Cx} {CX : CXT} {k : Nat} {f C : Addr} {fd : FuncData} {ps : List Str} {sp : Sp} {dvs : List V} {ds : List Value} {E : XK} {x m : Str} {p pos apos : Pos} {e o : Expr} {es : List Expr} {ta : TE} {t : TA}

/-- the callee runs -/
theorem run_fn {pins : List (Addr × Obj)} {σ : St} {H : Hp} {s : Shared} {Q : VK} {us : List Value} {vs : List V} (F : FnOk X.prog X.w X.K X.mg X.base CX k f fd ps sp) (hr : Room k X.A) (hb : Binds X.K fd ps ds) (hd : Vals dvs ds) (hx : Passes CX X E)
    (I : Inv X pins σ H s) (r : Vals vs us) (h : sp (vs ++ dvs) H Q E) : wpAny (model X.prog X.w) X.A (call (.ref f) us) (EP X pins σ Q) X.xe s := by
  have r2 : Vals (vs ++ dvs) (us ++ ds) := r.append hd
  have hl : (us ++ ds).length = ps.length := by rw [← r2.length]; exact F.len _ _ _ _ h
  refine wpAny_call (codeAny_mono (F.run X.A X.stack s H ⟨us, []⟩ (us ++ ds) (vs ++ dvs) Q E hr I.env0 (hb s us I.kIn hl) r2 h) fun r s' hq => ?_)
  cases r with
  | error e => exact hx pins σ H s e s' I hq
  | ok fl =>
    cases fl with
    | ret u => exact I.after hq
    | next => exact False.elim hq
    | brk => exact False.elim hq
    | cont => exact False.elim hq

theorem pe_call (F : FnOk X.prog X.w X.K X.mg X.base CX k f fd ps sp) (hr : Room k X.A) (hg : Gl X x) (hm : X.mg x = some (.ref f)) (hk : PySem.W.keepIn X.K (.ref f) = true) (hb : Binds X.K fd ps ds) (hd : Vals dvs ds) (hx : Passes CX X E)
    (ha : PA X (e :: es) t) (hdb : (x == ("__debug__" : Str)) = false := by decide) (he : starEach (e :: es) X.env = (false, eval e X.env) :: starEach es X.env := by rfl) (hpl : (backTo pos (starEach es X.env)).any (·.1) = false := by rfl) :
    PE X (.Call (.Name x p) (e :: es) [] pos) (tCall sp dvs E t) := by
  intro pins s σ H Q I h
  refine wpAny_Call_Name_kw (ld_glob I hg hm ?_ hdb)
  refine PySem.W.callWith_K (h₀ := X.base) I.ok.mod.kin hk (thn (ha pos pins s σ H _ I h) fun us s1 ⟨vs, H1, I1, r, q⟩ => ⟨I1.kIn, ?_⟩) he hpl
  exact run_fn F hr hb hd hx I1 r q
theorem pe_call0 (F : FnOk X.prog X.w X.K X.mg X.base CX k f fd ps sp) (hr : Room k X.A) (hg : Gl X x) (hm : X.mg x = some (.ref f)) (hk : PySem.W.keepIn X.K (.ref f) = true) (hb : Binds X.K fd ps ds) (hd : Vals dvs ds) (hx : Passes CX X E)
    (hdb : (x == ("__debug__" : Str)) = false := by decide) : PE X (.Call (.Name x p) [] [] pos) (tCall sp dvs E tNil) := by
  intro pins s σ H Q I h
  refine wpAny_Call_Name_kw (ld_glob I hg hm ?_ hdb)
  exact PySem.W.callWith_K0 I.kIn hk (run_fn (us := []) F hr hb hd hx I .nil h)

/-- o.m(e, ..) -/
theorem pe_meth {pl : Sem Bool} (he : PE X o ta) (c : Cls X.K C) (hm : Meth X.K C m f) (F : FnOk X.prog X.w X.K X.mg X.base CX k f fd ps sp) (hr : Room k X.A) (hb : Binds X.K fd ps ds) (hd : Vals dvs ds) (hx : Passes CX X E) (ha : PA X (e :: es) t)
    (hst : starEach (e :: es) X.env = (false, eval e X.env) :: starEach es X.env := by rfl) (hpl : (backTo pos (starEach es X.env)).any (·.1) = false := by rfl)
    (ht : eval (.Call (.Attribute o m apos) (e :: es) [] pos) X.env = (do
      let ov ← eval o X.env
      standAt apos.atName
      let (f, first) ← holding [ov] (getMethod ov m pl)
      callWith pos f first (backTo pos (starEach (e :: es) X.env)) (backToKw pos (keywordEach [] X.env))) := by rfl) :
    PE X (.Call (.Attribute o m apos) (e :: es) [] pos) (tMeth C m sp dvs E ta t) := by
  intro pins s σ H Q I h
  refine PySem.W.methodCall_KW (pl := pl) (thn (he pins s σ H _ I h) fun u s1 ⟨x, H1, I1, rx, a, dx, fs, ex, ea, l, q⟩ => ?_) ht
  subst ex
  obtain rfl : u = Value.ref a := rx
  refine getmeth_ok I1 ea c hm l ?_
  refine PySem.W.callWith_K (first := [.ref a]) (h₀ := X.base) I.ok.mod.kin hm.kp (thn (ha pos pins s1 σ H1 _ I1 q) fun us s2 ⟨vs, H2, I2, r, q2⟩ => ⟨I2.kIn, ?_⟩) hst hpl
  exact run_fn (us := .ref a :: us) (vs := .ref a :: vs) F hr hb hd hx I2 (.cons rfl r) q2
/-- o.m() -/
theorem pe_meth0 {pl : Sem Bool} (he : PE X o ta) (c : Cls X.K C) (hm : Meth X.K C m f) (F : FnOk X.prog X.w X.K X.mg X.base CX k f fd ps sp) (hr : Room k X.A) (hb : Binds X.K fd ps ds) (hd : Vals dvs ds) (hx : Passes CX X E)
    (ht : eval (.Call (.Attribute o m apos) [] [] pos) X.env = (do
      let ov ← eval o X.env
      standAt apos.atName
      let (f, first) ← holding [ov] (getMethod ov m pl)
      callWith pos f first (backTo pos (starEach [] X.env)) (backToKw pos (keywordEach [] X.env))) := by rfl) :
    PE X (.Call (.Attribute o m apos) [] [] pos) (tMeth C m sp dvs E ta tNil) := by
  intro pins s σ H Q I h
  refine PySem.W.methodCall_KW (pl := pl) (thn (he pins s σ H _ I h) fun u s1 ⟨x, H1, I1, rx, a, dx, fs, ex, ea, l, q⟩ => ?_) ht
  subst ex
  obtain rfl : u = Value.ref a := rx
  refine getmeth_ok I1 ea c hm l ?_
  exact PySem.W.callWith_K0 (first := [.ref a]) I1.kIn hm.kp (run_fn (us := [.ref a]) (vs := [.ref a]) F hr hb hd hx I1 (.cons rfl .nil) q)

/-- what a class must have to be made -/
structure Mk (K : PySem.W.Frag) (C f : Addr) : Prop where
  makes : PySem.W.makesIn K C = true
  init : PySem.W.findIn K (.ref C) "__init__" = some (some (.ref f))
  fn : PySem.W.isFn K (.ref f) = true
  kp : PySem.W.keepIn K (.ref C) = true

theorem run_make {pins : List (Addr × Obj)} {σ : St} {H : Hp} {s : Shared} {Q : VK} {us : List Value} {vs : List V} (M : Mk X.K C f) (F : FnOk X.prog X.w X.K X.mg X.base CX k f fd ps sp) (hr : Room (k + 1) X.A) (hb : Binds X.K fd ps ds) (hd : Vals dvs ds)
    (hx : Passes CX X E) (I : Inv X pins σ H s) (r : Vals vs us)
    (h : ∀ x dx, H x = none → H dx = none → dx ≠ x → sp (.ref x :: (vs ++ dvs)) (upd (upd H dx (.own x)) x (.ins C dx [])) (fun v H2 => v = .non ∧ Q (.ref x) H2) E) :
    wpAny (model X.prog X.w) X.A (call (.ref C) us) (EP X pins σ Q) X.xe s := by
  have hq := h (s.heap.objs.size + 1) s.heap.objs.size (I.hok.fresh (Nat.le_succ _)) (I.hok.fresh (Nat.le_refl _)) (Nat.ne_of_lt (Nat.lt_succ_self _))
  have I2 := Inv.made (C := C) I
  have r2 : Vals (V.ref (s.heap.objs.size + 1) :: (vs ++ dvs)) (Value.ref (s.heap.objs.size + 1) :: (us ++ ds)) := .cons rfl (r.append hd)
  have hl : (Value.ref (s.heap.objs.size + 1) :: us ++ ds).length = ps.length := by
    have e := r2.length
    rw [F.len _ _ _ _ hq] at e
    exact e.symm
  refine wpAny_call (make_map (f := f) I.kIn M.makes M.init (beq_iff_eq.mp M.fn) (codeAny_mono (F.run _ X.stack _ _ ⟨Value.ref (s.heap.objs.size + 1) :: us, []⟩ (Value.ref (s.heap.objs.size + 1) :: (us ++ ds)) _ _ E (hr.make C us [])
    (I2.env0.make C us []) (hb _ (Value.ref (s.heap.objs.size + 1) :: us) I2.kIn hl) r2 hq) fun r s' hq' => ?_))
  cases r with
  | error e => exact hx pins σ _ _ e s' I2 hq'
  | ok fl =>
    cases fl with
    | ret u =>
      obtain ⟨v, H', I3, rv, ev, q3⟩ := I2.after hq'
      subst ev
      exact ⟨rv, ⟨V.ref (s.heap.objs.size + 1), H', I3, rfl, q3⟩⟩
    | next => exact False.elim hq'
    | brk => exact False.elim hq'
    | cont => exact False.elim hq'
theorem pe_make (M : Mk X.K C f) (F : FnOk X.prog X.w X.K X.mg X.base CX k f fd ps sp) (hr : Room (k + 1) X.A) (hg : Gl X x) (hm : X.mg x = some (.ref C)) (hb : Binds X.K fd ps ds) (hd : Vals dvs ds) (hx : Passes CX X E)
    (ha : PA X (e :: es) t) (hdb : (x == ("__debug__" : Str)) = false := by decide) (he : starEach (e :: es) X.env = (false, eval e X.env) :: starEach es X.env := by rfl) (hpl : (backTo pos (starEach es X.env)).any (·.1) = false := by rfl) :
    PE X (.Call (.Name x p) (e :: es) [] pos) (tMake C sp dvs E t) := by
  intro pins s σ H Q I h
  refine wpAny_Call_Name_kw (ld_glob I hg hm ?_ hdb)
  refine PySem.W.callWith_K (h₀ := X.base) I.ok.mod.kin M.kp (thn (ha pos pins s σ H _ I h) fun us s1 ⟨vs, H1, I1, r, q⟩ => ⟨I1.kIn, ?_⟩) he hpl
  exact run_make M F hr hb hd hx I1 r q
theorem pe_make0 (M : Mk X.K C f) (F : FnOk X.prog X.w X.K X.mg X.base CX k f fd ps sp) (hr : Room (k + 1) X.A) (hg : Gl X x) (hm : X.mg x = some (.ref C)) (hb : Binds X.K fd ps ds) (hd : Vals dvs ds) (hx : Passes CX X E)
    (hdb : (x == ("__debug__" : Str)) = false := by decide) : PE X (.Call (.Name x p) [] [] pos) (tMake C sp dvs E tNil) := by
  intro pins s σ H Q I h
  refine wpAny_Call_Name_kw (ld_glob I hg hm ?_ hdb)
  exact PySem.W.callWith_K0 I.kIn M.kp (run_make (us := []) M F hr hb hd hx I .nil h)
end

/-! ### keywords -/
/-- the values of the keywords, from the left -/
def PK (X : Cx) (kws : List Keyword) (t : TA) : Prop :=
  ∀ (pos : Pos) (pins : List (Addr × Obj)) (s : Shared) (σ : St) (H : Hp) (Q : List V → Hp → Prop), Inv X pins σ H s → t σ H Q → wpAny (model X.prog X.w) X.A (evalAll ((backToKw pos (keywordEach kws X.env)).map (·.2))) (AP X pins σ Q) X.xe s
section
variable {X : Cx} {CX : CXT} {k : Nat} {f C : Addr} {fd : FuncData} {ps ks : List Str} {sp : Sp} {E : XK} {x m : Str} {p pos apos kpos : Pos} {e o : Expr} {es : List Expr} {kws : List Keyword} {te ta : TE} {t tk : TA} {nm : Option Str}
theorem pk_nil : PK X [] tNil := fun _ _ _ _ H Q I h => wpAny_evalAll_nil ⟨[], H, I, .nil, h⟩
theorem pk_cons (ha : PE X e te) (hr : PK X kws t) : PK X (⟨nm, e, kpos⟩ :: kws) (tCons te t) := by
  intro pos pins s σ H Q I h
  show wpAny _ _ (evalAll ((do let v ← eval e X.env; standAt pos; pure v) :: (backToKw pos (keywordEach kws X.env)).map (·.2))) _ _ s
  refine wpAny_evalAll_cons (wpAny_bind (thn (ha pins s σ H _ I h) fun u s1 ⟨x, H1, I1, r1, q1⟩ => wpAny_bind (wpAny_standAt (wpAny_pure ?_))))
  exact thn (hr pos pins s1 σ H1 _ I1 q1) fun us s2 ⟨xs, H2, I2, r2, q2⟩ => ⟨x :: xs, H2, I2, .cons r1 r2, q2⟩

/-- how a call with keywords binds: g puts the positional values us and the keywords' values ws (names ks) in the parameters' order, defaults among them -/
structure KBinds (K : PySem.W.Frag) (fd : FuncData) (ps ks : List Str) (g : List Value → List Value → List Value) (gV : List V → List V → List V) : Prop where
  to : ∀ (s : Shared) (us ws : List Value), K.In s.heap → (g us ws).length = ps.length → BindsTo s fd ⟨us, ks.zip ws⟩ (ps.zip (g us ws))
  rel : ∀ {vs : List V} {us : List Value} {zs : List V} {ws : List Value}, Vals vs us → Vals zs ws → Vals (gV vs zs) (g us ws)
def tCallK (sp : Sp) (gV : List V → List V → List V) (E : XK) (t tk : TA) : TE := fun σ H Q => t σ H fun vs H1 => tk σ H1 fun zs H2 => sp (gV vs zs) H2 Q E
variable {g : List Value → List Value → List Value} {gV : List V → List V → List V}
theorem run_fnk {pins : List (Addr × Obj)} {σ : St} {H : Hp} {s : Shared} {Q : VK} {us ws : List Value} {vs zs : List V} (F : FnOk X.prog X.w X.K X.mg X.base CX k f fd ps sp) (hr : Room k X.A) (hb : KBinds X.K fd ps ks g gV) (hx : Passes CX X E)
    (I : Inv X pins σ H s) (r : Vals vs us) (rz : Vals zs ws) (h : sp (gV vs zs) H Q E) : wpAny (model X.prog X.w) X.A (call (.ref f) us (ks.zip ws)) (EP X pins σ Q) X.xe s := by
  have r2 := hb.rel r rz
  have hl : (g us ws).length = ps.length := by rw [← r2.length]; exact F.len _ _ _ _ h
  refine wpAny_call (codeAny_mono (F.run X.A X.stack s H ⟨us, ks.zip ws⟩ (g us ws) (gV vs zs) Q E hr I.env0 (hb.to s us ws I.kIn hl) r2 h) fun r s' hq => ?_)
  cases r with
  | error e => exact hx pins σ H s e s' I hq
  | ok fl =>
    cases fl with
    | ret u => exact I.after hq
    | next => exact False.elim hq
    | brk => exact False.elim hq
    | cont => exact False.elim hq
/-- f(e, .., k = v, ..) -/
theorem pe_callK (F : FnOk X.prog X.w X.K X.mg X.base CX k f fd ps sp) (hr : Room k X.A) (hg : Gl X x) (hm : X.mg x = some (.ref f)) (hk : PySem.W.keepIn X.K (.ref f) = true) (hb : KBinds X.K fd ps ks g gV) (hx : Passes CX X E)
    (ha : PA X (e :: es) t) (hkw : PK X kws tk) (hall : (backToKw pos (keywordEach kws X.env)).all (·.1.isSome) = true := by rfl) (hks : (backToKw pos (keywordEach kws X.env)).filterMap (·.1) = ks := by rfl)
    (hdb : (x == ("__debug__" : Str)) = false := by decide) (he : starEach (e :: es) X.env = (false, eval e X.env) :: starEach es X.env := by rfl)
    (hpl : ((backTo pos (starEach (e :: es) X.env)).any (·.1) || (backToKw pos (keywordEach kws X.env)).any (·.1.isNone)) = false := by rfl) :
    PE X (.Call (.Name x p) (e :: es) kws pos) (tCallK sp gV E t tk) := by
  intro pins s σ H Q I h
  refine wpAny_Call_Name_kw (ld_glob I hg hm ?_ hdb)
  refine PySem.W.callWith_KW (h₀ := X.base) I.ok.mod.kin hk hall (thn (ha pos pins s σ H _ I h) fun us s1 ⟨vs, H1, I1, r, q⟩ => ?_) hpl he
  refine thn (hkw pos pins s1 σ H1 _ I1 q) fun ws s2 ⟨zs, H2, I2, rz, q2⟩ => ⟨I2.kIn, ?_⟩
  rw [hks]
  exact run_fnk F hr hb hx I2 r rz q2
end

/-! ### a def's body keeps its promise -/
/-- names: the parameters first -/
structure FnScope (N P : List Str) (sc : Scope) : Prop where
  kind : sc.kind = .function
  co : sc.isCoroutine = false
  gen : sc.isGenerator = false
  nd : N.Nodup
  pre : N.take P.length = P
  par : ∀ x ∈ P, sc.names.lookup x = some .local ∨ sc.names.lookup x = some .cell
  nofree : ∀ y ∈ sc.names, y.2 ≠ .free

theorem bindL_out {kindOf : Str → Option NameKind} {x : Str} : ∀ {binds : List (Str × Value)} {m : Str → Option Value}, (∀ v, (x, v) ∉ binds) → bindL kindOf binds m x = m x
  | [], _, _ => rfl
  | (n, v) :: r, m, h => by
    unfold bindL
    rw [bindL_out fun w hw => h w (List.mem_cons_of_mem _ hw)]
    split
    · have : x ≠ n := by rintro rfl; exact h v List.mem_cons_self
      simp [this]
    · rfl
theorem bindC_out {kindOf : Str → Option NameKind} {x : Str} : ∀ {binds : List (Str × Value)} {m : Str → Option Value}, (∀ v, (x, v) ∉ binds) → bindC kindOf binds m x = m x
  | [], _, _ => rfl
  | (n, v) :: r, m, h => by
    unfold bindC
    rw [bindC_out fun w hw => h w (List.mem_cons_of_mem _ hw)]
    split
    · rfl
    · have : x ≠ n := by rintro rfl; exact h v List.mem_cons_self
      simp [this]
theorem bindL_get {kindOf : Str → Option NameKind} {x : Str} {v : Value} : ∀ {P : List Str} {vs : List Value} {i : Nat} {m : Str → Option Value}, P.Nodup → P[i]? = some x → vs[i]? = some v → kindOf x = some .local →
    bindL kindOf (P.zip vs) m x = some v
  | [], _, _, _, _, h, _, _ => by simp at h
  | _ :: _, [], _, _, _, _, h, _ => by simp at h
  | p :: P, w :: vs, 0, m, nd, h1, h2, hk => by
    simp at h1 h2; subst h1; subst h2
    show bindL kindOf ((p, w) :: P.zip vs) m p = _
    unfold bindL
    rw [bindL_out fun v hv => (List.nodup_cons.mp nd).1 (List.of_mem_zip hv).1, if_pos hk]
    simp
  | p :: P, w :: vs, i + 1, m, nd, h1, h2, hk => by
    show bindL kindOf ((p, w) :: P.zip vs) m x = _
    unfold bindL
    exact bindL_get (i := i) (List.nodup_cons.mp nd).2 (by simpa using h1) (by simpa using h2) hk
theorem bindC_get {kindOf : Str → Option NameKind} {x : Str} {v : Value} : ∀ {P : List Str} {vs : List Value} {i : Nat} {m : Str → Option Value}, P.Nodup → P[i]? = some x → vs[i]? = some v → kindOf x ≠ some .local →
    bindC kindOf (P.zip vs) m x = some v
  | [], _, _, _, _, h, _, _ => by simp at h
  | _ :: _, [], _, _, _, _, h, _ => by simp at h
  | p :: P, w :: vs, 0, m, nd, h1, h2, hk => by
    simp at h1 h2; subst h1; subst h2
    show bindC kindOf ((p, w) :: P.zip vs) m p = _
    unfold bindC
    rw [bindC_out fun v hv => (List.nodup_cons.mp nd).1 (List.of_mem_zip hv).1, if_neg hk]
    simp
  | p :: P, w :: vs, i + 1, m, nd, h1, h2, hk => by
    show bindC kindOf ((p, w) :: P.zip vs) m x = _
    unfold bindC
    exact bindC_get (i := i) (List.nodup_cons.mp nd).2 (by simpa using h1) (by simpa using h2) hk

/-- the names' values at the entry -/
def start (N : List Str) (vs : List V) : St := vs.map some ++ List.replicate (N.length - vs.length) none

/-- the context of a def's body, at its entry; an exception leaves the frame, then lies as CX says -/
def cxOf (CX : CXT) (P : Program) (w : World) (K : PySem.W.Frag) (mg : Str → Option Value) (base : Heap) (N : List Str) (qual : Str) (scope : Scope) (f : Addr) (cd : Value) (A : Around) (outer : List Env) (s : Shared) (H : Hp) (E : XK) : Cx where
  prog := P
  w := w
  K := K
  mg := mg
  base := base
  A := A.deeper (envOfC qual scope s.heap.objs.size f cd)
  N := N
  s₀ := s
  H₀ := H
  env := envOfC qual scope s.heap.objs.size f cd
  outer := outer
  stack := envOfC qual scope s.heap.objs.size f cd :: outer
  ex := []
  calm := true
  fn := fun _ => true
  pn := []
  xe := fun e s' => wpAny (model P w) (A.deeper (envOfC qual scope s.heap.objs.size f cd)) (leaving (envOfC qual scope s.heap.objs.size f cd) e) (fun _ s'' => CX outer H s E e s'') (fun e' s'' => CX outer H s E e' s'') s'

theorem cell_has {sc : Scope} {n : Nat} {x : Str} (h : sc.names.lookup x = some .cell) : ∃ c, (cellsFrom n sc.names []).lookup x = some c := by
  have q := PySem.W.cellsFrom_some sc.names n [] (.inl h)
  exact Option.isSome_iff_exists.mp q

theorem inv_start {CX : CXT} {P : Program} {w : World} {K : PySem.W.Frag} {mg : Str → Option Value} {base : Heap} {N ps : List Str} {qual : Str} {scope : Scope} {f : Addr} {cd : Value} {A : Around} {outer : List Env} {s s1 : Shared} {H : Hp} {E : XK} {us : List Value} {vs : List V}
    (S : FnScope N ps scope) (hd : A.handled = none) (e0 : Env0 P w K mg base A outer s H) (hl : vs.length = ps.length) (r : Vals vs us)
    (x : InCallC s s.heap.objs.size (bindL (envOfC qual scope s.heap.objs.size f cd).kindOf (ps.zip us) fun _ => none) (cellsFrom (s.heap.objs.size + 1) scope.names []) (bindC (envOfC qual scope s.heap.objs.size f cd).kindOf (ps.zip us) fun _ => none) s1) :
    Inv (cxOf CX P w K mg base N qual scope f cd A outer s H E) [] (start N vs) H s1 := by
  have hpl : ps.length ≤ N.length := by have := congrArg List.length S.pre; rw [List.length_take] at this; omega
  obtain ⟨h1, tk, rfl, hk⟩ := x.done
  have noA : ∀ b : Addr, b ∉ (cxOf CX P w K mg base N qual scope f cd A outer s H E).ex := fun b z => absurd (show b ∈ ([] : List Addr) from z) (by simp)
  refine ⟨⟨e0.mod, S.kind, rfl, rfl, Nat.le_refl _, fun y z c h1 h2 => ?_, fun y hy => ?_, fun y c _ h => ?_, fun _ => hd, Around.frames_deeper e0.frames, .inr ⟨rfl, rfl⟩, fun b z => absurd z (noA b), e0.bs, e0.bsz, fun b _ _ => noA b, fun b z => absurd z (noA b), e0.funs, e0.frf⟩,
    rfl, e0.bare, Un.kept hk, ⟨_, x.toInCall.ns, fun i y v h1 h2 h3 => ?_⟩, fun y c h => ⟨_, x.cell y c h⟩, e0.hok.fresh (Nat.le_refl _), fun y c h => ?_, fun p hp => absurd (show p ∈ ([] : List (Addr × Obj)) from hp) (by simp), e0.hok.kept hk, ?_⟩
  · exact name_of_addr x.apart (PySem.mem_of_lookup h1) (PySem.mem_of_lookup h2)
  · have hy : scope.names.lookup y = some .cell ∨ scope.names.lookup y = some .free := hy
    rcases hy with hy | hy
    · exact cell_has hy
    · exact absurd rfl (S.nofree _ (PySem.mem_of_lookup hy))
  · exact Nat.le_of_lt (x.above y c (PySem.mem_of_lookup h))
  · have hi : i < vs.length := by
      unfold start at h2
      by_cases hi : i < vs.length
      · exact hi
      · rw [List.getElem?_append_right (by simpa using hi)] at h2
        rw [List.getElem?_replicate] at h2
        split at h2 <;> cases h2
    have ha : vs[i]? = some v := by
      unfold start at h2
      rw [List.getElem?_append_left (by simpa using hi), List.getElem?_map] at h2
      cases e : vs[i]? with
      | none => rw [e] at h2; cases h2
      | some a => rw [e] at h2; cases h2; rfl
    obtain ⟨u, hu, rv⟩ := r.get ha
    have hp : ps[i]? = some y := by
      rw [← S.pre, List.getElem?_take_of_lt (by omega)]; exact h1
    have ndP : ps.Nodup := by rw [← S.pre]; exact S.nd.sublist (List.take_sublist _ _)
    refine ⟨u, rv, ?_⟩
    rcases S.par y (List.mem_of_getElem? hp) with k | k
    · exact .inl ⟨k, bindL_get ndP hp hu k⟩
    · obtain ⟨c, e⟩ := cell_has (n := s.heap.objs.size + 1) k
      refine .inr ⟨.inl k, c, e, ?_⟩
      have q := x.cell y c e
      rw [bindC_get ndP hp hu (by show scope.names.lookup y ≠ _; rw [k]; decide)] at q
      exact q
  · exact e0.hok.fresh (Nat.le_of_lt (x.above y c (PySem.mem_of_lookup h)))
  · unfold start
    show _ = N.length
    rw [List.length_append, List.length_map, List.length_replicate]
    omega

/-- THE RULE: a def (or a method) of the text, by its body. The body's reading t is chosen for each entry; it is run at the parameters' values -/
theorem fn_of {CX : CXT} {P : Program} {w : World} {K : PySem.W.Frag} {mg : Str → Option Value} {base : Heap} {k : Nat} {f : Addr} {name qual : Str} {params : Arguments} {body : List Stmt} {scope : Scope} {dV kV doc pm cdv ct oc : Value} {an od : Option Addr}
    {osl : Array (Option Value)} {N ps : List Str} {sp : Sp} (lk : K.lookup f = some ⟨oc, od, .func (PySem.W.fnOf name qual params body scope dV kV doc pm an cdv ct), osl⟩) (hcd : PySem.W.codeIn K cdv qual = true) (S : FnScope N ps scope)
    (len : ∀ vs H Q E, sp vs H Q E → vs.length = ps.length)
    (hbody : ∀ (A : Around) (outer : List Env) (s : Shared) (H : Hp) (vs : List V) (Q : VK) (E : XK), Room k (A.deeper (envOfC qual scope s.heap.objs.size f cdv)) → sp vs H Q E →
      ∃ t, PSs (cxOf CX P w K mg base N qual scope f cdv A outer s H E) body t ∧ t { nx := fun _ H' => Q .non H', rt := Q } (start N vs) H) :
    FnOk P w K mg base CX (k + 1) f (PySem.W.fnOf name qual params body scope dV kV doc pm an cdv ct) ps sp := by
  refine ⟨len, fun A outer s H args us vs Q E hr e0 hb r hsp => ?_⟩
  have hl := len _ _ _ _ hsp
  have KX : K.In s.heap := e0.mod.kin.keeps fun b o e => (e0.bs b o e).1
  have lim : s.heap.NoLimit := e0.mod.nolimit.keeps fun b o e => (e0.bs b o e).1
  have hkind : ∀ y ∈ ps.zip us, scope.names.lookup y.1 = some .local ∨ (scope.names.lookup y.1 = some .cell ∧ ((cellsFrom (s.heap.objs.size + 1) scope.names []).lookup y.1).isSome = true) := fun ⟨n, v⟩ hy => by
    rcases S.par n (List.of_mem_zip hy).1 with q | q
    · exact .inl q
    · exact .inr ⟨q, PySem.W.cellsFrom_some _ _ _ (.inl q)⟩
  refine codeAny_call_function hr.depth (KX _ _ lk) rfl S.co S.gen rfl (PySem.W.codeRec_of KX hcd) (hb _ _ _ _ ?_)
  refine wpAny_newFunctionEnv_cells S.kind hkind fun env he s1 x => ?_
  subst he
  refine ⟨lim.keeps x.toInCall.keep, codeAny_func ?_⟩
  obtain ⟨t, ht, hq⟩ := hbody A outer s H vs Q E (hr.deeper _) hsp
  have I : Inv (cxOf CX P w K mg base N qual scope f cdv A outer s H E) [] (start N vs) H s1 := inv_start S hr.hd e0 hl r x
  refine wpAny_mono (ht [] s1 (start N vs) H _ I hq) (fun fl s' hs => ?_) fun e s' hs => hs
  have fin : ∀ {σ' : St} {H' : Hp} {v : V} {u : Value}, Inv (cxOf CX P w K mg base N qual scope f cdv A outer s H E) [] σ' H' s' → RelV v u → Q v H' → CE outer P w H s Q u s' :=
    fun {σ' H' v u} J rv q => ⟨v, H', J.os, J.bare, J.base, J.hok, rv, q⟩
  cases fl with
  | ret u =>
    obtain ⟨v, σ', H', J, rv, q⟩ := hs
    exact fin J rv q
  | next =>
    obtain ⟨σ', H', J, q⟩ := hs
    exact fin (v := V.non) (u := Value.none) J rfl q
  | brk =>
    obtain ⟨_, _, _, q⟩ := hs
    exact False.elim q
  | cont =>
    obtain ⟨_, _, _, q⟩ := hs
    exact False.elim q
end L2

namespace L2
open PySem PySem.Spec PyProof.Rows
section
variable {X : Cx} {x : Str} {p pos : Pos} {e : Expr} {es : List Expr} {t : TA} {id T : String} {r : List V → Hp → VK → Prop}

def tCB (r : List V → Hp → VK → Prop) (t : TA) : TE := fun σ H Q => t σ H fun vs H1 => r vs H1 Q
/-- f(e, ..), f a built-in function -/
theorem pe_callB (hc : CallR X (.builtin id) r) (hg : Gl X x) (hm : X.mg x = none) (hv : bootBuiltins x = some (.builtin id)) (ha : PA X (e :: es) t) (hn : x ≠ "__name__" := by decide) (hdb : (x == ("__debug__" : Str)) = false := by decide)
    (he : starEach (e :: es) X.env = (false, eval e X.env) :: starEach es X.env := by rfl) (hpl : (backTo pos (starEach es X.env)).any (·.1) = false := by rfl) : PE X (.Call (.Name x p) (e :: es) [] pos) (tCB r t) := by
  intro pins s σ H Q I h
  refine wpAny_Call_Name_kw (ld_blt I hg hm hv ?_ hn hdb)
  exact PyProof.Rows.callWith_builtin1 (thn (ha pos pins s σ H _ I h) fun us s1 ⟨vs, H1, I1, r1, q1⟩ => hc pins s1 σ H1 vs us Q I1 r1 q1) he hpl
/-- T(e, ..), T a built-in type -/
theorem pe_callTy (hc : CallR X (.type T) r) (hg : Gl X x) (hm : X.mg x = none) (hv : bootBuiltins x = some (.type T)) (ha : PA X (e :: es) t) (hn : x ≠ "__name__" := by decide) (hdb : (x == ("__debug__" : Str)) = false := by decide)
    (he : starEach (e :: es) X.env = (false, eval e X.env) :: starEach es X.env := by rfl) (hpl : (backTo pos (starEach es X.env)).any (·.1) = false := by rfl) : PE X (.Call (.Name x p) (e :: es) [] pos) (tCB r t) := by
  intro pins s σ H Q I h
  refine wpAny_Call_Name_kw (ld_blt I hg hm hv ?_ hn hdb)
  exact PyProof.Rows.callWith_type1 (thn (ha pos pins s σ H _ I h) fun us s1 ⟨vs, H1, I1, r1, q1⟩ => hc pins s1 σ H1 vs us Q I1 r1 q1) he hpl
/-- T() -/
theorem pe_callTy0 (hc : CallR X (.type T) r) (hg : Gl X x) (hm : X.mg x = none) (hv : bootBuiltins x = some (.type T)) (hn : x ≠ "__name__" := by decide) (hdb : (x == ("__debug__" : Str)) = false := by decide) :
    PE X (.Call (.Name x p) [] [] pos) (tCB r tNil) := by
  intro pins s σ H Q I h
  refine wpAny_Call_Name_kw (ld_blt I hg hm hv ?_ hn hdb)
  exact PyProof.Rows.callWith_type0 (hc pins s σ H [] [] Q I .nil h)
end
end L2

namespace HT
open PySem PyProof.Rows

/-- t < u of tuples of ints -/
def lexLt : List Int → List Int → Bool
  | [], [] => false
  | [], _ :: _ => true
  | _ :: _, [] => false
  | x :: xs, y :: ys => if x = y then lexLt xs ys else decide (x < y)
theorem lexLt_cons (x y : Int) (xs ys : List Int) : lexLt (x :: xs) (y :: ys) = if x = y then lexLt xs ys else decide (x < y) := rfl
theorem lexLt_nil_nil : lexLt [] [] = false := rfl
theorem lexLt_nil_cons (y : Int) (ys : List Int) : lexLt [] (y :: ys) = true := rfl
theorem lexLt_cons_nil (x : Int) (xs : List Int) : lexLt (x :: xs) [] = false := rfl

theorem eqAt_int (A : Around) (s : Shared) (a : Int) (t : Tok) (c : Int) (u : Tok) : ∃ e, SeqAt.EqAt A s (.int a t) (.int c u) e ∧ (e = true ↔ a = c) :=
  ⟨(a == c), SeqAt.EqAt.int_int a t c u, by simp⟩
theorem rcLt_int (A : Around) (s : Shared) (a : Int) (t : Tok) (c : Int) (u : Tok) (prog : Program) (w : World) (E : Value → Shared → Prop) (Q : Value → Shared → Prop) (h : Q (.bool (decide (a < c))) s) :
    wpAny (model prog w) A (richCompare .Lt (.int a t) (.int c u)) Q E s :=
  (PyProof.Rows.lt_int h : wpAny (model prog w) A (compareOp .Lt (.int a t) (.int c u)) Q E s)

section
open PySem.SeqAt
open PySem.AutoSeq1 (wpAny_loadPart')
open PySem.MeetsSeq PySem.MeetsSeq2 PySem.MeetsSeq3

theorem tuple_lt_ints (l b : Addr) (items items2 : Array Value) (n n2 : Nat) (dd dd2 : Option Addr) (sl sl2 : Array (Option Value)) (ns ms : List Int) (hi : IntsAre items.toList ns) (hj : IntsAre items2.toList ms) :
    Meets (Builtin.«tuple.__lt__» ⟨[.ref l, .ref b], []⟩)
      (fun _ R s => s.heap.get? l = some { cls := .type "tuple", dict := dd, data := .seq items n, slots := sl } ∧ s.heap.get? b = some { cls := .type "tuple", dict := dd2, data := .seq items2 n2, slots := sl2 } ∧
        R (.ok (.ret (.bool (lexLt ns ms)))) s) :=
  .of_wp fun prog w A R s h => by
    obtain ⟨hp, g, d, tk, os⟩ := s; obtain ⟨hl, hb, h⟩ := h
    have f2 := AutoSeq1.sub_tuple_tuple
    have z1 : items.size = ns.length := by rw [← hi.length]; simp
    have z2 : items2.size = ms.length := by rw [← hj.length]; simp
    wp_walk using wpAny_loadPart' hl, wpAny_loadPart' hb, wpAny_forIn_list _ (fun rest b s' => b.1 = none ∧ s' = ⟨hp, g, d, tk, os⟩ ∧ ∃ (vs ws : List Value) (ns' ms' : List Int), rest = vs.zip ws ∧
      IntsAre vs ns' ∧ IntsAre ws ms' ∧ ns'.length + items2.size = ms'.length + items.size ∧ R (.ok (.ret (.bool (lexLt ns' ms')))) ⟨hp, g, d, tk, os⟩) _
    case turn =>
      rintro ⟨y, x⟩ rest b s' ⟨hb', rfl, vs, ws, ns', ms', hz, hvi, hwi, hlen, hR⟩
      cases hvi with
      | nil => rw [List.zip_nil_left] at hz; cases hz
      | cons a t hvi' =>
        cases hwi with
        | nil => rw [List.zip_nil_right] at hz; cases hz
        | cons c u hwi' =>
          rw [List.zip_cons_cons] at hz
          injection hz with hyx hrest
          injection hyx with hy hx
          subst hy hx
          rw [lexLt_cons] at hR
          simp only [List.length_cons] at hlen
          obtain ⟨e, he, hiff⟩ := eqAt_int A.in1 ⟨hp, g, d, tk, os⟩ a t c u
          refine wpAny_bind (he prog w _ _ ?_)
          cases e with
          | true =>
            rw [if_pos (hiff.mp rfl)] at hR
            wp_walk
            exact ⟨rfl, rfl, _, _, _, _, hrest, hvi', hwi', by omega, hR⟩
          | false =>
            rw [if_neg (fun q => absurd (hiff.mpr q) Bool.false_ne_true)] at hR
            have hri := rcLt_int A.in1 ⟨hp, g, d, tk, os⟩ a t c u prog w
            wp_walk using hri
            exact ⟨_, rfl, by simpa using hR⟩
    case fin =>
      rintro ⟨b1, b2⟩ s' ⟨hb', rfl, vs, ws, ns', ms', hz, hvi, hwi, hlen, hR⟩
      simp only at hb'
      subst hb'
      have hv : lexLt ns' ms' = decide (items.size < items2.size) := by
        cases hvi with
        | nil =>
          cases hwi with
          | nil =>
            simp only [List.length_nil] at hlen
            rw [lexLt_nil_nil]
            exact (decide_eq_false (by omega)).symm
          | cons c u hw =>
            simp only [List.length_nil, List.length_cons] at hlen
            rw [lexLt_nil_cons]
            exact (decide_eq_true (by omega)).symm
        | cons a t hv =>
          cases hwi with
          | nil =>
            simp only [List.length_nil, List.length_cons] at hlen
            rw [lexLt_cons_nil]
            exact (decide_eq_false (by omega)).symm
          | cons c u hw =>
            rw [List.zip_cons_cons] at hz
            cases hz
      rw [hv] at hR
      wp_walk
      exact ⟨_, rfl, by simpa [Builtin.Tuple.tupleCompareSizes] using hR⟩
    case h =>
      exact ⟨rfl, rfl, items.toList, items2.toList, ns, ms, rfl, hi, hj, by omega, h⟩
end

section
variable {prog : Program} {w : World} {A : Around} {E : Value → Shared → Prop} {s : Shared}

theorem lt_tupInts {l b : Addr} {items items2 : Array Value} {ns ms : List Int} {Q : Value → Shared → Prop} (hl : IsTup s.heap l items) (hb : IsTup s.heap b items2) (hi : IntsAre items.toList ns) (hj : IntsAre items2.toList ms)
    (hu : A.units < cLine) (h : Q (.bool (lexLt ns ms)) s) : wpAny (model prog w) A (compareOp .Lt (.ref l) (.ref b)) Q E s := by
  obtain ⟨⟨cls, dd, data, sl⟩, ho, hc, n, hd⟩ := id hl
  obtain ⟨⟨cls2, dd2, data2, sl2⟩, ho2, hc2, n2, hd2⟩ := id hb
  simp only at hc hd hc2 hd2
  subst hc hd hc2 hd2
  exact richCompare_meets_room (op := .Lt) ⟨_, ho, rfl⟩ ⟨_, ho2, rfl⟩ PySem.F.slot_tuple_lt PySem.F.entry_tuple_lt (PySem.F.args_tuple_lt_2 _ _) (tuple_lt_ints l b items items2 n n2 dd dd2 sl sl2 ns ms hi hj)
    ⟨ho, ho2, show Value.bool (lexLt ns ms) ≠ Value.notImplemented ∧ Q (.bool (lexLt ns ms)) s from ⟨(fun x => nomatch x), h⟩⟩ hu

/-- t + u, t not empty -/
theorem cat_tup {t b : Addr} {vs ws : List Value} {Q : Value → Shared → Prop} (ht : IsTup s.heap t vs.toArray) (hb : IsTup s.heap b ws.toArray) (hv : vs ≠ [])
    (h1 : ws = [] → Q (.ref t) s) (h2 : ws ≠ [] → Q (.ref s.heap.objs.size) { s with heap := s.heap.push { cls := .type "tuple", data := .seq (vs ++ ws).toArray } })
    (hsz : vs.length + ws.length ≤ sizeLine) : wpAny (model prog w) A (binaryOp .Add (.ref t) (.ref b)) Q E s := by
  obtain ⟨⟨cls, dd, data, sl⟩, ho, hc, n, hd⟩ := id ht
  obtain ⟨⟨cls2, dd2, data2, sl2⟩, ho2, hc2, n2, hd2⟩ := id hb
  simp only at hc hd hc2 hd2
  subst hc hd hc2 hd2
  have e : vs.toArray ++ ws.toArray = (vs ++ ws).toArray := by simp
  by_cases hw : ws = []
  · exact concat_meets ⟨_, ho, rfl⟩ ⟨_, ho2, rfl⟩ noFill_tuple_add seq_tuple_add PySem.F.slot_tuple_add PySem.F.entry_tuple_add (PySem.F.args_tuple_add_2 _ _)
      (tuple_addW1 t b vs.toArray ws.toArray n n2 dd dd2 sl sl2 (by simpa using hv) (by simp [hw])) ⟨ho, ho2, h1 hw⟩
  · refine concat_meets ⟨_, ho, rfl⟩ ⟨_, ho2, rfl⟩ noFill_tuple_add seq_tuple_add PySem.F.slot_tuple_add PySem.F.entry_tuple_add (PySem.F.args_tuple_add_2 _ _)
      (tuple_addW2 t b vs.toArray ws.toArray n n2 dd dd2 sl sl2 (by simpa using hv) (by simpa using hw) (by rw [List.size_toArray, List.size_toArray]; exact hsz)) ⟨ho, ho2, ?_⟩
    rw [e]
    exact h2 hw

/-! ### t[a:b], not the whole -/
/-- a slice's bound as a place among n (d where it is left out) -/
def sIx (n d : Nat) : Option Int → Nat
  | none => d
  | some v => if v < 0 then (v + (n : Int)).toNat else min v.toNat n
theorem sIx_none (n d : Nat) : sIx n d none = d := rfl
theorem sIx_nat (n d k : Nat) : sIx n d (some (k : Int)) = min k n := by
  show (if (k : Int) < 0 then ((k : Int) + (n : Int)).toNat else min (k : Int).toNat n) = min k n
  rw [if_neg (by omega), Int.toNat_natCast]
theorem sIx_le (n d : Nat) (hd : d ≤ n) (o : Option Int) : sIx n d o ≤ n := by
  cases o with
  | none => exact hd
  | some v =>
    show (if v < 0 then (v + (n : Int)).toNat else min v.toNat n) ≤ n
    by_cases hv : v < 0
    · rw [if_pos hv]; omega
    · rw [if_neg hv]; exact Nat.min_le_right _ _
theorem clip_eq (v : Int) (n d : Nat) : (if v < 0 then max (v + (n : Int)) 0 else min v (n : Int)) = ((sIx n d (some v) : Nat) : Int) := by
  show (if v < 0 then max (v + (n : Int)) 0 else min v (n : Int)) = (((if v < 0 then (v + (n : Int)).toNat else min v.toNat n) : Nat) : Int)
  by_cases hv : v < 0
  · simp only [if_pos hv]; omega
  · simp only [if_neg hv]; omega
theorem adjust_gen (lo hi : Option Int) (n : Nat) : Builtin.Slice.sliceAdjust lo hi 1 (n : Int) = (((sIx n 0 lo : Nat) : Int), ((sIx n n hi : Nat) : Int)) := by
  have h1 : ¬ ((1 : Int) < 0) := by omega
  unfold Builtin.Slice.sliceAdjust
  simp only [h1, if_false]
  refine Prod.ext ?_ ?_
  · cases lo with
    | none => rfl
    | some v => exact clip_eq v n 0
  · cases hi with
    | none => rfl
    | some v => exact clip_eq v n n
theorem places_gen (i j : Nat) : Builtin.Slice.slicePlaces (i : Int) (j : Int) 1 = j - i := by
  unfold Builtin.Slice.slicePlaces
  have h1 : (1 : Int) > 0 := by omega
  simp only [h1, if_true, Int.ediv_one]
  split <;> omega
theorem slicePart_ {v : Value} {o : Option Int} {Q : Option Int → Shared → Prop} (p : IsPart v o) (h : Q o s) : wpAny (model prog w) A (Builtin.Slice.slicePartIndex v) Q E s := by
  cases p with
  | none => exact slicePart_none h
  | int i t => exact slicePart_int h
theorem sliceApplied_gen {sl : Addr} {vl vu : Value} {lo hi : Option Int} {n : Nat} {Q : Int × Int × Nat → Shared → Prop} (hs : s.heap.IsSliceOf sl vl vu .none) (pl : IsPart vl lo) (pu : IsPart vu hi)
    (h : Q (((sIx n 0 lo : Nat) : Int), 1, sIx n n hi - sIx n 0 lo) s) : wpAny (model prog w) A (Builtin.Slice.sliceApplied (.ref sl) (pure (n : Int))) Q E s := by
  obtain ⟨os, hos, hcs, hds⟩ := id hs
  unfold Builtin.Slice.sliceApplied Builtin.Slice.sliceFields
  refine wpAny_bind (wpAny_bind (wpAny_field hos hds (x := vl) rfl (wpAny_bind (wpAny_field hos hds (x := vu) rfl (wpAny_bind (wpAny_field hos hds (x := .none) rfl (wpAny_pure ?_)))))))
  refine wpAny_bind (slicePart_none ?_)
  show wpAny _ _ (if ((1 : Int) == 0) = true then _ else _) _ _ s
  rw [if_neg (by decide)]
  refine wpAny_bind (slicePart_ pl (wpAny_bind (slicePart_ pu (wpAny_bind (wpAny_pure ?_)))))
  show wpAny _ _ (match Builtin.Slice.sliceAdjust lo hi 1 (n : Int) with | (lo, hi) => pure (lo, (1 : Int), Builtin.Slice.slicePlaces lo hi 1)) _ _ s
  rw [adjust_gen lo hi n]
  show wpAny _ _ (pure (((sIx n 0 lo : Nat) : Int), (1 : Int), Builtin.Slice.slicePlaces ((sIx n 0 lo : Nat) : Int) ((sIx n n hi : Nat) : Int) 1)) _ _ s
  rw [places_gen]
  exact wpAny_pure h
theorem pick_gen (xs : Array Value) (i k : Nat) : ((List.range k).filterMap fun (m : Nat) => xs[((i : Int) + (m : Int) * 1).toNat]?).toArray = ((xs.toList.drop i).take k).toArray := by
  have e : (fun (m : Nat) => xs[((i : Int) + (m : Int) * 1).toNat]?) = fun m => xs[i + m]? := by
    funext m
    have : ((i : Int) + (m : Int) * 1).toNat = i + m := by omega
    rw [this]
  rw [e]
  have := pick_run xs i k
  rw [List.filterMap_map] at this
  have e2 : ((fun x => xs[x]?) ∘ fun x => i + x) = fun m => xs[i + m]? := rfl
  rw [e2] at this
  rw [this]

theorem getItem_tuple_cut {t sl : Addr} {items : Array Value} {vl vu : Value} {lo hi : Option Int} {Q : Value → Shared → Prop} (ht : IsTup s.heap t items) (hs : s.heap.IsSliceOf sl vl vu .none) (pl : IsPart vl lo) (pu : IsPart vu hi)
    (hw : ¬ (sIx items.size 0 lo = 0 ∧ sIx items.size items.size hi = items.size))
    (h : Q (.ref s.heap.objs.size) { s with heap := s.heap.push { cls := .type "tuple", data := .seq ((items.toList.drop (sIx items.size 0 lo)).take (sIx items.size items.size hi - sIx items.size 0 lo)).toArray } })
    (hsz : items.size ≤ sizeLine) : wpAny (model prog w) A (getItem (.ref t) (.ref sl)) Q E s := by
  have htake : sizeOk (.seq ((items.toList.drop (sIx items.size 0 lo)).take (sIx items.size items.size hi - sIx items.size 0 lo)).toArray) := by
    show ((items.toList.drop (sIx items.size 0 lo)).take (sIx items.size items.size hi - sIx items.size 0 lo)).toArray.size ≤ sizeLine
    rw [List.size_toArray, List.length_take, List.length_drop, Array.length_toList]
    omega
  have hj : sIx items.size items.size hi ≤ items.size := sIx_le _ _ (Nat.le_refl _) hi
  obtain ⟨os, hos, hcs, hds⟩ := id hs
  have hTs : s.TypeIs (.ref sl) "slice" := ⟨os, hos, hcs⟩
  unfold getItem
  try with_reducible refine wpAny_holding ?_
  first | refine wpAny_bind (wpAny_pure ?_) | skip
  refine wpAny_bind (wpAny_sequenceKey ht.typeIs (by decide) ?_)
  refine wpAny_bind (wpAny_callSpecial?_slot (name := Str.ofString "__getitem__") ht.typeIs PyProof.Rows.slot_tuple_getitem
    (wpAny_call_entry PyProof.Rows.slot_tuple_getitem ht.typeIs entry_tuple_getitem ?_ (args_tuple_getitem _ _)))
  show wpAny _ _ (Builtin.Tuple.tupleItemsOf (.ref t) >>= _) _ _ s
  refine wpAny_bind (tupleItemsOf_ ht ?_)
  refine wpAny_bind (wpAny_typeOf hTs ?_)
  rw [if_pos (by decide)]
  refine wpAny_bind (sliceApplied_gen hs pl pu ?_)
  have hno : ¬ ((((sIx items.size 0 lo : Nat) : Int) == 0 && (1 : Int) == 1 && (sIx items.size items.size hi - sIx items.size 0 lo) == items.size) = true) := by
    intro q
    rw [Bool.and_eq_true, Bool.and_eq_true] at q
    have q1 : ((sIx items.size 0 lo : Nat) : Int) = 0 := eq_of_beq q.1.1
    have q2 : sIx items.size items.size hi - sIx items.size 0 lo = items.size := eq_of_beq q.2
    exact hw ⟨by omega, by omega⟩
  show wpAny _ _ (if (((sIx items.size 0 lo : Nat) : Int) == 0 && (1 : Int) == 1 && (sIx items.size items.size hi - sIx items.size 0 lo) == items.size) = true then _ else _) _ _ s
  rw [if_neg hno, pick_gen]
  first
    | exact wpAny_bind (m := Builtin.Tuple.tupleExact _) (wpAny_newObj_type (wpAny_pure ⟨_, rfl, wpAny_pure h⟩) htake)
    | exact wpAny_bind (m := Builtin.Tuple.tupleExact _) (wpAny_newObj_type (wpAny_bind (wpAny_pure (wpAny_pure ⟨_, rfl, wpAny_pure h⟩))) htake)
    | exact wpAny_bind (wpAny_bind (m := Builtin.Tuple.tupleExact _) (wpAny_newObj_type (wpAny_pure (wpAny_pure ⟨_, rfl, wpAny_pure h⟩)) htake))
    | exact wpAny_bind (wpAny_bind (m := Builtin.Tuple.tupleExact _) (wpAny_newObj_type (wpAny_pure ⟨_, rfl, wpAny_pure h⟩) htake))
end
end HT

namespace L2
open PySem PySem.Spec PyProof.Rows

/-! ### the parts of a slice -/
abbrev TO := St → Hp → (Option Int → Hp → Prop) → Prop
/-- a slice's part (left out, or an int) -/
def PO (X : Cx) (e : Option Expr) (t : TO) : Prop :=
  ∀ (pins : List (Addr × Obj)) (s : Shared) (σ : St) (H : Hp) (Q : Option Int → Hp → Prop), Inv X pins σ H s → t σ H Q →
    wpAny (model X.prog X.w) X.A (evalPart e X.env) (fun u s' => ∃ o H', Inv X pins σ H' s' ∧ IsPart u o ∧ Q o H') X.xe s
def tNoPart : TO := fun _ H Q => Q none H
def tPart (t : TE) : TO := fun σ H Q => t σ H fun x H1 => ∃ i, x = .int i ∧ Q (some i) H1

theorem intsAre_of {ns : List Int} : ∀ {us : List Value}, Vals (ns.map V.int) us → IntsAre us ns := by
  induction ns with
  | nil => intro us r; rw [List.map_nil] at r; cases r; exact .nil
  | cons n ns ih =>
    intro us r
    rw [List.map_cons] at r
    cases r with
    | cons r1 r2 =>
      obtain ⟨t, e⟩ := r1
      subst e
      exact .cons n t (ih r2)

section
variable {X : Cx} {e : Expr} {te : TE} {lo hi : Option Expr} {tl th : TO} {pos p2 : Pos}

theorem po_none : PO X none tNoPart := by
  intro pins s σ H Q I h
  rw [evalPart_none]
  exact wpAny_pure ⟨none, H, I, .none, h⟩
theorem po_some (h : PE X e te) : PO X (some e) (tPart te) := by
  intro pins s σ H Q I hw
  rw [evalPart_some]
  refine thn (h pins s σ H _ I hw) fun u s1 ⟨x, H1, I1, r1, q1⟩ => ?_
  obtain ⟨i, rfl, q⟩ := q1
  obtain ⟨t, rfl⟩ := r1
  exact ⟨some i, H1, I1, .int i t, q⟩

/-- what a slice of a value is, by values: the slice object stands at sl -/
def SlR (X : Cx) (r : V → Option Int → Option Int → Hp → VK → Prop) : Prop :=
  ∀ (pins : List (Addr × Obj)) (s : Shared) (σ : St) (H : Hp) (x : V) (v vl vu : Value) (lo hi : Option Int) (sl : Addr) (Q : VK), Inv X pins σ H s → RelV x v → s.heap.IsSliceOf sl vl vu .none → IsPart vl lo → IsPart vu hi → r x lo hi H Q →
    ∃ T id, typeLookup (.type T) "__getitem__" = pure (some (.builtin id)) ∧ s.TypeIs v T ∧ wpAny (model X.prog X.w) X.A (getItem v (.ref sl)) (EP X pins σ Q) X.xe s
theorem SlR.or {r r' : V → Option Int → Option Int → Hp → VK → Prop} (h : SlR X r) (h' : SlR X r') : SlR X (fun x lo hi H Q => r x lo hi H Q ∨ r' x lo hi H Q) := by
  intro pins s σ H x v vl vu lo hi sl Q I rx hs pl pu q
  rcases q with q | q
  · exact h pins s σ H x v vl vu lo hi sl Q I rx hs pl pu q
  · exact h' pins s σ H x v vl vu lo hi sl Q I rx hs pl pu q
def tSl (r : V → Option Int → Option Int → Hp → VK → Prop) (te : TE) (tl th : TO) : TE := fun σ H Q => te σ H fun x H1 => tl σ H1 fun l H2 => th σ H2 fun u H3 => r x l u H3 Q
/-- a[lo:hi], any a -/
theorem pe_slice {r : V → Option Int → Option Int → Hp → VK → Prop} (hr : SlR X r) (he : PE X e te) (hl : PO X lo tl) (hu : PO X hi th) : PE X (.Subscript e (.Slice lo hi none p2) pos) (tSl r te tl th) := by
  intro pins s σ H Q I h
  refine Subscript_ (thn (he pins s σ H _ I h) fun v s1 ⟨x, H1, I1, r1, q1⟩ => ?_)
  refine wpAny_Slice (thn (hl pins s1 σ H1 _ I1 q1) fun vl s2 ⟨l, H2, I2, pl, q2⟩ => thn (hu pins s2 σ H2 _ I2 q2) fun vu s3 ⟨u, H3, I3, pu, q3⟩ => ?_)
  rw [evalPart_none]
  refine wpAny_pure ?_
  have I4 : Inv X pins σ H3 { s3 with heap := s3.heap.push { cls := .type "slice", data := .fields #[vl, vu, .none] } } := I3.kept (t' := s3.toks) fun b ob q => Heap.get?_push_of_some _ q
  obtain ⟨T, id, hT, ht, hg⟩ := hr pins { s3 with heap := s3.heap.push { cls := .type "slice", data := .fields #[vl, vu, .none] } } σ H3 x v vl vu l u s3.heap.objs.size Q I4 r1 (Heap.IsSliceOf.new ..) pl pu q3
  show wpAny (model X.prog X.w) X.A (subscriptTail e (.Slice lo hi none p2) v (.ref s3.heap.objs.size)) (EP X pins σ Q) X.xe { s3 with heap := s3.heap.push { cls := .type "slice", data := .fields #[vl, vu, .none] } }
  exact tail_any (ops := [.ref s3.heap.objs.size, v]) ht hT hg (by with_unfolding_all rfl)

/-- the items of xs[lo:hi] -/
def cutV (xs : List V) (lo hi : Option Int) : List V := (xs.drop (HT.sIx xs.length 0 lo)).take (HT.sIx xs.length xs.length hi - HT.sIx xs.length 0 lo)
theorem cutV_length (xs : List V) (lo hi : Option Int) : (cutV xs lo hi).length ≤ xs.length := by
  unfold cutV
  rw [List.length_take, List.length_drop]
  omega
/-- t[lo:hi], not the whole of it (the whole would be t itself) -/
def rSlT (K : PySem.W.Frag) : V → Option Int → Option Int → Hp → VK → Prop := fun x lo hi H Q => ∃ a xs, x = .ref a ∧ SqT K H a xs ∧
  ¬ (HT.sIx xs.length 0 lo = 0 ∧ HT.sIx xs.length xs.length hi = xs.length) ∧ ∀ p, H p = none → Q (.ref p) (upd H p (.tup (cutV xs lo hi)))
theorem sl_tup : SlR X (rSlT X.K) := by
  intro pins s σ H x v vl vu lo hi sl Q I rx hs pl pu h
  obtain ⟨a, xs, rfl, hx, hw, q⟩ := h
  cases rx
  obtain ⟨its, r, ht, hz⟩ := I.tuple hx
  have hlen : its.toArray.size = xs.length := by rw [List.size_toArray]; exact r.length.symm
  refine ⟨"tuple", _, PyProof.Rows.slot_tuple_getitem.lookup, ht.typeIs, ?_⟩
  refine HT.getItem_tuple_cut ht hs pl pu (by rw [hlen]; exact hw) ?_ (by rw [hlen]; exact hz)
  rw [hlen]
  refine ⟨.ref s.heap.objs.size, _, I.laid (t' := s.toks) (o := .tup (cutV xs lo hi)) (fun b ob q => Heap.get?_push_of_some _ q) (Nat.le_refl _) ?_, rfl, q _ (I.hok.fresh (Nat.le_refl _))⟩
  exact ⟨Nat.le_trans (cutV_length xs lo hi) hz, _, (r.drop (HT.sIx xs.length 0 lo)).take (HT.sIx xs.length xs.length hi - HT.sIx xs.length 0 lo), IsTup.new _ _⟩

/-! ### t < u, t + u -/
def rLtT (K : PySem.W.Frag) : R2 := fun x y H Q => ∃ a b ns ms, x = .ref a ∧ y = .ref b ∧ SqT K H a (ns.map V.int) ∧ SqT K H b (ms.map V.int) ∧ Q (.bl (HT.lexLt ns ms)) H
theorem op_ltT (hu : X.A.units < cLine) : OpR X (compareOp .Lt) (rLtT X.K) := by
  intro pins s σ H x y v u Q I rx ry h
  obtain ⟨a, b, ns, ms, rfl, rfl, ha, hb, q⟩ := h
  cases rx
  cases ry
  obtain ⟨its, r1, p1, _⟩ := I.tuple ha
  obtain ⟨its2, r2, p2, _⟩ := I.tuple hb
  have i1 : IntsAre its.toArray.toList ns := intsAre_of r1
  have i2 : IntsAre its2.toArray.toList ms := intsAre_of r2
  exact HT.lt_tupInts p1 p2 i1 i2 hu ⟨.bl (HT.lexLt ns ms), H, I, rfl, q⟩
/-- t + u, t not empty: u empty gives t itself -/
def rCatT (K : PySem.W.Frag) : R2 := fun x y H Q => ∃ a b xs ys, x = .ref a ∧ y = .ref b ∧ SqT K H a xs ∧ SqT K H b ys ∧ xs ≠ [] ∧ xs.length + ys.length ≤ sizeLine ∧
  (ys = [] → Q (.ref a) H) ∧ (ys ≠ [] → ∀ p, H p = none → Q (.ref p) (upd H p (.tup (xs ++ ys))))
theorem Vals.nil_iff {xs : List V} {us : List Value} (r : Vals xs us) : us = [] ↔ xs = [] := by
  cases r with
  | nil => simp
  | cons _ _ => simp
theorem op_catT : OpR X (binaryOp .Add) (rCatT X.K) := by
  intro pins s σ H x y v u Q I rx ry h
  obtain ⟨a, b, xs, ys, rfl, rfl, ha, hb, hx, hz, q1, q2⟩ := h
  cases rx
  cases ry
  obtain ⟨its, r1, p1, _⟩ := I.tuple ha
  obtain ⟨its2, r2, p2, _⟩ := I.tuple hb
  refine HT.cat_tup p1 p2 (fun z => hx (r1.nil_iff.mp z)) (fun z => ⟨.ref a, H, I, rfl, q1 (r2.nil_iff.mp z)⟩) (fun z => ?_) (by rw [← r1.length, ← r2.length]; exact hz)
  refine ⟨.ref s.heap.objs.size, _, I.laid (t' := s.toks) (o := .tup (xs ++ ys)) (fun b ob q => Heap.get?_push_of_some _ q) (Nat.le_refl _) ?_, rfl, q2 (fun w => z (r2.nil_iff.mpr w)) _ (I.hok.fresh (Nat.le_refl _))⟩
  exact ⟨by rw [List.length_append]; exact hz, _, r1.append r2, IsTup.new _ _⟩
/-- tuple(t) -/
theorem call_tupleT : CallR X (.type "tuple") (fun xs H Q => ∃ a ys, xs = [.ref a] ∧ SqT X.K H a ys ∧ Q (.ref a) H) := by
  intro pins s σ H xs us Q I r h
  obtain ⟨a, ys, rfl, ha, q⟩ := h
  obtain ⟨u, rfl, ru⟩ := vals1 r
  cases ru
  obtain ⟨its, _, p1, _⟩ := I.tuple ha
  exact call_tuple_same (items := its.toArray) p1 ⟨.ref a, H, I, rfl, q⟩
end
end L2

namespace L2
open PySem PySem.Spec PyProof.Rows

/-! ### places -/
/-- the place that an index of any sign means -/
def ixN (n : Nat) (i : Int) : Option Nat := if 0 ≤ i then (if i < n then some i.toNat else none) else if -(n : Int) ≤ i then some (i + n).toNat else none
def atI {α : Type} (xs : List α) (i : Int) : Option α := (ixN xs.length i).bind fun j => xs[j]?
theorem ixN_seq {n : Nat} {i : Int} {j : Nat} (h : ixN n i = some j) : seqIndex? i n = some j ∧ j < n ∧ -(n : Int) ≤ i ∧ i < n := by
  unfold ixN at h
  by_cases h0 : 0 ≤ i
  · rw [if_pos h0] at h
    by_cases h1 : i < n
    · rw [if_pos h1] at h
      have e : i.toNat = j := Option.some.inj h
      exact ⟨by rw [seqIndex_of h0 h1, e], by omega, by omega, h1⟩
    · rw [if_neg h1] at h; cases h
  · rw [if_neg h0] at h
    by_cases h1 : -(n : Int) ≤ i
    · rw [if_pos h1] at h
      have e : (i + n).toNat = j := Option.some.inj h
      exact ⟨by rw [seqIndex_neg (by omega) h1, e], by omega, h1, by omega⟩
    · rw [if_neg h1] at h; cases h
theorem atI_get {α : Type} {xs : List α} {i : Int} {v : α} (h : atI xs i = some v) : ∃ j, seqIndex? i xs.length = some j ∧ xs[j]? = some v ∧ j < xs.length ∧ -(xs.length : Int) ≤ i ∧ i < xs.length := by
  unfold atI at h
  cases e : ixN xs.length i with
  | none => rw [e] at h; cases h
  | some j =>
    rw [e] at h
    obtain ⟨h1, h2, h3, h4⟩ := ixN_seq e
    exact ⟨j, h1, h, h2, h3, h4⟩
theorem atI_nat {α : Type} {xs : List α} {j : Nat} {v : α} (h : xs[j]? = some v) : atI xs (j : Int) = some v := by
  have hj : j < xs.length := (List.getElem?_eq_some_iff.mp h).1
  have e : ixN xs.length (j : Int) = some j := by
    unfold ixN
    rw [if_pos (by omega), if_pos (by omega)]; simp
  unfold atI; rw [e]; exact h
theorem atI_last {α : Type} (xs : List α) (v : α) : atI (xs ++ [v]) (-1) = some v := by
  have hl : (xs ++ [v]).length = xs.length + 1 := by simp
  have e : ixN (xs ++ [v]).length (-1) = some xs.length := by
    unfold ixN
    rw [hl, if_neg (by decide), if_pos (by omega)]
    congr 1
    omega
  unfold atI
  rw [e]
  show (xs ++ [v])[xs.length]? = some v
  simp

/-! ### what may be subscripted -/
/-- what stands as an index of a plain subscript -/
def PlainIx (b : Expr) : Prop := ∀ o i, subscripted b false o i = operate [o, i] (getItem o i)
/-- a subscript by values -/
def IxR (X : Cx) (r : R2) : Prop :=
  ∀ (value slice : Expr) (pins : List (Addr × Obj)) (s : Shared) (σ : St) (H : Hp) (x y : V) (v u : Value) (Q : VK), Inv X pins σ H s → RelV x v → RelV y u → r x y H Q →
    subscripted slice false v u = operate [v, u] (getItem v u) → wpAny (model X.prog X.w) X.A (subscriptTail value slice v u) (EP X pins σ Q) X.xe s
/-- a call of a builtin's method by values: the receiver, the arguments -/
def MtR (X : Cx) (id : String) (r : V → List V → Hp → VK → Prop) : Prop :=
  ∀ (pins : List (Addr × Obj)) (s : Shared) (σ : St) (H : Hp) (x : V) (xs : List V) (v : Value) (us : List Value) (Q : VK), Inv X pins σ H s → RelV x v → Vals xs us → r x xs H Q →
    wpAny (model X.prog X.w) X.A (call (.builtin id) (v :: us)) (EP X pins σ Q) X.xe s
section
variable {X : Cx} {a b : Expr} {ta tb : TE} {pos : Pos}
theorem IxR.or {r r' : R2} (h : IxR X r) (h' : IxR X r') : IxR X (fun x y H Q => r x y H Q ∨ r' x y H Q) := by
  intro value slice pins s σ H x y v u Q I rx ry q hs
  rcases q with q | q
  · exact h value slice pins s σ H x y v u Q I rx ry q hs
  · exact h' value slice pins s σ H x y v u Q I rx ry q hs
theorem MtR.or {id : String} {r r' : V → List V → Hp → VK → Prop} (h : MtR X id r) (h' : MtR X id r') : MtR X id (fun x xs H Q => r x xs H Q ∨ r' x xs H Q) := by
  intro pins s σ H x xs v us Q I rx rs q
  rcases q with q | q
  · exact h pins s σ H x xs v us Q I rx rs q
  · exact h' pins s σ H x xs v us Q I rx rs q
/-- a[b] -/
theorem pe_ix {r : R2} (hr : IxR X r) (ha : PE X a ta) (hb : PE X b tb) (hs : PlainIx b) : PE X (.Subscript a b pos) (tOp r ta tb) := by
  intro pins s σ H Q I h
  exact Subscript_ (binT ha hb I h fun v u s2 x y H2 I2 rx ry q => hr a b pins s2 σ H2 x y v u Q I2 rx ry q (hs _ _))

def rIxL (K : PySem.W.Frag) : R2 := fun x y H Q => ∃ p xs i v, x = .ref p ∧ y = .int i ∧ SqL K H p xs ∧ atI xs i = some v ∧ Q v H
def rIxT (K : PySem.W.Frag) : R2 := fun x y H Q => ∃ p xs i v, x = .ref p ∧ y = .int i ∧ SqT K H p xs ∧ atI xs i = some v ∧ Q v H
def rIxS : R2 := fun x y H Q => ∃ z i c, x = .str z ∧ y = .int i ∧ z.length ≤ sizeLine ∧ atI z.cps.toList i = some c ∧ Q (.str ⟨#[c]⟩) H
theorem ix_list : IxR X (rIxL X.K) := by
  intro value slice pins s σ H x y v u Q I rx ry h hs
  obtain ⟨p, xs, i, z, rfl, rfl, hq, he, q⟩ := h
  cases rx
  obtain ⟨t, rfl⟩ := ry
  obtain ⟨its, r, pl, hz⟩ := I.list hq
  obtain ⟨j, h1, h2, h3, h4, h5⟩ := atI_get he
  obtain ⟨w, ew, rw'⟩ := r.get h2
  have hl := r.length
  have hn := line63
  have fin : EP X pins σ Q w s := ⟨z, H, I, rw', q⟩
  by_cases h0 : 0 ≤ i
  · have hj : i.toNat = j := by
      rw [seqIndex_of h0 h5] at h1
      exact Option.some.inj h1
    exact item_listR pl.isList h0 (by omega) (by rw [hj]; simpa using ew) fin hs
  · have hj : (i + (its.toArray.size : Int)).toNat = j := by
      rw [seqIndex_neg (by omega) h4] at h1
      rw [List.size_toArray, ← hl]
      exact Option.some.inj h1
    exact subscriptTail_builtinR (x := w) pl.isList.typeIs slot_list_getitem.lookup
      (wpAny_getItem_list_neg (Q := fun r s' => r = w ∧ EP X pins σ Q r s') pl.isList (by omega) (by rw [List.size_toArray] <;> omega) (by omega) (by rw [hj]; simpa using ew) ⟨rfl, fin⟩) hs
theorem ix_tup : IxR X (rIxT X.K) := by
  intro value slice pins s σ H x y v u Q I rx ry h hs
  obtain ⟨p, xs, i, z, rfl, rfl, hq, he, q⟩ := h
  cases rx
  obtain ⟨t, rfl⟩ := ry
  obtain ⟨its, r, pl, hz⟩ := I.tuple hq
  obtain ⟨j, h1, h2, h3, h4, h5⟩ := atI_get he
  obtain ⟨w, ew, rw'⟩ := r.get h2
  have hl := r.length
  have hn := line63
  have fin : EP X pins σ Q w s := ⟨z, H, I, rw', q⟩
  exact subscriptTail_builtinR (x := w) pl.typeIs slot_tuple_getitem.lookup
    (getItem_tuple (j := j) (Q := fun r s' => r = w ∧ EP X pins σ Q r s') pl (by omega) (by omega) (by rw [List.size_toArray, ← hl]; exact h1) (by simpa using ew) ⟨rfl, fin⟩) hs
theorem ix_str : IxR X rIxS := by
  intro value slice pins s σ H x y v u Q I rx ry h hs
  obtain ⟨z, i, c, rfl, rfl, hz, he, q⟩ := h
  obtain ⟨t, rfl⟩ := rx
  obtain ⟨t', rfl⟩ := ry
  obtain ⟨j, h1, h2, h3, h4, h5⟩ := atI_get he
  have hl : z.cps.toList.length = z.length := by simp [Str.length]
  rw [hl] at h1 h4 h5
  have hn := line63
  exact tail_any (typeIs_str s z t) slot_str_getitem.lookup (getItem_str (c := c) (by
    have e1 : decide (i < -(2 ^ 63 : Int)) = false := decide_eq_false (by omega)
    have e2 : decide (i ≥ 2 ^ 63) = false := decide_eq_false (by omega)
    rw [e1, e2, Bool.or_false]) (by rw [h1]; simpa using h2) ⟨.str ⟨#[c]⟩, H, I.tok _, ⟨_, rfl⟩, q⟩) hs
/-- list, tuple or str -/
def rIx (K : PySem.W.Frag) : R2 := fun x y H Q => rIxL K x y H Q ∨ rIxT K x y H Q ∨ rIxS x y H Q
theorem ix_seq : IxR X (rIx X.K) := ix_list.or (ix_tup.or ix_str)

/-! ### xs[i] = v, any sign -/
/-- the list's object behind a store -/
theorem mapSeq_set (its : List Value) (n j : Nat) (u : Value) : Obj.mapSeq (·.setIfInBounds j u) { cls := .type "list", data := .seq its.toArray n } = { cls := .type "list", data := .seq (its.set j u).toArray n } := by
  simp [Obj.mapSeq]
theorem Inv.lst {pins : List (Addr × Obj)} {σ : St} {H : Hp} {s : Shared} {p : Addr} {xs : List V} (I : Inv X pins σ H s) (h : H p = some (.lst xs)) :
    ∃ (its : List Value) (n : Nat), Vals xs its ∧ s.heap.get? p = some { cls := .type "list", data := .seq its.toArray n } ∧ xs.length ≤ sizeLine := by
  obtain ⟨z, its, n, r, e⟩ := I.hok p _ h
  exact ⟨its, n, r, e, z⟩
/-- the list at p is written by an update of its object -/
theorem Inv.lstUpd {pins : List (Addr × Obj)} {σ : St} {H : Hp} {s : Shared} {p : Addr} {xs ys : List V} {its its' : List Value} {n n' : Nat} {f : Obj → Obj} (I : Inv X pins σ H s) (h : H p = some (.lst xs))
    (ho : s.heap.get? p = some { cls := .type "list", data := .seq its.toArray n }) (hf : f { cls := .type "list", data := .seq its.toArray n } = { cls := .type "list", data := .seq its'.toArray n' }) (r : Vals ys its') (hz : ys.length ≤ sizeLine) (t : Nat) :
    Inv X pins σ (upd H p (.lst ys)) { s with heap := s.heap.update p f, toks := t } := by
  have e : (s.heap.update p f).get? p = some { cls := .type "list", data := .seq its'.toArray n' } := by
    rw [Heap.get?_update_self f ho (by rw [hf] <;> rfl), hf]
  refine I.write (x := p) (e := p) (by rw [h]; trivial) (.inl rfl) (fun b u hb q => (Heap.get?_update_other _ _ (Ne.symm hb)).trans q) ⟨_, e⟩ ?_
  exact ⟨hz, its', n', r, e⟩
def rSetL : V → V → V → Hp → (Hp → Prop) → Prop := fun o i v H Q => ∃ p xs k j, o = .ref p ∧ i = .int k ∧ H p = some (.lst xs) ∧ ixN xs.length k = some j ∧ Q (upd H p (.lst (xs.set j v)))
theorem set_list : PSet X rSetL := by
  intro pins s σ H o i v ov iv u Q I ro ri rv h
  obtain ⟨p, xs, k, j, rfl, rfl, hp, hj, q⟩ := h
  cases ro
  obtain ⟨t, rfl⟩ := ri
  obtain ⟨its, n, r, ho, hz⟩ := I.lst hp
  obtain ⟨h1, h2, h3, h4⟩ := ixN_seq hj
  have hl := r.length
  have hn := line63
  have I' : Inv X pins σ (upd H p (.lst (xs.set j v))) { s with heap := s.heap.update p (Obj.mapSeq (·.setIfInBounds j u)) } :=
    I.lstUpd hp ho (mapSeq_set its n j u) (r.set rv j) (by rw [List.length_set]; exact hz) s.toks
  by_cases h0 : 0 ≤ k
  · have hk : k.toNat = j := by
      rw [seqIndex_of h0 h4] at h1
      exact Option.some.inj h1
    exact PySem.W.ki_setAt ho h0 (by omega) (by rw [List.size_toArray, ← hl]; exact h4) (by rw [hk]; exact ⟨_, I', q⟩)
  · have hk : (k + (its.toArray.size : Int)).toNat = j := by
      rw [seqIndex_neg (by omega) h3] at h1
      rw [List.size_toArray, ← hl]
      exact Option.some.inj h1
    exact PySem.W.ki_setBack ho (by omega) (by rw [List.size_toArray, ← hl]; exact h3) (by omega) (by rw [hk]; exact ⟨_, I', q⟩)

/-! ### slices -/
theorem slice_bounds (lo hi : Option Int) (n : Nat) : (sliceBounds lo hi none n).1 = ((HT.sIx n 0 lo : Nat) : Int) ∧ (sliceBounds lo hi none n).2.1 = ((HT.sIx n n hi : Nat) : Int) ∧ (sliceBounds lo hi none n).2.2 = 1 := by
  refine ⟨?_, ?_, rfl⟩
  · cases lo with
    | none => simp [sliceBounds, HT.sIx]
    | some i =>
      simp only [sliceBounds, HT.sIx, Option.getD_none, show (1 : Int) > 0 by decide, if_true]
      by_cases h : i < 0
      · simp only [h, if_true] <;> omega
      · simp only [h, if_false] <;> omega
  · cases hi with
    | none => simp [sliceBounds, HT.sIx]
    | some i =>
      simp only [sliceBounds, HT.sIx, Option.getD_none, show (1 : Int) > 0 by decide, if_true]
      by_cases h : i < 0
      · simp only [h, if_true] <;> omega
      · simp only [h, if_false] <;> omega
theorem slicePick_cut (its : List Value) (lo hi : Option Int) : slicePick its.toArray lo hi none = ((its.drop (HT.sIx its.length 0 lo)).take (HT.sIx its.length its.length hi - HT.sIx its.length 0 lo)).toArray := by
  obtain ⟨h1, h2, h3⟩ := slice_bounds lo hi its.toArray.size
  unfold slicePick
  rw [h1, h2, h3]
  simp only [sliceRange_one, pick_run, List.size_toArray] <;> rfl
/-- xs[lo:hi] of a list: a new list -/
def rSlL (K : PySem.W.Frag) : V → Option Int → Option Int → Hp → VK → Prop := fun x lo hi H Q => ∃ a xs, x = .ref a ∧ SqL K H a xs ∧ ∀ p, H p = none → Q (.ref p) (upd H p (.lst (cutV xs lo hi)))
theorem sl_list : SlR X (rSlL X.K) := by
  intro pins s σ H x v vl vu lo hi sl Q I rx hs pl pu h
  obtain ⟨a, xs, rfl, hx, q⟩ := h
  cases rx
  obtain ⟨its, r, ht, hz⟩ := I.list hx
  have hlen := r.length
  refine ⟨"list", _, slot_list_getitem.lookup, ht.isList.typeIs, ?_⟩
  refine wpAny_getItem_list_slice ht.isList hs pl pu .none (by simp) ?_ (by rw [List.size_toArray] <;> omega)
  rw [slicePick_cut, ← hlen]
  refine ⟨.ref s.heap.objs.size, _, I.laid (t' := s.toks) (o := .lst (cutV xs lo hi)) (fun b ob q => Heap.get?_push_of_some _ q) (Nat.le_refl _) ?_, rfl, q _ (I.hok.fresh (Nat.le_refl _))⟩
  exact ⟨Nat.le_trans (cutV_length xs lo hi) hz, _, 0, (r.drop (HT.sIx xs.length 0 lo)).take (HT.sIx xs.length xs.length hi - HT.sIx xs.length 0 lo), Heap.get?_push_size _ rfl⟩

/-! ### in, not in: flat items -/
def flatV : V → Bool
  | .non => true
  | .bl _ => true
  | .int _ => true
  | .str _ => true
  | _ => false
/-- == of flat values -/
def eqV : V → V → Bool
  | .non, .non => true
  | .bl a, .bl b => a == b
  | .bl a, .int b => (if a then 1 else 0) == b
  | .int a, .bl b => a == (if b then 1 else 0)
  | .int a, .int b => a == b
  | .str a, .str b => a == b
  | _, _ => false
theorem eqAt_V {A : Around} {s : Shared} {y x : V} {u v : Value} (ry : RelV y u) (rx : RelV x v) (fy : flatV y = true) (fx : flatV x = true) : SeqAt.EqAt A s u v (eqV y x) := by
  cases y with
  | non =>
    cases ry
    cases x with
    | non => cases rx; exact SeqAt.EqAt.same _
    | bl b => cases rx; exact SeqAt.EqAt.none_bool b
    | int b => obtain ⟨t, rfl⟩ := rx; exact SeqAt.EqAt.none_int b t
    | str b => obtain ⟨t, rfl⟩ := rx; exact SeqAt.EqAt.none_str b t
    | _ => exact absurd (show false = true from fx) Bool.false_ne_true
  | bl a =>
    cases ry
    cases x with
    | non => cases rx; exact SeqAt.EqAt.bool_none a
    | bl b => cases rx; exact SeqAt.EqAt.bool_bool a b
    | int b => obtain ⟨t, rfl⟩ := rx; exact SeqAt.EqAt.bool_int a b t
    | str b => obtain ⟨t, rfl⟩ := rx; exact SeqAt.EqAt.bool_str a b t
    | _ => exact absurd (show false = true from fx) Bool.false_ne_true
  | int a =>
    obtain ⟨t', rfl⟩ := ry
    cases x with
    | non => cases rx; exact SeqAt.EqAt.int_none a t'
    | bl b => cases rx; exact SeqAt.EqAt.int_bool a t' b
    | int b => obtain ⟨t, rfl⟩ := rx; exact SeqAt.EqAt.int_int a t' b t
    | str b => obtain ⟨t, rfl⟩ := rx; exact SeqAt.EqAt.int_str a t' b t
    | _ => exact absurd (show false = true from fx) Bool.false_ne_true
  | str a =>
    obtain ⟨t', rfl⟩ := ry
    cases x with
    | non => cases rx; exact SeqAt.EqAt.str_none a t'
    | bl b => cases rx; exact SeqAt.EqAt.str_bool a t' b
    | int b => obtain ⟨t, rfl⟩ := rx; exact SeqAt.EqAt.str_int a t' b t
    | str b => obtain ⟨t, rfl⟩ := rx; exact SeqAt.EqAt.str_str a t' b t
    | _ => exact absurd (show false = true from fx) Bool.false_ne_true
  | _ => exact absurd (show false = true from fy) Bool.false_ne_true
/-- the items' answers, read off the values (a value's own answer does not lean on its token) -/
def eqU (x : V) (u : Value) : Bool := match u with
  | .none => eqV .non x
  | .bool b => eqV (.bl b) x
  | .int i _ => eqV (.int i) x
  | .str z _ => eqV (.str z) x
  | _ => false
theorem eqU_of {x y : V} {u : Value} (r : RelV y u) (f : flatV y = true) : eqU x u = eqV y x := by
  cases y with
  | non => cases r; rfl
  | bl b => cases r; rfl
  | int i => obtain ⟨t, rfl⟩ := r; rfl
  | str z => obtain ⟨t, rfl⟩ := r; rfl
  | _ => exact absurd (show false = true from f) Bool.false_ne_true
theorem any_eqU {x : V} : ∀ {xs : List V} {us : List Value}, Vals xs us → xs.all flatV = true → us.any (eqU x) = xs.any fun y => eqV y x
  | _, _, .nil, _ => rfl
  | y :: xs, u :: us, .cons r t, f => by
    rw [List.all_cons, Bool.and_eq_true] at f
    rw [List.any_cons, List.any_cons, eqU_of r f.1, any_eqU t f.2]
theorem mem_eqAt {A : Around} {s : Shared} {x : V} {v : Value} (rx : RelV x v) (fx : flatV x = true) : ∀ {xs : List V} {us : List Value}, Vals xs us → xs.all flatV = true → ∀ u ∈ us, SeqAt.EqAt A s u v (eqU x u)
  | _, _, .nil, _ => fun u hu => by cases hu
  | y :: xs, u :: us, .cons r t, f => fun u' hu => by
    rw [List.all_cons, Bool.and_eq_true] at f
    rcases List.mem_cons.mp hu with rfl | hu
    · rw [eqU_of r f.1]; exact eqAt_V r rx f.1 fx
    · exact mem_eqAt rx fx t f.2 u' hu
def inV (x : V) (xs : List V) : Bool := xs.any fun y => eqV y x
/-- x in a list or tuple of flat items -/
def rIn (K : PySem.W.Frag) (neg : Bool) : R2 := fun x y H Q => ∃ p xs, y = .ref p ∧ (SqL K H p xs ∨ SqT K H p xs) ∧ flatV x = true ∧ xs.all flatV = true ∧ Q (.bl (if neg then !inV x xs else inV x xs)) H
theorem op_in_seq : OpR X (compareOp .In) (rIn X.K false) := by
  intro pins s σ H x y v u Q I rx ry h
  obtain ⟨p, xs, rfl, hq, fx, fs, q⟩ := h
  cases ry
  rcases hq with hq | hq
  · obtain ⟨its, r, pl, hz⟩ := I.list hq
    refine SeqAt.in_listAt (eqU x) pl.isList (fun w hw => mem_eqAt rx fx r fs w (by simpa using hw)) ⟨.bl _, H, I, rfl, ?_⟩
    rw [show its.toArray.any (eqU x) = its.any (eqU x) by simp, any_eqU r fs]
    exact q
  · obtain ⟨its, r, pl, hz⟩ := I.tuple hq
    refine SeqAt.in_tupleAt (eqU x) pl (fun w hw => mem_eqAt rx fx r fs w (by simpa using hw)) ⟨.bl _, H, I, rfl, ?_⟩
    rw [show its.toArray.any (eqU x) = its.any (eqU x) by simp, any_eqU r fs]
    exact q
theorem op_notIn_seq : OpR X (compareOp .NotIn) (rIn X.K true) := by
  intro pins s σ H x y v u Q I rx ry h
  obtain ⟨p, xs, rfl, hq, fx, fs, q⟩ := h
  cases ry
  rcases hq with hq | hq
  · obtain ⟨its, r, pl, hz⟩ := I.list hq
    refine SeqAt.notIn_listAt (eqU x) pl.isList (fun w hw => mem_eqAt rx fx r fs w (by simpa using hw)) ⟨.bl _, H, I, rfl, ?_⟩
    rw [show its.toArray.any (eqU x) = its.any (eqU x) by simp, any_eqU r fs]
    exact q
  · obtain ⟨its, r, pl, hz⟩ := I.tuple hq
    refine SeqAt.notIn_tupleAt (eqU x) pl (fun w hw => mem_eqAt rx fx r fs w (by simpa using hw)) ⟨.bl _, H, I, rfl, ?_⟩
    rw [show its.toArray.any (eqU x) = its.any (eqU x) by simp, any_eqU r fs]
    exact q
theorem op_notIn_str : OpR X (compareOp .NotIn) (fun x y H Q => ∃ i j, x = .str i ∧ y = .str j ∧ Q (.bl (!(!(Builtin.Str.occurrences j i 0 j.length 1).isEmpty))) H) := by
  intro pins s σ H x y v u Q I rx ry h
  obtain ⟨i, j, rfl, rfl, q⟩ := h
  obtain ⟨t, rfl⟩ := rx
  obtain ⟨t', rfl⟩ := ry
  exact notIn_str ⟨.bl _, H, I, rfl, q⟩

/-! ### len, list(x), tuple(x) of any list or tuple that is read -/
theorem call_len_seq : CallR X (.builtin "len") (fun xs H Q => ∃ p ys, xs = [.ref p] ∧ (SqL X.K H p ys ∨ SqT X.K H p ys) ∧ Q (.int ys.length) H) := by
  intro pins s σ H xs us Q I r h
  obtain ⟨p, ys, rfl, hq, q⟩ := h
  obtain ⟨u, rfl, rx⟩ := vals1 r
  cases rx
  have hn := line63
  rcases hq with hq | hq
  · obtain ⟨its, r', pl, hz⟩ := I.list hq
    have hlen := r'.length
    exact Calls.call_len_list pl.isList (by simp only [List.size_toArray] <;> omega) ⟨.int ys.length, H, I.tok _, ⟨s.toks + 1, by rw [List.size_toArray, hlen]⟩, q⟩
  · obtain ⟨its, r', pl, hz⟩ := I.tuple hq
    have hlen := r'.length
    exact len_tuple pl (by simp only [List.size_toArray] <;> omega) ⟨.int ys.length, H, I.tok _, ⟨s.toks + 1, by rw [List.size_toArray, hlen]⟩, q⟩
theorem call_len_str : CallR X (.builtin "len") (fun xs H Q => ∃ z, xs = [.str z] ∧ z.length ≤ sizeLine ∧ Q (.int z.length) H) := by
  intro pins s σ H xs us Q I r h
  obtain ⟨z, rfl, hz, q⟩ := h
  obtain ⟨u, rfl, t, rfl⟩ := vals1 r
  have hn := line63
  exact len_str (by omega) ⟨.int z.length, H, I.tok _, ⟨_, rfl⟩, q⟩
theorem CallR.or {f : Value} {r r' : List V → Hp → VK → Prop} (h : CallR X f r) (h' : CallR X f r') : CallR X f (fun xs H Q => r xs H Q ∨ r' xs H Q) := by
  intro pins s σ H xs us Q I rs q
  rcases q with q | q
  · exact h pins s σ H xs us Q I rs q
  · exact h' pins s σ H xs us Q I rs q
theorem call_list_of : CallR X (.type "list") (fun xs H Q => ∃ p ys, xs = [.ref p] ∧ (SqL X.K H p ys ∨ SqT X.K H p ys) ∧ ∀ l, H l = none → Q (.ref l) (upd H l (.lst ys))) := by
  intro pins s σ H xs us Q I r h
  obtain ⟨p, ys, rfl, hq, q⟩ := h
  obtain ⟨u, rfl, rx⟩ := vals1 r
  cases rx
  have fin : ∀ (its : List Value), Vals ys its → ys.length ≤ sizeLine → ∀ (h' : Heap) (c' : Nat), (∀ b o', s.heap.get? b = some o' → h'.get? b = some o') →
      h'.get? s.heap.objs.size = some { cls := .type "list", dict := none, data := .seq its.toArray c', slots := #[] } → EP X pins σ Q (.ref s.heap.objs.size) { s with heap := h' } := fun its r' hz h' c' kp e =>
    ⟨.ref s.heap.objs.size, _, I.laid (t' := s.toks) kp (Nat.le_refl _) (show ObjOk X.prog X.w _ h' _ (.lst ys) from ⟨hz, its, c', r', e⟩), rfl, q _ (I.hok.fresh (Nat.le_refl _))⟩
  rcases hq with hq | hq
  · obtain ⟨its, r', pl, hz⟩ := I.list hq
    have hlen := r'.length
    obtain ⟨o, ho, hc, n, hd⟩ := pl.isList
    exact call_list_seq p (.inl rfl) ho hc hd (fun h' c' kp e => fin its r' hz h' c' kp e) (by simp only [List.size_toArray] <;> omega)
  · obtain ⟨its, r', pl, hz⟩ := I.tuple hq
    have hlen := r'.length
    obtain ⟨o, ho, hc, n, hd⟩ := pl
    exact call_list_seq p (.inr rfl) ho hc hd (fun h' c' kp e => fin its r' hz h' c' kp e) (by simp only [List.size_toArray] <;> omega)
theorem call_tuple_of : CallR X (.type "tuple") (fun xs H Q => ∃ p ys, xs = [.ref p] ∧ ((SqL X.K H p ys ∧ ∀ l, H l = none → Q (.ref l) (upd H l (.tup ys))) ∨ (SqT X.K H p ys ∧ Q (.ref p) H))) := by
  intro pins s σ H xs us Q I r h
  obtain ⟨p, ys, rfl, h⟩ := h
  obtain ⟨u, rfl, rx⟩ := vals1 r
  cases rx
  rcases h with ⟨hq, q⟩ | ⟨hq, q⟩
  · obtain ⟨its, r', pl, hz⟩ := I.list hq
    have hlen := r'.length
    refine call_tuple_list pl.isList (fun h' kp => ?_) (by simp only [List.size_toArray] <;> omega)
    have I1 : Inv X pins σ H { s with heap := h' } := I.kept (t' := s.toks) kp
    have I2 : Inv X pins σ (upd H h'.objs.size (.tup ys)) { s with heap := h'.push { cls := .type "tuple", data := .seq its.toArray } } :=
      I1.laid (t' := s.toks) (fun b o e => Heap.get?_push_of_some _ e) (Nat.le_refl _) (show ObjOk X.prog X.w _ _ _ (.tup ys) from ⟨hz, its, r', IsTup.new _ _⟩)
    exact ⟨.ref h'.objs.size, _, I2, rfl, q _ (I1.hok.fresh (Nat.le_refl _))⟩
  · obtain ⟨its, r', pl, hz⟩ := I.tuple hq
    exact call_tuple_same pl ⟨.ref p, H, I, rfl, q⟩

/-! ### the call of a builtin's method: o.m(..) -/
/-- the value is of that builtin type -/
def tyV (K : PySem.W.Frag) (T : String) (x : V) (H : Hp) : Prop := match x with
  | .str _ => T = "str"
  | .int _ => T = "int"
  | .ref p => (T = "list" ∧ ∃ xs, SqL K H p xs) ∨ (T = "tuple" ∧ ∃ o, K.lookup p = some o ∧ o.cls = .type "tuple" ∧ o.dict = none) ∨
      (T = "dict" ∧ ((∃ kvs, H p = some (.dK kvs)) ∨ ∃ kvs, H p = some (.dT kvs))) ∨ (T = "set" ∧ ∃ S n, H p = some (.set S n))
  | _ => False
theorem tyV_is {pins : List (Addr × Obj)} {σ : St} {H : Hp} {s : Shared} {T : String} {x : V} {v : Value} (I : Inv X pins σ H s) (r : RelV x v) (ty : tyV X.K T x H) :
    s.TypeIs v T ∧ ∀ a, v = .ref a → ∃ ob, s.heap.get? a = some ob ∧ ob.dict = none := by
  cases x with
  | str z =>
    obtain ⟨t, rfl⟩ := r
    cases (show T = "str" from ty)
    exact ⟨typeIs_str s z t, fun _ e => nomatch e⟩
  | int i =>
    obtain ⟨t, rfl⟩ := r
    cases (show T = "int" from ty)
    exact ⟨typeIs_int s i t, fun _ e => nomatch e⟩
  | ref p =>
    cases r
    rcases ty with ⟨rfl, xs, hq⟩ | ⟨rfl, o, hk, hc, hd⟩ | ⟨rfl, hk⟩ | ⟨rfl, S, n, hk⟩
    · obtain ⟨its, _, pl, _⟩ := I.list hq
      refine ⟨pl.isList.typeIs, fun a e => ?_⟩
      cases e
      obtain ⟨o, n, e, c, hd, _⟩ := pl
      exact ⟨o, e, hd⟩
    · refine ⟨⟨o, I.kIn p o hk, hc⟩, fun a e => ?_⟩
      cases e
      exact ⟨o, I.kIn _ o hk, hd⟩
    · have z : ∃ o, s.heap.get? p = some o ∧ o.ExactDict := by
        rcases hk with ⟨kvs, hk⟩ | ⟨kvs, hk⟩
        · obtain ⟨_, _, _, _, o, _, _, e, ex, _⟩ := I.hok p _ hk
          exact ⟨o, e, ex⟩
        · obtain ⟨_, _, _, _, o, _, _, e, ex, _⟩ := I.hok p _ hk
          exact ⟨o, e, ex⟩
      obtain ⟨o, e, ex⟩ := z
      refine ⟨⟨o, e, ex.1⟩, fun a e2 => ?_⟩
      cases e2
      exact ⟨o, e, ex.2.1⟩
    · obtain ⟨o, _, _, _, e, ex, _⟩ := I.hok p _ hk
      refine ⟨⟨o, e, ex.1⟩, fun a e2 => ?_⟩
      cases e2
      exact ⟨o, e, ex.2.1⟩
  | _ => exact False.elim ty
def tBM0 (K : PySem.W.Frag) (T : String) (r : V → List V → Hp → VK → Prop) (to : TE) : TE := fun σ H Q => to σ H fun x H1 => tyV K T x H1 ∧ r x [] H1 Q
def tBM (K : PySem.W.Frag) (T : String) (r : V → List V → Hp → VK → Prop) (to : TE) (t : TA) : TE := fun σ H Q => to σ H fun x H1 => tyV K T x H1 ∧ t σ H1 fun xs H2 => r x xs H2 Q
variable {o e : Expr} {es : List Expr} {to : TE} {t : TA} {name : Str} {apos cpos : Pos} {T id : String} {r : V → List V → Hp → VK → Prop}
theorem pe_bm0 (pa : PlainAttrs T) (slot : Slot T name id) (hty : typeOf (.builtin id) = pure (.type "method_descriptor")) (hm : MtR X id r) (ho : PE X o to)
    (hbase : attributeBase o name X.env (eval o X.env) = eval o X.env := by rfl) (hline : (apos.endLine == cpos.line) = true := by rfl) : PE X (.Call (.Attribute o name apos) [] [] cpos) (tBM0 X.K T r to) := by
  intro pins s σ H Q I h
  refine wpAny_Call_method0_late hbase hline (thn (ho pins s σ H _ I h) fun v s1 ⟨x, H1, I1, r1, ty, q1⟩ => ?_)
  obtain ⟨h1, h2⟩ := tyV_is I1 r1 ty
  exact ⟨T, id, pa, slot, hty, h1, h2, Calls.callWith_builtin rfl (PySem.evalArgs_none (hm pins s1 σ H1 x [] v [] Q I1 r1 .nil q1))⟩
theorem pe_bm (pa : PlainAttrs T) (slot : Slot T name id) (hty : typeOf (.builtin id) = pure (.type "method_descriptor")) (hm : MtR X id r) (ho : PE X o to) (ha : PA X (e :: es) t)
    (hbase : attributeBase o name X.env (eval o X.env) = eval o X.env := by rfl)
    (hfew : ((backTo cpos (starEach (e :: es) X.env)).all (fun x => !x.1) && (backToKw cpos (keywordEach [] X.env)).all (fun x => x.1.isSome)
      && decide ((e :: es).length + ([] : List Keyword).length + (if ([] : List Keyword).isEmpty then 0 else 1) < 30)) = true := by rfl)
    (hline : (apos.endLine == cpos.line) = true := by rfl) (hs : starEach (e :: es) X.env = (false, eval e X.env) :: starEach es X.env := by rfl) (hplain : (backTo cpos (starEach es X.env)).any (·.1) = false := by rfl) :
    PE X (.Call (.Attribute o name apos) (e :: es) [] cpos) (tBM X.K T r to t) := by
  intro pins s σ H Q I h
  refine wpAny_Call_method_late hbase hfew hline rfl (thn (ho pins s σ H _ I h) fun v s1 ⟨x, H1, I1, r1, ty, q1⟩ => ?_)
  obtain ⟨h1, h2⟩ := tyV_is I1 r1 ty
  refine ⟨T, id, pa, slot, hty, h1, h2, ?_⟩
  have hA := ha cpos pins s1 σ H1 _ I1 q1
  rw [hs] at hA ⊢
  refine Calls.callWith_builtin (by show (false || (backTo cpos (starEach es X.env)).any (·.1)) = false; rw [hplain] <;> rfl) (Calls.evalArgs_plain ?_)
  exact thn hA fun us s2 ⟨vs, H2, I2, r2, q2⟩ => hm pins s2 σ H2 x vs v us Q I2 r1 r2 q2
/- xs.append(e), list.index on a module's tuple .. are MtR facts of 06m -/
end
end L2

namespace L2
open PySem PySem.Spec PyProof.Rows

def MtM (X : Cx) (id : String) (r : V → List V → Hp → VK → Prop) : Prop :=
  ∀ (pins : List (Addr × Obj)) (s : Shared) (σ : St) (H : Hp) (x : V) (xs : List V) (v : Value) (us : List Value) (Q : VK), Inv X pins σ H s → RelV x v → Vals xs us → r x xs H Q →
    wpAny (model X.prog X.w) X.A (call (.builtin id) (v :: us)) (EP X pins σ Q) X.xe s

/-! ### lists of values -/
theorem Vals.one : ∀ {x : V} {us : List Value}, Vals [x] us → ∃ u, us = [u] ∧ RelV x u
  | _, _, .cons r .nil => ⟨_, rfl, r⟩
theorem Vals.two : ∀ {x y : V} {us : List Value}, Vals [x, y] us → ∃ u v, us = [u, v] ∧ RelV x u ∧ RelV y v
  | _, _, _, .cons r (.cons q .nil) => ⟨_, _, rfl, r, q⟩
theorem Vals.zero : ∀ {us : List Value}, Vals [] us → us = []
  | _, .nil => rfl
theorem Vals.dropLast {xs : List V} {us : List Value} (h : Vals xs us) : Vals xs.dropLast us.dropLast := by
  induction h with
  | nil => exact .nil
  | cons r t ih =>
    cases t with
    | nil => exact .nil
    | cons q t' => exact .cons r ih
theorem Vals.eraseIdx : ∀ {xs : List V} {us : List Value} (i : Nat), Vals xs us → Vals (xs.eraseIdx i) (us.eraseIdx i)
  | _, _, _, .nil => .nil
  | _, _, 0, .cons _ t => t
  | _, _, i + 1, .cons r t => .cons r (Vals.eraseIdx i t)
theorem Vals.reverse {xs : List V} {us : List Value} (h : Vals xs us) : Vals xs.reverse us.reverse := by
  induction h with
  | nil => exact .nil
  | cons r t ih => rw [List.reverse_cons, List.reverse_cons]; exact Vals.append ih (.cons r .nil)
theorem Vals.rep {xs : List V} {us : List Value} (h : Vals xs us) : ∀ k : Nat, Vals (List.replicate k xs).flatten (List.replicate k us).flatten
  | 0 => .nil
  | k + 1 => by
    rw [List.replicate_succ, List.replicate_succ, List.flatten_cons, List.flatten_cons]
    exact Vals.append h (Vals.rep h k)
theorem erase_last {α : Type} (l : List α) : l.eraseIdx (l.length - 1) = l.dropLast := by
  induction l with
  | nil => rfl
  | cons a r ih =>
    cases r with
    | nil => rfl
    | cons b r =>
      have e : (a :: b :: r).length - 1 = ((b :: r).length - 1) + 1 := by
        have h1 : (a :: b :: r).length = r.length + 2 := rfl
        have h2 : (b :: r).length = r.length + 1 := rfl
        omega
      rw [e, List.eraseIdx_cons_succ, ih]
      all_goals rfl
theorem len_erase {α : Type} : ∀ (l : List α) (i : Nat), (l.eraseIdx i).length ≤ l.length
  | [], _ => Nat.le_refl _
  | _ :: _, 0 => Nat.le_succ _
  | _ :: r, i + 1 => Nat.succ_le_succ (len_erase r i)
theorem foldl_rep (its : List Value) : ∀ (k : Nat) (acc : List Value),
    List.foldl (fun x1 x2 => x1 ++ x2) acc.toArray (List.replicate k its.toArray) = (acc ++ (List.replicate k its).flatten).toArray
  | 0, acc => by simp
  | k + 1, acc => by
    have e : acc.toArray ++ its.toArray = (acc ++ its).toArray := by simp
    have e2 : (acc ++ its) ++ (List.replicate k its).flatten = acc ++ (List.replicate (k + 1) its).flatten := by
      rw [List.replicate_succ, List.flatten_cons, List.append_assoc]
    rw [← e2, ← foldl_rep its k (acc ++ its), ← e, List.replicate_succ, List.foldl_cons]

section
variable {X : Cx} {pins : List (Addr × Obj)} {σ : St} {H : Hp} {s : Shared} {l b : Addr} {xs ys zs : List V}

/-! ### the two steps: a tracked list is rewritten, a new list is laid -/
theorem Inv.lset {its its' : List Value} {n : Nat} {f : Array Value → Array Value} {t' : Nat} (I : Inv X pins σ H s) (hH : H l = some (.lst xs))
    (e : s.heap.get? l = some { cls := .type "list", data := .seq its.toArray n }) (hf : f its.toArray = its'.toArray) (hv : Vals ys its') (hz : ys.length ≤ sizeLine) :
    Inv X pins σ (upd H l (.lst ys)) { s with heap := s.heap.update l (Obj.mapSeq f), toks := t' } := by
  have q := PySem.IsL.update e f
  rw [hf] at q
  refine I.write (x := l) (e := l) (by rw [hH]; exact trivial) (.inl rfl) (fun b' u hb hu => (Heap.get?_update_other s.heap (Obj.mapSeq f) (Ne.symm hb)).trans hu) ⟨_, q⟩ ?_
  exact ⟨hz, its', _, hv, q⟩
theorem Inv.lnew {its : List Value} {t' : Nat} (I : Inv X pins σ H s) (hv : Vals ys its) (hz : ys.length ≤ sizeLine) :
    Inv X pins σ (upd H s.heap.objs.size (.lst ys)) { s with heap := s.heap.push { cls := .type "list", data := .seq its.toArray }, toks := t' } :=
  I.laid (fun _ _ q => Heap.get?_push_of_some _ q) (Nat.le_refl _) ⟨hz, its, 0, hv, Heap.get?_push_size _ rfl⟩
theorem Inv.fresh (I : Inv X pins σ H s) : H s.heap.objs.size = none := I.hok.fresh (Nat.le_refl _)
theorem Inv.lstM (I : Inv X pins σ H s) (hH : H l = some (.lst xs)) : xs.length ≤ sizeLine ∧ ∃ (its : List Value) (n : Nat), Vals xs its ∧ xs.length = its.length ∧ s.heap.get? l = some { cls := .type "list", data := .seq its.toArray n } := by
  obtain ⟨z, its, n, r, e⟩ := I.hok l _ hH
  exact ⟨z, its, n, r, r.length, e⟩

theorem notLongL {n : Nat} (h : n ≤ sizeLine) : Builtin.List.listTooLong n = false := by
  unfold Builtin.List.listTooLong
  exact decide_eq_false (by omega)
end

section
variable {X : Cx}

/-! ### methods -/
def rAppend : V → List V → Hp → VK → Prop := fun x vs H Q => ∃ l xs y, x = .ref l ∧ vs = [y] ∧ H l = some (.lst xs) ∧ xs.length < sizeLine ∧ Q .non (upd H l (.lst (xs ++ [y])))
theorem mt_append : MtM X "list.append" rAppend := by
  intro pins s σ H x vs v us Q I rx rv h
  obtain ⟨l, xs, y, rfl, rfl, hH, hz, q⟩ := h
  cases rx
  obtain ⟨u, rfl, ru⟩ := rv.one
  obtain ⟨z, its, n, r, hl, e⟩ := I.lstM hH
  refine call_meets F.slot_list_append ⟨_, e, rfl⟩ F.entry_list_append (F.args_list_append_2 _ _) (PySem.list_append l its.toArray n u (by rw [List.size_toArray]; omega)) ⟨e, ?_⟩
  refine ⟨.non, _, I.lset (its' := its ++ [u]) hH e (by simp) (r.append (.cons ru .nil)) ?_, rfl, q⟩
  rw [List.length_append, List.length_singleton]
  omega

def rExtend : V → List V → Hp → VK → Prop := fun x vs H Q => ∃ l b xs zs, x = .ref l ∧ vs = [.ref b] ∧ H l = some (.lst xs) ∧ H b = some (.lst zs) ∧ xs.length + zs.length ≤ sizeLine ∧ Q .non (upd H l (.lst (xs ++ zs)))
theorem mt_extend : MtM X "list.extend" rExtend := by
  intro pins s σ H x vs v us Q I rx rv h
  obtain ⟨l, b, xs, zs, rfl, rfl, hH, hB, hz, q⟩ := h
  cases rx
  obtain ⟨u, rfl, ru⟩ := rv.one
  cases ru
  obtain ⟨z, its, n, r, hl, e⟩ := I.lstM hH
  obtain ⟨z2, its2, n2, r2, hl2, e2⟩ := I.lstM hB
  have hsz : its.toArray.size + its2.toArray.size ≤ sizeLine := by rw [List.size_toArray, List.size_toArray]; omega
  have hlong : ¬ (!its.toArray.isEmpty && Builtin.List.listTooLong (its.toArray.size + its2.toArray.size)) = true := by
    rw [notLongL hsz, Bool.and_false]
    exact Bool.false_ne_true
  refine call_meets F.slot_list_extend ⟨_, e, rfl⟩ F.entry_list_extend (F.args_list_extend_2 _ _)
    (AutoSeq1.list_extend_list_list_0 l its.toArray n b its2.toArray n2 hlong (by rw [List.size_toArray]; omega) (by omega)) ⟨e, e2, ?_⟩
  refine ⟨.non, _, I.lset (its' := its ++ its2) hH e (by simp) (r.append r2) ?_, rfl, q⟩
  rw [List.length_append]
  omega

def rPop : V → List V → Hp → VK → Prop := fun x vs H Q => ∃ l xs y, x = .ref l ∧ vs = [] ∧ H l = some (.lst xs) ∧ xs[xs.length - 1]? = some y ∧ Q y (upd H l (.lst xs.dropLast))
theorem mt_pop : MtM X "list.pop" rPop := by
  intro pins s σ H x vs v us Q I rx rv h
  obtain ⟨l, xs, y, rfl, rfl, hH, hy, q⟩ := h
  cases rx
  have hus := rv.zero
  subst hus
  obtain ⟨z, its, n, r, hl, e⟩ := I.lstM hH
  obtain ⟨u, hu, ru⟩ := r.get hy
  have hy' : its.toArray[its.toArray.size - 1]? = some u := by
    show its.toArray[its.length - 1]? = some u
    rw [← Array.getElem?_toList, ← hl]
    exact hu
  refine call_meets F.slot_list_pop ⟨_, e, rfl⟩ F.entry_list_pop (F.args_list_pop_1 _) (MeetsSeq.list_pop_last l its.toArray n u hy' (by rw [List.size_toArray]; omega)) ⟨e, ?_⟩
  refine ⟨y, _, I.lset (its' := its.dropLast) hH e ?_ r.dropLast ?_, ru, q⟩
  · show its.toArray.eraseIdxIfInBounds (its.toArray.size - 1) = its.dropLast.toArray
    rw [List.size_toArray, List.eraseIdxIfInBounds_toArray, erase_last]
  · rw [List.length_dropLast]
    omega

def rPopAt : V → List V → Hp → VK → Prop := fun x vs H Q => ∃ l xs i k y, x = .ref l ∧ vs = [.int i] ∧ H l = some (.lst xs) ∧ -(2 ^ 63) ≤ i ∧ i < 2 ^ 63 ∧ seqIndex? i xs.length = some k ∧ xs[k]? = some y ∧ Q y (upd H l (.lst (xs.eraseIdx k)))
theorem mt_popAt : MtM X "list.pop" rPopAt := by
  intro pins s σ H x vs v us Q I rx rv h
  obtain ⟨l, xs, i, k, y, rfl, rfl, hH, h1, h2, hk, hy, q⟩ := h
  cases rx
  obtain ⟨u, rfl, ru⟩ := rv.one
  obtain ⟨t, rfl⟩ := ru
  obtain ⟨z, its, n, r, hl, e⟩ := I.lstM hH
  obtain ⟨w, hw, rw'⟩ := r.get hy
  refine call_meets F.slot_list_pop ⟨_, e, rfl⟩ F.entry_list_pop (F.args_list_pop_2 _ _)
    (MeetsSeq.list_pop_at l its.toArray n i t k w (fitsIndex_both h1 h2) (by rw [List.size_toArray, ← hl]; exact hk) (by rw [← Array.getElem?_toList]; exact hw) (by rw [List.size_toArray]; omega)) ⟨e, ?_⟩
  refine ⟨y, _, I.lset (its' := its.eraseIdx k) hH e ?_ (r.eraseIdx k) ?_, rw', q⟩
  · show its.toArray.eraseIdxIfInBounds k = (its.eraseIdx k).toArray
    rw [List.eraseIdxIfInBounds_toArray]
  · have := len_erase xs k
    omega

def rReverse : V → List V → Hp → VK → Prop := fun x vs H Q => ∃ l xs, x = .ref l ∧ vs = [] ∧ H l = some (.lst xs) ∧ Q .non (upd H l (.lst xs.reverse))
theorem mt_reverse : MtM X "list.reverse" rReverse := by
  intro pins s σ H x vs v us Q I rx rv h
  obtain ⟨l, xs, rfl, rfl, hH, q⟩ := h
  cases rx
  have hus := rv.zero
  subst hus
  obtain ⟨z, its, n, r, hl, e⟩ := I.lstM hH
  refine call_meets F.slot_list_reverse ⟨_, e, rfl⟩ F.entry_list_reverse (F.args_list_reverse_1 _) (AutoSeq1.list_reverse_list_0 l its.toArray n (by rw [List.size_toArray]; omega)) ⟨e, ?_⟩
  refine ⟨.non, _, I.lset (its' := its.reverse) hH e (by simp) r.reverse ?_, rfl, q⟩
  rw [List.length_reverse]
  omega

def rClear : V → List V → Hp → VK → Prop := fun x vs H Q => ∃ l xs, x = .ref l ∧ vs = [] ∧ H l = some (.lst xs) ∧ Q .non (upd H l (.lst []))
theorem mt_clear : MtM X "list.clear" rClear := by
  intro pins s σ H x vs v us Q I rx rv h
  obtain ⟨l, xs, rfl, rfl, hH, q⟩ := h
  cases rx
  have hus := rv.zero
  subst hus
  obtain ⟨z, its, n, r, hl, e⟩ := I.lstM hH
  refine call_meets F.slot_list_clear ⟨_, e, rfl⟩ F.entry_list_clear (F.args_list_clear_1 _) (AutoSeq1.list_clear_list_0 l its.toArray n (by rw [List.size_toArray]; omega)) ⟨e, ?_⟩
  exact ⟨.non, _, I.lset (its' := []) (ys := []) hH e rfl .nil (Nat.zero_le _), rfl, q⟩

/-! ### list + list, list += list, list * int -/
def rCat : R2 := fun x y H Q => ∃ l b xs zs, x = .ref l ∧ y = .ref b ∧ H l = some (.lst xs) ∧ H b = some (.lst zs) ∧ xs.length + zs.length ≤ sizeLine ∧ ∀ p, H p = none → Q (.ref p) (upd H p (.lst (xs ++ zs)))
theorem op_cat : OpR X (binaryOp .Add) rCat := by
  intro pins s σ H x y v u Q I rx ry h
  obtain ⟨l, b, xs, zs, rfl, rfl, hH, hB, hz, q⟩ := h
  cases rx
  cases ry
  obtain ⟨z, its, n, r, hl, e⟩ := I.lstM hH
  obtain ⟨z2, its2, n2, r2, hl2, e2⟩ := I.lstM hB
  refine PySem.P.add_list e e2 ?_ (by rw [List.size_toArray, List.size_toArray]; omega)
  have ea : its.toArray ++ its2.toArray = (its ++ its2).toArray := by simp
  rw [ea]
  exact ⟨.ref _, _, I.lnew (t' := s.toks) (r.append r2) (by rw [List.length_append]; omega), rfl, q _ I.fresh⟩
/-- a list times an int (a negative one is nothing) -/
def rRep : R2 := fun x y H Q => ∃ l k xs, x = .ref l ∧ y = .int k ∧ H l = some (.lst xs) ∧ -(2 ^ 63) ≤ k ∧ k < 2 ^ 63 ∧ xs.length * k.toNat ≤ sizeLine ∧
  ∀ p, H p = none → Q (.ref p) (upd H p (.lst (List.replicate k.toNat xs).flatten))
theorem len_rep {α : Type} (xs : List α) (k : Nat) : (List.replicate k xs).flatten.length = k * xs.length := by
  induction k with
  | zero => simp
  | succ k ih => rw [List.replicate_succ, List.flatten_cons, List.length_append, ih, Nat.succ_mul, Nat.add_comm]
theorem op_rep : OpR X (binaryOp .Mult) rRep := by
  intro pins s σ H x y v u Q I rx ry h
  obtain ⟨l, k, xs, rfl, rfl, hH, h1, h2, hz, q⟩ := h
  cases rx
  obtain ⟨t, rfl⟩ := ry
  obtain ⟨z, its, n, r, hl, e⟩ := I.lstM hH
  have hlen : its.toArray.size * k.toNat ≤ sizeLine := by rw [List.size_toArray, ← hl]; exact hz
  have hcap : ¬ its.toArray.size * k.toNat > (2 ^ 63 - 1) / 8 := by
    have : (sizeLine : Nat) ≤ (2 ^ 63 - 1) / 8 := by decide
    omega
  have hfit : ¬ (!Builtin.List.listFitsIndex k) = true := by
    rw [fitsIndex_both h1 h2]
    exact Bool.false_ne_true
  have hlong : ¬ Builtin.List.listTooLong (its.toArray.size * k.toNat) = true := by
    rw [notLongL hlen]
    exact Bool.false_ne_true
  have hnew : List.foldl (fun x1 x2 => x1 ++ x2) #[] (List.replicate (if its.toArray.isEmpty = true then 0 else k.toNat) its.toArray) = (List.replicate k.toNat its).flatten.toArray := by
    have f0 : ∀ m : Nat, List.foldl (fun x1 x2 => x1 ++ x2) #[] (List.replicate m its.toArray) = (List.replicate m its).flatten.toArray := fun m => by
      have := foldl_rep its m []
      rw [List.nil_append] at this
      exact this
    rw [f0]
    cases its with
    | nil => simp
    | cons a r' => rw [if_neg (by simp)]
  refine wpAny_binaryOp_repeat_ref (T := "list") (U := "int") (by decide) ⟨_, e, rfl⟩ (fun s' => typeIs_int s' k t) noFill_list_mul F.fills_int_mul F.slot_int_rmul repeat_list F.slot_int_index.lookup
    (call_meets F.slot_int_rmul (typeIs_int s k t) F.entry_int_rmul (F.args_int_rmul_2 _ _) (int___rmul___int_list k t l its.toArray n)
      ⟨e, rfl, ⟨_, e, rfl⟩, call_meets F.slot_list_mul ⟨_, e, rfl⟩ F.entry_list_mul (F.args_list_mul_2 _ _) (AutoListH.list___mul___list_int_3 l its.toArray n k t hfit hcap hlong) ⟨e, ?_⟩⟩)
  rw [hnew]
  exact ⟨.ref _, _, I.lnew (t' := s.toks) (r.rep k.toNat) (by rw [len_rep, Nat.mul_comm]; exact hz), rfl, q _ I.fresh⟩

/-! ### del xs[i] -/
theorem del_list {pins : List (Addr × Obj)} {s : Shared} {σ : St} {H : Hp} {l : Addr} {xs : List V} {i : Int} {t : Tok} {k : Nat} {Q : Unit → Shared → Prop} (I : Inv X pins σ H s) (hH : H l = some (.lst xs))
    (h1 : -(2 ^ 63) ≤ i) (h2 : i < 2 ^ 63) (hk : seqIndex? i xs.length = some k) (h : ∀ s', Inv X pins σ (upd H l (.lst (xs.eraseIdx k))) s' → Q () s') :
    wpAny (model X.prog X.w) X.A (delItem (.ref l) (.int i t)) Q X.xe s := by
  obtain ⟨z, its, n, r, hl, e⟩ := I.lstM hH
  refine PySem.P.delItem_list (k := k) e (fitsIndex_both h1 h2) (by rw [List.size_toArray, ← hl]; exact hk) (h _ ?_) (by rw [List.size_toArray]; omega)
  refine I.lset (its' := its.eraseIdx k) (t' := s.toks) hH e ?_ (r.eraseIdx k) ?_
  · show its.toArray.eraseIdxIfInBounds k = (its.eraseIdx k).toArray
    rw [List.eraseIdxIfInBounds_toArray]
  · have := len_erase xs k
    omega
end

/-! ### xs[a:b] = ys -/
section
variable {prog : Program} {w : World} {A : Around} {E : Value → Shared → Prop} {s : Shared}
theorem splice_eq (its its2 : List Value) (a c : Nat) : its.toArray.extract 0 a ++ its2.toArray ++ its.toArray.extract c its.toArray.size = (its.take a ++ its2 ++ its.drop c).toArray := by
  apply Array.toList_inj.mp
  first
    | (simp
       exact List.take_of_length_le (by simp))
    | simp [List.take_of_length_le]
    | simp
theorem bounds_run {a c n : Nat} (hac : a ≤ c) (hc : c ≤ n) : sliceBounds (some (a : Int)) (some (c : Int)) none n = ((a : Int), (c : Int), 1) := by
  simp only [sliceBounds, Option.getD_none]
  have h1 : ¬ ((a : Int) < 0) := by omega
  have h2 : ¬ ((c : Int) < 0) := by omega
  simp only [h1, h2, if_false, show (1 : Int) > 0 by decide, if_true]
  congr 1
  · omega
  · congr 1; omega
set_option maxRecDepth 100000 in
/-- list.__setitem__ with a slice of step one and another list -/
theorem setItem_slice {l b sl : Addr} {items new : Array Value} {n n2 : Nat} {vl vu : Value} {a c : Nat} {Q : Unit → Shared → Prop}
    (e : s.heap.get? l = some { cls := .type "list", data := .seq items n }) (e2 : s.heap.get? b = some { cls := .type "list", data := .seq new n2 }) (hne : l ≠ b)
    (hs : s.heap.IsSliceOf sl vl vu .none) (pl : IsPart vl (some (a : Int))) (pu : IsPart vu (some (c : Int))) (hac : a ≤ c) (hc : c ≤ items.size)
    (hsz : items.size + new.size ≤ sizeLine) (h : Q () { s with heap := s.heap.update l (Obj.mapSeq fun xs => xs.extract 0 a ++ new ++ xs.extract c xs.size) }) :
    wpAny (model prog w) A (setItem (.ref l) (.ref sl) (.ref b)) Q E s := by
  have hl : s.heap.IsList l items := PySem.IsL.isList e
  have hb : s.heap.IsList b new := PySem.IsL.isList e2
  obtain ⟨os, hos, hcs, hds⟩ := id hs
  have hTs : s.TypeIs (.ref sl) "slice" := ⟨os, hos, hcs⟩
  have hstep : ¬ ((rawPart none == rawInt 0) = true) := Bool.false_ne_true
  have hsame : Builtin.List.listSameRef (.ref l) (.ref b) = false := by
    unfold Builtin.List.listSameRef
    exact beq_eq_false_iff_ne.mpr hne
  have hmax : (max (a : Int) (c : Int)).toNat = c := by omega
  have hz' : ((fun xs : Array Value => xs.extract 0 a ++ new ++ xs.extract c xs.size) items).size ≤ sizeLine + 1 := by
    simp only [Array.size_append, Array.size_extract]
    omega
  unfold setItem
  try with_reducible refine wpAny_holding ?_
  first | refine wpAny_bind (wpAny_pure ?_) | skip
  refine wpAny_bind (wpAny_sequenceKey hl.typeIs (by decide) ?_)
  refine wpAny_bind (wpAny_callSpecial?_slot (name := Str.ofString "__setitem__") hl.typeIs slot_list_setitem
    (wpAny_call_entry slot_list_setitem hl.typeIs entry_list_setitem ?_ (args_list_setitem _ _ _)))
  show wpAny _ _ (Builtin.List.listSubscript? (.ref sl) >>= _) _ _ s
  refine wpAny_bind ?_
  unfold Builtin.List.listSubscript?
  refine wpAny_bind (wpAny_specialOf hTs slice_no_index ?_)
  simp only [Option.isNone_none, if_true]
  refine wpAny_pure ?_
  show wpAny _ _ (typeOf (.ref sl) >>= _) _ _ s
  refine wpAny_bind (wpAny_typeOf hTs ?_)
  first
    | rw [if_neg (by decide)]
    | refine PySem.W.KFB.if_not (by decide) ?_
  rw [listSliceParts_eq]
  refine wpAny_bind (wpAny_bind (wpAny_field hos hds (x := .none) rfl (wpAny_bind (wpAny_listPart .none ?_))))
  rw [if_neg hstep]
  refine wpAny_bind (wpAny_field hos hds (x := vl) rfl (wpAny_bind (wpAny_listPart pl ?_)))
  refine wpAny_bind (wpAny_field hos hds (x := vu) rfl (wpAny_bind (wpAny_listPart pu (wpAny_pure ?_))))
  first
    | simp only [hsame, Bool.false_eq_true, if_false]
    | refine PySem.W.KFB.if_not hsame ?_
    | (dsimp only
       rw [if_neg (by rw [hsame]; exact Bool.false_ne_true)])
  refine wpAny_bind (m := Builtin.List.listAllItems (.ref b) "must assign iterable to extended slice") ?_
  unfold Builtin.List.listAllItems
  refine wpAny_bind (wpAny_typeOf hb.typeIs ?_)
  first
    | refine PySem.W.KFB.if_so (by decide) ?_
    | rw [if_pos (by decide)]
    | simp only [beq_self_eq_true, Bool.true_or, if_true]
  unfold Builtin.List.listItems
  refine wpAny_bind (wpAny_seqItems e2 rfl (wpAny_pure ?_))
  refine wpAny_bind (wpAny_bind (wpAny_seqItems e rfl (wpAny_pure ?_)))
  refine wpAny_bind (wpAny_of_eq ((sliceIndices_raw (some (a : Int)) (some (c : Int)) none items.size (by simp)).trans (congrArg (pure : Int × Int × Int → Sem (Int × Int × Int)) (bounds_run hac hc))) ?_)
  show wpAny _ _ (if ((1 : Int) == 1) = true then _ else _) _ _ s
  rw [if_pos (by decide)]
  refine wpAny_bind (wpAny_rule ?_)
  first
    | simp only [notLongL hsz, Bool.false_eq_true, if_false]
    | refine PySem.W.KFB.if_not (notLongL hsz) ?_
  first | refine wpAny_bind (wpAny_pure ?_) | skip
  show wpAny _ _ (updateSeq l (fun xs => xs.extract 0 ((a : Int)).toNat ++ new ++ xs.extract (max (a : Int) (c : Int)).toNat xs.size) >>= _) _ _ s
  rw [hmax, Int.toNat_natCast]
  refine wpAny_bind (wpAny_updateSeq (hz := Nat.le_trans (Nat.le_add_right _ _) hsz) (_hz' := hz') e rfl ?_)
  refine wpAny_bind (wpAny_letGo ?_)
  first
    | exact wpAny_bind (wpAny_pure (wpAny_pure ⟨.none, rfl, wpAny_pure h⟩))
    | exact wpAny_pure ⟨.none, rfl, wpAny_pure h⟩
end

section
variable {X : Cx}
/-- xs[a:c] = ys of another list, at the value level: sl is the slice object that was just made -/
theorem set_slice {pins : List (Addr × Obj)} {s : Shared} {σ : St} {H : Hp} {l b sl : Addr} {xs ys : List V} {a c : Int} {vl vu : Value} {Q : Unit → Shared → Prop} (I : Inv X pins σ H s)
    (hH : H l = some (.lst xs)) (hB : H b = some (.lst ys)) (hne : l ≠ b) (hs : s.heap.IsSliceOf sl vl vu .none) (ra : RelV (.int a) vl) (rc : RelV (.int c) vu) (h0 : 0 ≤ a) (hac : a ≤ c) (hc : c ≤ xs.length)
    (hz : xs.length + ys.length ≤ sizeLine) (h : ∀ s', Inv X pins σ (upd H l (.lst (xs.take a.toNat ++ ys ++ xs.drop c.toNat))) s' → Q () s') :
    wpAny (model X.prog X.w) X.A (setItem (.ref l) (.ref sl) (.ref b)) Q X.xe s := by
  obtain ⟨ta, rfl⟩ := ra
  obtain ⟨tc, rfl⟩ := rc
  obtain ⟨z, its, n, r, hl, e⟩ := I.lstM hH
  obtain ⟨z2, its2, n2, r2, hl2, e2⟩ := I.lstM hB
  obtain ⟨a', rfl⟩ := Int.eq_ofNat_of_zero_le h0
  obtain ⟨c', rfl⟩ := Int.eq_ofNat_of_zero_le (Int.le_trans h0 hac)
  simp only [Int.toNat_natCast] at h
  refine setItem_slice (a := a') (c := c') e e2 hne hs (.int _ _) (.int _ _) (by omega) (by rw [List.size_toArray]; omega) (by rw [List.size_toArray, List.size_toArray]; omega) (h _ ?_)
  refine I.lset (its' := its.take a' ++ its2 ++ its.drop c') (t' := s.toks) hH e ?_ (Vals.append (Vals.append (r.take _) r2) (r.drop _)) ?_
  · exact splice_eq its its2 a' c'
  · rw [List.length_append, List.length_append, List.length_take, List.length_drop]
    omega
end
end L2

namespace Att
open PySem PySem.W PySem.Calls PyProof.Rows

/-! ### the script -/
theorem ints_of_wellAll {P : Params} {h : Heap} : ∀ (ns : List Int) (vs : List Value), WellAll P h vs (ns.map WData.int) → IntsAre vs ns := by
  intro ns
  induction ns with
  | nil =>
    intro vs w
    rw [List.map_nil] at w
    cases w
    exact .nil
  | cons n ns ih =>
    intro vs w
    rw [List.map_cons] at w
    cases w with
    | cons a b =>
      cases a
      exact .cons _ _ (ih _ b)

theorem script_of {l : OpenLaw} {n : Nat} (hn : l.most = some n) {P : Params} {h : Heap} {args : List WData} {vals : List Value}
    (hpre : l.row.toRowW.claim.pre args = true) (hwl : WellAll P h vals args) :
    ∃ a vs ns, vals = [Value.ref a] ∧ args = [WData.list (ns.map WData.int)] ∧ h.get? a = some { cls := .type "list", data := .seq vs.toArray } ∧ IntsAre vs ns ∧ ns.length ≤ n := by
  have hsh : WShape.hasAll [] args [.list .int] = true := (pre_splitW hpre).1
  have hc : l.pre.holds [] { args := args } = true := (pre_splitW hpre).2
  obtain ⟨d, r, rfl, h1, h2⟩ := hasAllW_cons hsh
  obtain rfl := hasAllW_nil h2
  obtain ⟨xs, rfl, h3⟩ := hasW_list h1
  obtain ⟨ns, rfl⟩ := items_int h3
  have hlen : ns.length ≤ n := by
    unfold OpenLaw.pre at hc
    have h4 : (WTm.not (.lt (.lit (.int (n : Int))) (.len (.arg 0)))).holds [] { args := [.list (ns.map .int)] } = true := by
      have h4 := (holds_andW hc).1
      rw [hn] at h4
      exact h4
    have h5 := condW_of h4 (w_not (w_lt w_lit (w_len_list (w_arg rfl))))
    rw [List.length_map] at h5
    refine Nat.le_of_not_lt fun q => ?_
    have q' : (n : Int) < ((ns.length : Nat) : Int) := by omega
    first
      | (rw [decide_eq_true q'] at h5; exact absurd h5 (by decide))
      | (simp at h5; omega)
  cases hwl with
  | cons w1 w2 =>
    cases w2
    cases w1 with
    | list ho hall => exact ⟨_, _, ns, rfl, rfl, ho, ints_of_wellAll ns _ hall, hlen⟩

theorem post_true (l : OpenLaw) (args : List WData) : l.row.toRowW.claim.post args (.bool true) args = true :=
  postW_of (r := l.row.toRowW) (X := (true == true))
    (show WShape.has [] (.bool true) .bool = true by first | rfl | decide | simp [WShape.has, WShape.arms, WShape.armsAll])
    (show (WTm.eq .res (.lit (.bool true))).value [] { args := args, res := some (.bool true), after := args } = some (.bool (true == true)) from w_eq_bool (w_res rfl) w_lit) rfl

/-! ### the attachment: holds_open's last premise (the goal 'hc' behind k_head) from a wpAny of the law's body -/
theorem attach {l : OpenLaw} {n : Nat} {q : Program} {loose : List Str} {XP : (Str → Option Value) → Heap → Prop} {YP : World → Heap → Prop} {d : DefRec} {x : Str}
    (hn : l.most = some n) (hdf : d.params.defaults = [])
    (hbind : ∀ pm cd doc v : Value, bindArgs (docDef d.name d.params d.body d.scope pm cd doc) ⟨[v], []⟩ = pure [(x, v)])
    (hx : d.scope.names.lookup x = some .local ∨ d.scope.names.lookup x = some .cell)
    (hk : d.scope.kind = .function) (hco : d.scope.isCoroutine = false) (hgen : d.scope.isGenerator = false)
    (body : ∀ (w : World) (s₀ s₁ s : Shared) (mg mb : Str → Option Value) (fa : Addr) (o : Obj) (pm cd doc : Value) (a : Addr) (vs : List Value) (ns : List Int),
      Ground q loose [] XP w s₀ mg mb s₁.heap → YP w s₁.heap →
      s₁.heap.get? fa = some o → o.data = .func (docDef d.name d.params d.body d.scope pm cd doc) → s₁.heap.CodeRec cd d.name → mg d.name = some (.ref fa) →
      s₁.heap.get? a = some { cls := .type "list", data := .seq vs.toArray } → IntsAre vs ns → ns.length ≤ n →
      s.gens = #[] → s.os = s₁.os →
      Fr s₁.heap s₁.heap.objs.size s.heap (bindL (envOfC d.name d.scope s₁.heap.objs.size fa cd).kindOf [(x, .ref a)] fun _ => none) →
      Cl s₁.heap.objs.size (cellsFrom (s₁.heap.objs.size + 1) d.scope.names []) s.heap (bindC (envOfC d.name d.scope s₁.heap.objs.size fa cd).kindOf [(x, .ref a)] fun _ => none) →
      wpAny (model l.prog w) (callerA.deeper (envOfC d.name d.scope s₁.heap.objs.size fa cd)) (execs d.body (envOfC d.name d.scope s₁.heap.objs.size fa cd))
        (fun f s' => f = .ret (.bool true) ∧ OldK s₁.heap s'.heap ∧ s'.os = s₁.os ∧ AllBare s'.gens) (fun _ _ => False) s) :
    WalkO q loose XP YP l.row.toRowW d [] (fun f vs => PySem.call f vs) := by
  intro w s₀ s₁ mg mb G Y fa o pm cd doc dV kV ho hd hcd hD hmg hg args vals as hpre hlay hrd hwl hlo
  obtain rfl : dV = .none := Dflts.none hD hdf
  obtain rfl : kV = .none := Dflts.noKw hD
  obtain ⟨a, vs, ns, rfl, rfl, hobj, hints, hlen⟩ := script_of hn hpre hwl
  refine enter_call ?_
  refine call_cells_ret (o := o) (by rw [depth_caller]; decide) ho (fd_plain hd) G.T.nolimit hcd (hbind pm cd doc (.ref a)) (fun y hy => ?_) (fun h₁ tk F X => ?_) hco hgen hk
  · obtain rfl : y = (x, Value.ref a) := List.mem_singleton.mp hy
    rcases hx with e | e
    · exact .inl e
    · exact .inr ⟨e, cellsFrom_some _ _ _ (.inl e)⟩
  · refine wpAny_mono (body w s₀ s₁ { s₁ with heap := h₁, toks := tk } mg mb fa o pm cd doc a vs ns G Y ho (fd_plain hd) hcd hmg hobj hints hlen hg rfl F X) (fun f s' hq => ?_) (fun _ _ hq => hq)
    obtain ⟨rfl, h2, h3, h4⟩ := hq
    exact ⟨.inl ⟨.bool true, .bool true, [], rfl, fun _ => rfl, .bool true, post_true l _, fun _ => ⟨List.Pairwise.nil, fun _ hm => (nomatch hm)⟩⟩, h2, h3, h4⟩

/-- the same from a codeAny of the CALL (for a layer whose function contracts speak of calls) -/
theorem attach_call {l : OpenLaw} {n : Nat} {q : Program} {loose : List Str} {XP : (Str → Option Value) → Heap → Prop} {YP : World → Heap → Prop} {d : DefRec}
    (hn : l.most = some n) (hdf : d.params.defaults = [])
    (call : ∀ (w : World) (s₀ s₁ : Shared) (mg mb : Str → Option Value) (fa : Addr) (o : Obj) (pm cd doc : Value) (a : Addr) (vs : List Value) (ns : List Int),
      Ground q loose [] XP w s₀ mg mb s₁.heap → YP w s₁.heap →
      s₁.heap.get? fa = some o → o.data = .func (docDef d.name d.params d.body d.scope pm cd doc) → s₁.heap.CodeRec cd d.name → mg d.name = some (.ref fa) →
      s₁.heap.get? a = some { cls := .type "list", data := .seq vs.toArray } → IntsAre vs ns → ns.length ≤ n → s₁.gens = #[] →
      codeAny (model l.prog w) callerA (.call (.ref fa) ⟨[.ref a], []⟩) (fun r s' => r = .ok (.ret (.bool true)) ∧ OldK s₁.heap s'.heap ∧ s'.os = s₁.os ∧ AllBare s'.gens) s₁) :
    WalkO q loose XP YP l.row.toRowW d [] (fun f vs => PySem.call f vs) := by
  intro w s₀ s₁ mg mb G Y fa o pm cd doc dV kV ho hd hcd hD hmg hg args vals as hpre hlay hrd hwl hlo
  obtain rfl : dV = .none := Dflts.none hD hdf
  obtain rfl : kV = .none := Dflts.noKw hD
  obtain ⟨a, vs, ns, rfl, rfl, hobj, hints, hlen⟩ := script_of hn hpre hwl
  refine enter_call (codeAny_mono (call w s₀ s₁ mg mb fa o pm cd doc a vs ns G Y ho (fd_plain hd) hcd hmg hobj hints hlen hg) fun r s' hq => ?_)
  obtain ⟨rfl, h2, h3, h4⟩ := hq
  exact ⟨.inl ⟨.bool true, .bool true, [], rfl, fun _ => rfl, .bool true, post_true l _, fun _ => ⟨List.Pairwise.nil, fun _ hm => (nomatch hm)⟩⟩, h2, h3, h4⟩

/-- the same where the top left finished generators (o_head chose holds_openN): nothing may have changed at all and no generator may be left -/
theorem attachN {l : OpenLaw} {n : Nat} {q : Program} {loose : List Str} {XP : (Str → Option Value) → Heap → Prop} {YP : World → Heap → Prop} {d : DefRec} {x : Str}
    (hn : l.most = some n) (hdf : d.params.defaults = [])
    (hbind : ∀ pm cd doc v : Value, bindArgs (docDef d.name d.params d.body d.scope pm cd doc) ⟨[v], []⟩ = pure [(x, v)])
    (hx : d.scope.names.lookup x = some .local ∨ d.scope.names.lookup x = some .cell)
    (hk : d.scope.kind = .function) (hco : d.scope.isCoroutine = false) (hgen : d.scope.isGenerator = false)
    (body : ∀ (w : World) (s₀ s₁ s : Shared) (mg mb : Str → Option Value) (fa : Addr) (o : Obj) (pm cd doc : Value) (a : Addr) (vs : List Value) (ns : List Int),
      Ground q loose [] XP w s₀ mg mb s₁.heap → YP w s₁.heap →
      s₁.heap.get? fa = some o → o.data = .func (docDef d.name d.params d.body d.scope pm cd doc) → s₁.heap.CodeRec cd d.name → mg d.name = some (.ref fa) →
      s₁.heap.get? a = some { cls := .type "list", data := .seq vs.toArray } → IntsAre vs ns → ns.length ≤ n →
      s.gens = #[] → s.os = s₁.os →
      Fr s₁.heap s₁.heap.objs.size s.heap (bindL (envOfC d.name d.scope s₁.heap.objs.size fa cd).kindOf [(x, .ref a)] fun _ => none) →
      Cl s₁.heap.objs.size (cellsFrom (s₁.heap.objs.size + 1) d.scope.names []) s.heap (bindC (envOfC d.name d.scope s₁.heap.objs.size fa cd).kindOf [(x, .ref a)] fun _ => none) →
      wpAny (model l.prog w) (callerA.deeper (envOfC d.name d.scope s₁.heap.objs.size fa cd)) (execs d.body (envOfC d.name d.scope s₁.heap.objs.size fa cd))
        (fun f s' => f = .ret (.bool true) ∧ (∀ b o, s₁.heap.get? b = some o → s'.heap.get? b = some o) ∧ s'.os = s₁.os ∧ s'.gens = #[]) (fun _ _ => False) s) :
    WalkN q loose XP YP l.row.toRowW d [] (fun f vs => PySem.call f vs) := by
  intro w s₀ s₁ mg mb G Y fa o pm cd doc dV kV ho hd hcd hD hmg hg args vals as hpre hlay hrd hwl hlo
  obtain rfl : dV = .none := Dflts.none hD hdf
  obtain rfl : kV = .none := Dflts.noKw hD
  obtain ⟨a, vs, ns, rfl, rfl, hobj, hints, hlen⟩ := script_of hn hpre hwl
  refine enter_callW ?_
  refine call_cells_ret (o := o) (by rw [depth_caller]; decide) ho (fd_plain hd) G.T.nolimit hcd (hbind pm cd doc (.ref a)) (fun y hy => ?_) (fun h₁ tk F X => ?_) hco hgen hk
  · obtain rfl : y = (x, Value.ref a) := List.mem_singleton.mp hy
    rcases hx with e | e
    · exact .inl e
    · exact .inr ⟨e, cellsFrom_some _ _ _ (.inl e)⟩
  · refine wpAny_mono (body w s₀ s₁ { s₁ with heap := h₁, toks := tk } mg mb fa o pm cd doc a vs ns G Y ho (fd_plain hd) hcd hmg hobj hints hlen hg rfl F X) (fun f s' hq => ?_) (fun _ _ hq => hq)
    obtain ⟨rfl, h2, h3, h4⟩ := hq
    exact ⟨.inl ⟨.bool true, .bool true, [], rfl, fun _ => rfl, .bool true, post_true l _, fun _ => ⟨List.Pairwise.nil, fun _ hm => (nomatch hm)⟩⟩, h2, h3, h4⟩

/-! ### rules over ANY heap (no ledger) from facts about the written part K: the library's own take a ledger (News) for what they write -/
section
variable {prog : Program} {w : World} {A : Around} {E : Value → Shared → Prop} {s : Shared} {K : Frag}

/-- a def of the module, or a method (qual 'C.m'), entered: the frame is the next address; cells behind it -/
theorem call_fn {R : Result → Shared → Prop} {name qual : Str} {params : Arguments} {body : List Stmt} {scope : Scope} {dV kV doc pm cdv ct oc : Value} {an od : Option Addr} {osl : Array (Option Value)} {f : Addr} {args : Args} {binds : List (Str × Value)}
    (X : K.In s.heap) (hlim : s.heap.NoLimit) (ho : K.lookup f = some ⟨oc, od, .func (fnOf name qual params body scope dV kV doc pm an cdv ct), osl⟩) (hcd : codeIn K cdv qual = true) (hroom : A.depth < recursionLimit)
    (hbind : BindsTo s (fnOf name qual params body scope dV kV doc pm an cdv ct) args binds)
    (hkind : (binds.all fun y => scope.names.lookup y.1 == some .local || scope.names.lookup y.1 == some .cell) = true)
    (h : ∀ s₁, InCallC s s.heap.objs.size (bindL (envOfC qual scope s.heap.objs.size f cdv).kindOf binds fun _ => none) (cellsFrom (s.heap.objs.size + 1) scope.names [])
        (bindC (envOfC qual scope s.heap.objs.size f cdv).kindOf binds fun _ => none) s₁ →
      wpAny (model prog w) (A.deeper (envOfC qual scope s.heap.objs.size f cdv)) (execs body (envOfC qual scope s.heap.objs.size f cdv))
        (fun fl s' => R (.ok (.ret (match fl with | .ret v => v | _ => .none))) s')
        (fun e s' => wpAny (model prog w) (A.deeper (envOfC qual scope s.heap.objs.size f cdv)) (leaving (envOfC qual scope s.heap.objs.size f cdv) e) (fun _ s'' => R (.error e) s'') (fun e' s'' => R (.error e') s'') s') s₁)
    (hco : scope.isCoroutine = false) (hgen : scope.isGenerator = false) (hk : scope.kind = .function) : codeAny (model prog w) A (.call (.ref f) args) R s := by
  refine codeAny_call_function hroom (X _ _ ho) rfl hco hgen rfl (codeRec_of X hcd) (hbind _ _ _ _ ?_)
  refine wpAny_newFunctionEnv_cells hk (kindsX hkind _) fun env he s₁ x => ?_
  subst he
  exact ⟨hlim.keeps x.toInCall.keep, codeAny_func (h s₁ x)⟩

/-- C(..): dict at size, instance at size + 1, then __init__ -/
theorem make_obj {R : Result → Shared → Prop} {C fI : Addr} {rest : List Value} {kw : List (Str × Value)}
    (X : K.In s.heap) (hm : makesIn K C = true) (hi : findIn K (.ref C) "__init__" = some (some (.ref fI))) (hf : isFn K (.ref fI) = true)
    (h : codeAny (model prog w) (A.under (.builtin "type.__call__" ⟨.ref C :: rest, kw⟩)) (.call (.ref fI) ⟨.ref (s.heap.objs.size + 1) :: rest, kw⟩) (InitBack (s.heap.objs.size + 1) R)
      { s with heap := (s.heap.push emptyDict).push (instObj C s.heap.objs.size) }) : codeAny (model prog w) A (.call (.ref C) ⟨rest, kw⟩) R s := by
  obtain ⟨hh, g, d, t, os⟩ := s
  exact make_core (makes_of X hm) (looks_findIn X hi) (fun self => bind_fn X self (beq_iff_eq.mp hf)) (.inl rfl) h

/-- x.name where the instance's dict holds the name and the class does not -/
theorem get_field {x C : Addr} {ox : Obj} {es : List DictEntry} {n : Nat} {name : Str} {expr : Bool} {v : Value} {Q : Value → Shared → Prop}
    (X : K.In s.heap) (I : PySem.W.InstAt s.heap x ox C (some (dictOf es n))) (hg : plainGet K C name = true) (hh : hasDictIn K C = true) (ha : findIn K (.ref C) name = some none)
    (hl : getL name es = some (some v)) (hv : handedIn v = true) (h : Q v { s with toks := s.toks + 1 }) : wpAny (model prog w) A (getAttr (.ref x) name expr) Q E s :=
  get_value X I (plainGet_of hg).1 (findObj_own hh ha rfl hl) hv h

/-- x.m(..): the method found in the class -/
theorem get_method {x C f : Addr} {ox : Obj} {es : List DictEntry} {n : Nat} {name : Str} {pl : Sem Bool} {Q : Value × List Value → Shared → Prop}
    (X : K.In s.heap) (I : PySem.W.InstAt s.heap x ox C (some (dictOf es n))) (hg : plainGet K C name = true) (hf : findIn K (.ref C) name = some (some (.ref f))) (ht : isFn K (.ref f) = true)
    (hl : getL name es = some none) (h : Q (.ref f, [.ref x]) s) : wpAny (model prog w) A (getMethod (.ref x) name pl) Q E s :=
  method_fn X I (plainGet_of hg).1 (plainGet_of hg).2 hf (beq_iff_eq.mp ht) (by show (lookIn name (dictOf es n)).map _ = _; rw [lookIn_dict, hl]; rfl) h

/-! the whole heap as the ledger: makes every rule that writes through a ledger a rule over any heap -/
def noObjs (h : Heap) : Heap := { h with objs := #[] }
theorem noObjs_get (h : Heap) (b : Addr) : (noObjs h).get? b = none := by
  cases e : (noObjs h).get? b with
  | none => rfl
  | some o => exact absurd (Heap.lt_size e) (Nat.not_lt_zero _)
def ledger (h : Heap) (L d : Addr) : List (Addr × Obj) := (List.range h.objs.size).filterMap fun a => if a = L ∨ a = d then none else (h.get? a).map fun o => (a, o)
theorem mem_ledger {h : Heap} {L d a : Addr} {o : Obj} : (a, o) ∈ ledger h L d ↔ a ≠ L ∧ a ≠ d ∧ h.get? a = some o := by
  unfold ledger
  rw [List.mem_filterMap]
  constructor
  · rintro ⟨b, _, e⟩
    split at e
    · cases e
    · rename_i hb
      obtain ⟨o', ho, e'⟩ := Option.map_eq_some_iff.mp e
      cases e'
      exact ⟨fun q => hb (.inl q), fun q => hb (.inr q), ho⟩
  · rintro ⟨n1, n2, ho⟩
    refine ⟨a, List.mem_range.mpr (Heap.lt_size ho), ?_⟩
    rw [if_neg (show ¬ (a = L ∨ a = d) from fun q => q.elim n1 n2), ho] <;> rfl
theorem news_ledger {h : Heap} {L d : Addr} {od : Obj} (hne : d ≠ L) (ho : h.get? d = some od) : News (noObjs h) L h ([] ++ (d, od) :: ledger h L d) := by
  rintro ⟨a, o⟩ hp
  rcases List.mem_cons.mp hp with e | hp
  · cases e
    exact ⟨ho, hne, noObjs_get _ _⟩
  · obtain ⟨n1, n2, e⟩ := mem_ledger.mp hp
    exact ⟨e, n1, noObjs_get _ _⟩
theorem fr_all {h : Heap} {L : Addr} {m : Str → Option Value} (n : h.Ns L m) : Fr (noObjs h) L h m :=
  ⟨n, fun b o e => (by rw [noObjs_get] at e; cases e), Nat.zero_le _⟩
/-- Upd of the head entry (for append_K, setItem_K ..) -/
theorem upd_ledger {h : Heap} {L d : Addr} {o o' : Obj} : Upd d o o' ((d, o) :: ledger h L d) ((d, o') :: ledger h L d) :=
  .head fun ⟨_, _⟩ hp => (mem_ledger.mp hp).2.1

/-- x.name = v over any heap: L is any namespace of the heap (the frame's, say): its map stays, its object is not told; all else but the dict stays -/
theorem set_field {x C dx L : Addr} {ox : Obj} {m : Str → Option Value} {es es' : List DictEntry} {n n' : Nat} {name : Str} {v : Value} {Q : Unit → Shared → Prop}
    (X : K.In s.heap) (I : PySem.W.InstAt s.heap x ox C (some (dictOf es n))) (hd : ox.dict = some dx) (hL : s.heap.Ns L m) (hne : dx ≠ L)
    (hs : findIn K (.ref C) "__setattr__" = some (some (.builtin "object.__setattr__"))) (hp : plainOver K C = true) (ht : takerIn K C name = some none) (hh : hasDictIn K C = true) (hl : (getL name es).isSome = true)
    (e : (putL name (PyData.keyHash w.params name) (.str name (s.toks + 1)) v es, putN name es n) = (es', n')) (hz : es'.length ≤ 1000)
    (h : ∀ h' : Heap, h'.Ns L m → h'.get? dx = some (dictOf es' n') → (∀ b o, b ≠ dx → b ≠ L → s.heap.get? b = some o → h'.get? b = some o) → Q () { s with heap := h', toks := s.toks + 2 }) :
    wpAny (model prog w) A (setAttr (.ref x) name v) Q E s := by
  obtain ⟨e1, e2⟩ := Prod.mk.inj e
  have hdx : s.heap.get? dx = some (dictOf es n) := by
    have := I.dict
    rw [hd] at this
    exact this
  refine set_plain X I hs (osa_dict (s := { s with toks := s.toks + 1 }) (h₀ := noObjs s.heap) (L := L) (m := m) (od := dictOf es n) (od' := dictOf es' n') (es := es') (n := n') (pre := []) (post := ledger s.heap L dx)
    (fr_all hL) (news_ledger hne hdx) X I hd hp ht hh hl (fun _ q => nomatch q) (fun ⟨_, _⟩ q => (mem_ledger.mp q).2.1) (by rw [putName_dict, e1, e2]) rfl hz fun h' F' N' => ?_)
  exact h h' F'.ns (N'.get (List.Mem.head _)) fun b o n1 n2 ho => N'.get (List.Mem.tail _ (mem_ledger.mpr ⟨n2, n1, ho⟩))
end
end Att

namespace L2
open PySem PySem.Spec PyProof.Rows

theorem vals_ints : ∀ {vs : List Value} {ns : List Int}, IntsAre vs ns → Vals (ns.map V.int) vs
  | _, _, .nil => .nil
  | _, _, .cons n t h => .cons ⟨t, rfl⟩ (vals_ints h)

/-- nothing is tracked but the script, known to the object (or it is an object of the module) -/
def Only (H : Hp) : Prop := ∀ b, H b = none ∨ ∃ o xs, H b = some (.frz o (.lst xs))

/-- THE HEAD: the law's promise, at the heap behind the top. F, the promise of the law's def, may use that base is part of the heap (so K.In base, base.Ns mainGlobals mg stand in Mod) -/
theorem law_call {P : Program} {w : World} {K : PySem.W.Frag} {mg mb : Str → Option Value} {CX : CXT} {k : Nat} {fa a : Addr} {fd : FuncData} {x : Str} {sp : Sp} {s₁ : Shared} {vs : List Value} {ns : List Int}
    (KX : K.In s₁.heap) (hns : s₁.heap.Ns mainGlobals mg) (hb : s₁.heap.Ns builtinsNs mb) (hbb : ∀ x : Str, x ≠ "__name__" → mb x = bootBuiltins x) (hlim : s₁.heap.NoLimit) (hg : s₁.gens = #[])
    (ha : s₁.heap.get? a = some { cls := .type "list", data := .seq vs.toArray }) (hi : IntsAre vs ns) (hl : ns.length ≤ sizeLine) (hr : Room k callerA)
    (F : ∀ base : Heap, K.In base → base.Ns mainGlobals mg → FnOk P w K mg base CX k fa fd [x] sp) (hbind : ∀ (s : Shared) (u : Value), BindsTo s fd ⟨[u], []⟩ [(x, u)])
    (hsp : ∀ H : Hp, Only H → SqL K H a (ns.map V.int) → sp [.ref a] H (fun v _ => v = .bl true) fun _ _ _ => False)
    (hCX : ∀ H e s', CX [] H s₁ (fun _ _ _ => False) e s' → False) :
    codeAny (model P w) callerA (.call (.ref fa) ⟨[.ref a], []⟩) (fun r s' => r = .ok (.ret (.bool true)) ∧ OldK s₁.heap s'.heap ∧ s'.os = s₁.os ∧ AllBare s'.gens) s₁ := by
  have rv := vals_ints hi
  have lenV := hi.length
  -- from an abstract heap in which nothing but the script may be tracked
  have core : ∀ H : Hp, Only H → SqL K H a (ns.map V.int) → HOk P w H s₁.heap → (∀ b, H b ≠ none → b = a) → (H a ≠ none → K.lookup a = none) →
      codeAny (model P w) callerA (.call (.ref fa) ⟨[.ref a], []⟩) (fun r s' => r = .ok (.ret (.bool true)) ∧ OldK s₁.heap s'.heap ∧ s'.os = s₁.os ∧ AllBare s'.gens) s₁ := by
    intro H hO hS hok hA hK
    have base_of : ∀ {b : Addr} {o : Obj}, s₁.heap.get? b = some o → H b = none → (hidT s₁.heap H).get? b = some o := fun e n => hidT_get e n
    have noA : ∀ {b : Addr} {o : Obj} {es : Array DictEntry} {ep : Nat}, s₁.heap.get? b = some o → o.data = .dict es ep → H b = none := fun {b o es ep} e d => by
      cases q : H b with
      | none => rfl
      | some u =>
        have e' : b = a := hA b (by rw [q]; simp)
        subst e'
        rw [ha] at e; cases e
        have d' : Data.seq vs.toArray _ = Data.dict es ep := d
        cases d'
    have nsK : ∀ {b : Addr} {m : Str → Option Value}, s₁.heap.Ns b m → (hidT s₁.heap H).Ns b m := fun {b m} ⟨o, es, ep, e, d, r⟩ => ⟨o, es, ep, base_of e (noA e d), d, r⟩
    have hKb : K.In (hidT s₁.heap H) := fun b o e => base_of (KX b o e) (by
      cases q : H b with
      | none => rfl
      | some u =>
        have e' : b = a := hA b (by rw [q]; simp)
        subst e'
        rw [hK (by rw [q]; simp)] at e; cases e)
    have hM : Mod K mg (hidT s₁.heap H) := ⟨hKb, nsK hns, ⟨mb, nsK hb, hbb⟩, let ⟨mc, h1, h2⟩ := hlim; ⟨mc, nsK h1, h2⟩⟩
    have e0 : Env0 P w K mg (hidT s₁.heap H) callerA [] s₁ H := ⟨rfl, hM, fun b o e => of_hidT e, Nat.le_of_eq (hidT_size _ _), trivial, fun b hb => absurd (show b ∈ ([] : List Addr) from hb) (by simp), hok, .of_eq hg⟩
    refine codeAny_mono ((F _ hKb (nsK hns)).run callerA [] s₁ H ⟨[.ref a], []⟩ [.ref a] [.ref a] _ _ hr e0 (hbind s₁ (.ref a)) (.cons rfl .nil) (hsp H hO hS)) fun r s' h => ?_
    cases r with
    | error e => exact (hCX H e s' h).elim
    | ok fl =>
      cases fl with
      | next => exact False.elim h
      | brk => exact False.elim h
      | cont => exact False.elim h
      | ret u =>
        obtain ⟨v, H', os, bare, un, hok', r', q⟩ := h
        have q' : v = .bl true := q
        subst q'
        obtain rfl : u = Value.bool true := r'
        refine ⟨rfl, OldK.of_keep fun b o e => ?_, os, bare⟩
        cases q : H b with
        | none => exact un.keep b o e q (by intro z; exact absurd (show b ∈ ([] : List Addr) from z) (by simp)) (by simp)
        | some u =>
          rcases hO b with z | ⟨ob, xs, z⟩
          · rw [q] at z; cases z
          · have z2 := un.frzs b ob _ z
            obtain ⟨e1, _⟩ := hok b _ z
            obtain ⟨e2, _⟩ := hok' b _ z2
            rw [e] at e1; cases e1
            exact e2
  cases hk : K.lookup a with
  | some o =>
    -- the script is one of the module's own objects
    have e := KX a o hk
    rw [ha] at e
    cases e
    refine core (fun _ => none) (fun _ => .inl rfl) (.inr ⟨_, vs.toArray, _, hk, rfl, rfl, rfl, by rw [List.size_toArray, lenV]; exact hl, by simpa using rv⟩) (fun b u z => by have z' : (none : Option HO) = some u := z; cases z') (fun b z => absurd rfl z) fun z => absurd rfl z
  | none =>
    refine core (fun b => if b = a then some (.frz { cls := .type "list", data := .seq vs.toArray } (.lst (ns.map V.int))) else none) (fun b => ?_) (.inl (.inr ⟨{ cls := .type "list", data := .seq vs.toArray }, if_pos rfl⟩)) (fun b u z => ?_) (fun b z => ?_) fun _ => hk
    · by_cases hb : b = a
      · exact .inr ⟨_, _, if_pos hb⟩
      · exact .inl (if_neg hb)
    · by_cases hb : b = a
      · have z' := (if_pos hb).symm.trans z
        cases z'
        subst hb
        exact ⟨ha, by rw [List.length_map]; exact hl, vs, _, rv, ha⟩
      · have z' := (if_neg hb).symm.trans z
        cases z'
    · by_cases hb : b = a
      · exact hb
      · exact absurd (if_neg hb) z
end L2

namespace L2
open PySem PySem.Spec PyProof.Rows

abbrev KOf {K : PySem.W.Frag} {h : Heap} (_ : K.In h) : PySem.W.Frag := K

/-- the goal that k_head leaves (case hc), from the law's promise. F gives the function object fd (K's own) once, then the promise over every base -/
theorem walk_of {l : PySem.W.OpenLaw} {n k : Nat} {q : Program} {loose : List Str} {XP : (Str → Option Value) → Heap → Prop} {YP : World → Heap → Prop} {d : DefRec} {K : Params → PySem.W.Frag} {CX : World → CXT} {sp : World → Sp} {x : Str}
    (hn : l.most = some n) (hn2 : n ≤ sizeLine) (hdf : d.params.defaults = []) (hr : Room k callerA)
    (hY : ∀ (w : World) (h : Heap), YP w h → (K w.params).In h)
    (F : ∀ (w : World) (mg : Str → Option Value) (fa : Addr) (h : Heap), (K w.params).In h → h.Ns mainGlobals mg → mg d.name = some (.ref fa) →
      ∃ fd : FuncData, (∀ (s : Shared) (u : Value), BindsTo s fd ⟨[u], []⟩ [(x, u)]) ∧
        ∀ base : Heap, (K w.params).In base → base.Ns mainGlobals mg → FnOk l.prog w (K w.params) mg base (CX w) k fa fd [x] (sp w))
    (hsp : ∀ (w : World) (H : Hp) (a : Addr) (ns : List Int), ns.length ≤ n → Only H → SqL (K w.params) H a (ns.map V.int) → sp w [.ref a] H (fun v _ => v = .bl true) fun _ _ _ => False)
    (hCX : ∀ (w : World) (H : Hp) (s : Shared) (e : Value) (s' : Shared), CX w [] H s (fun _ _ _ => False) e s' → False) :
    PySem.W.WalkO q loose XP YP l.row.toRowW d [] (fun f vs => PySem.call f vs) := by
  refine Att.attach_call hn hdf fun w s₀ s₁ mg mb fa o pm cd doc a vs ns G Y ho hd hcd hmg hobj hints hlen hg => ?_
  have KX := hY w _ Y
  obtain ⟨fd, hb, hF⟩ := F w mg fa _ KX G.T.g hmg
  exact law_call KX G.T.g G.T.b G.T.builtins G.T.nolimit hg hobj hints (Nat.le_trans hlen hn2) hr hF hb (fun H hO hS => hsp w H a ns hlen hO hS) fun H e s' => hCX w H s₁ e s'
/-- the same where the promise hangs on the written part alone: (sp := My.sp_law), no hole under a binder -/
theorem walk_ofK {l : PySem.W.OpenLaw} {n k : Nat} {q : Program} {loose : List Str} {XP : (Str → Option Value) → Heap → Prop} {YP : World → Heap → Prop} {d : DefRec} {K : Params → PySem.W.Frag} {CX : CXT} {sp : PySem.W.Frag → Sp} {x : Str}
    (hn : l.most = some n) (hn2 : n ≤ sizeLine) (hdf : d.params.defaults = []) (hr : Room k callerA)
    (hY : ∀ (w : World) (h : Heap), YP w h → (K w.params).In h)
    (F : ∀ (w : World) (mg : Str → Option Value) (fa : Addr) (h : Heap), (K w.params).In h → h.Ns mainGlobals mg → mg d.name = some (.ref fa) →
      ∃ fd : FuncData, (∀ (s : Shared) (u : Value), BindsTo s fd ⟨[u], []⟩ [(x, u)]) ∧
        ∀ base : Heap, (K w.params).In base → base.Ns mainGlobals mg → FnOk l.prog w (K w.params) mg base CX k fa fd [x] (sp (K w.params)))
    (hsp : ∀ (K : PySem.W.Frag) (H : Hp) (a : Addr) (ns : List Int), ns.length ≤ n → Only H → SqL K H a (ns.map V.int) → sp K [.ref a] H (fun v _ => v = .bl true) fun _ _ _ => False)
    (hCX : ∀ (H : Hp) (s : Shared) (e : Value) (s' : Shared), CX [] H s (fun _ _ _ => False) e s' → False) :
    PySem.W.WalkO q loose XP YP l.row.toRowW d [] (fun f vs => PySem.call f vs) :=
  walk_of (K := K) (CX := fun _ => CX) (sp := fun w => sp (K w.params)) hn hn2 hdf hr hY F (fun w H a ns h1 h2 h3 => hsp (K w.params) H a ns h1 h2 h3) fun _ H s e s' => hCX H s e s'
end L2

/- THE LAST THEOREM (shape; LID, My.* are yours):
   My.Adr: a structure of the addresses that your layer names (classes, functions); My.Txt K t: a structure (Prop) of the equations over K;
   My.txt_mk : {K} {implicit addresses ..} (e1 : nsIn K mainGlobals "law" = some (some (.ref f))) (e2 : K.lookup f = some ⟨oc, od, .func (fnOf "law" "law" params body scope dV kV doc pm an cdv ct), sl⟩) (e3 : codeIn K cdv "law" = true) .. : ∃ t, My.Txt K t

set_option maxRecDepth 100000 in
set_option maxHeartbeats 0 in
theorem PySem.Challenge.cw_LID_holds : PySem.Challenge.rw_LID.Holds := by
  w_on; o_law; k_head; (case hw => w_witness2)
  k_fill
  refine L2.walk_of (l := PySem.Challenge.rw_LID) (n := 63) (k := 40) (x := "script") (CX := fun w => ..) (sp := fun _ => My.sp_law) rfl (by decide) rfl ⟨rfl, by decide, by decide⟩ (fun w h Y => PySem.W.kIn_of Y) ?F ?S ?C
  case F =>
    intro w mg fa h KX G hmg
    have T : ∃ t, My.Txt (L2.KOf KX) t := by
      dsimp only [L2.KOf]                          -- K must stand as «<heap const> w.params» for k_is
      refine' My.txt_mk ?e1 ?e2 ?e3 ..
      (case e1 => PySem.W.k_is)                    -- in the order: a name -> its address -> its object -> its parts
      (case e2 => PySem.W.k_is)
      ..
    obtain ⟨t, T⟩ := T
    have e0 := hmg.symm.trans (PySem.W.mg_of KX G T.law)
    cases e0                                       -- fa is the law's own address
    exact ⟨_, fun s u => .of_eq rfl, fun base kb nb => My.law_fn T kb nb⟩     -- if «.of_eq rfl» comes too early: refine' ⟨_, ?b, fun base kb nb => My.law_fn T kb nb⟩; exact fun s u => .of_eq rfl
  case S => exact fun w H a ns hl hO hS => ..
  case C => exact ..
(the tactic k_is has no namespace: write k_is) -/

/-! SHORT WORDS over the layer: a def of the text, its body, what a loop and a test want. -/
namespace L2
open PySem PySem.Spec PyProof.Rows

/-! ### the text by places -/
/-- the j-th statement of a class's body -/
def inClass (s : Stmt) (j : Nat) : Stmt := match s with
  | .ClassDef _ _ _ body _ _ _ _ _ _ _ => body.getD j (.Pass ⟨0, 0, 0, 0⟩)
  | _ => .Pass ⟨0, 0, 0, 0⟩
def defArgs (s : Stmt) : Arguments := match s with
  | .FunctionDef _ a _ _ _ _ _ _ _ _ => a
  | _ => { posonlyargs := [], args := [], vararg := none, kwonlyargs := [], kw_defaults := [], kwarg := none, defaults := [] }
def defBody (s : Stmt) : List Stmt := match s with
  | .FunctionDef _ _ b _ _ _ _ _ _ _ => b
  | _ => []
def defScope (s : Stmt) : Scope := match s with
  | .FunctionDef _ _ _ _ _ _ sc _ _ _ => sc
  | _ => { kind := .function, names := [], isGenerator := false, isCoroutine := false }

/-! ### no exception leaves a def -/
abbrev CX0 : CXT := fun _ _ _ _ _ _ => False
abbrev E0 : XK := fun _ _ _ => False
theorem pass0 {X : Cx} : Passes CX0 X E0 := fun _ _ _ _ _ _ _ h => h.elim

/-! ### a def (or method) of the text as it stands behind the top -/
structure Fun (K : PySem.W.Frag) (x qual : Str) (st : Stmt) (f : Addr) (fd : FuncData) : Prop where
  ex : ∃ (oc : Value) (od : Option Addr) (kV doc pm : Value) (an : Option Addr) (cdv ct : Value) (osl : Array (Option Value)),
    fd = PySem.W.fnOf x qual (defArgs st) (defBody st) (defScope st) .none kV doc pm an cdv ct ∧ K.lookup f = some ⟨oc, od, .func fd, osl⟩ ∧ PySem.W.codeIn K cdv qual = true
  kp : PySem.W.keepIn K (.ref f) = true
section
variable {P : Program} {w : World} {K : PySem.W.Frag} {mg : Str → Option Value} {base : Heap}
/-- THE RULE for a def: its body as a term of rules, and the reading of that term -/
theorem Fun.ok {x qual : Str} {st : Stmt} {f : Addr} {fd : FuncData} {N ps : List Str} {k : Nat} {sp : Sp} (F : Fun K x qual st f fd) (S : FnScope N ps (defScope st)) (len : ∀ vs H Q E, sp vs H Q E → vs.length = ps.length)
    (hbody : ∀ (cdv : Value) (A : Around) (outer : List Env) (s : Shared) (H : Hp) (vs : List V) (Q : VK) (E : XK), Room k (A.deeper (envOfC qual (defScope st) s.heap.objs.size f cdv)) → sp vs H Q E →
      ∃ t, PSs (cxOf CX0 P w K mg base N qual (defScope st) f cdv A outer s H E).nox (defBody st) t ∧ t { nx := fun _ H' => Q .non H', rt := Q } (start N vs) H) : FnOk P w K mg base CX0 (k + 1) f fd ps sp := by
  obtain ⟨oc, od, kV, doc, pm, an, cdv, ct, osl, rfl, lk, hcd⟩ := F.ex
  refine fn_of lk hcd S len fun A outer s H vs Q E hr hsp => ?_
  obtain ⟨t, h, q⟩ := hbody cdv A outer s H vs Q E hr hsp
  exact ⟨t, h.nox, q⟩
/-- how its arguments bind (no defaults): h is «fun _ _ _ _ _ _ us hl => match us, hl with | [_, _], _ => rfl», one _ a parameter -/
theorem Fun.binds {x qual : Str} {st : Stmt} {f : Addr} {fd : FuncData} {ps : List Str} (F : Fun K x qual st f fd)
    (h : ∀ (kV doc pm : Value) (an : Option Addr) (cdv ct : Value) (us : List Value), us.length = ps.length → bindArgs (PySem.W.fnOf x qual (defArgs st) (defBody st) (defScope st) .none kV doc pm an cdv ct) ⟨us, []⟩ = pure (ps.zip us)) : Binds K fd ps [] := by
  obtain ⟨oc, od, kV, doc, pm, an, cdv, ct, osl, rfl, lk, hcd⟩ := F.ex
  exact .all (h kV doc pm an cdv ct)
theorem fun_mk {x qual : Str} {st : Stmt} {f : Addr} {oc : Value} {od an : Option Addr} {osl : Array (Option Value)} {kV doc pm cdv ct : Value} (l : K.lookup f = some ⟨oc, od, .func (PySem.W.fnOf x qual (defArgs st) (defBody st) (defScope st) .none kV doc pm an cdv ct), osl⟩)
    (c : PySem.W.codeIn K cdv qual = true) (k : PySem.W.keepIn K (.ref f) = true) : Fun K x qual st f (PySem.W.fnOf x qual (defArgs st) (defBody st) (defScope st) .none kV doc pm an cdv ct) := ⟨⟨oc, od, kV, doc, pm, an, cdv, ct, osl, rfl, l, c⟩, k⟩
end
theorem hu_of {A : Around} {k : Nat} (hr : Room k A) : A.units + 1 < cLine := Nat.lt_of_le_of_lt (Nat.add_le_add_left (by decide : 1 ≤ 64) _) hr.units
theorem small1000 {n : Nat} (h : n ≤ 1000) : n < sizeLine := Nat.lt_of_le_of_lt h (by decide)

/-! ### expressions in short: the name that stands in the i-th slot -/
section
variable {X : Cx}
theorem pv (i : Nat) {x : Str} {pos : Pos} (hN : X.N[i]? = some x := by rfl) (hv : Vis X.env.scope x := by first | exact Or.inl rfl | exact Or.inr (Or.inl rfl) | exact Or.inr (Or.inr rfl)) (hd : (x == ("__debug__" : Str)) = false := by decide)
    (hcd : (x == ("__classdict__" : Str)) = false := by decide) : PE X (.Name x pos) (tVar i) := pe_var hN hv hd hcd
end

/-! ### tests -/
theorem iteF {A B : Prop} (h : B) : if false = true then A else B := by
  rw [if_neg Bool.false_ne_true]
  exact h
theorem iteT {A B : Prop} (h : A) : if true = true then A else B := by
  rw [if_pos rfl]
  exact h
theorem ite2 {c A B : Prop} [Decidable c] (h1 : c → A) (h2 : ¬ c → B) : if c then A else B := by
  by_cases h : c
  · rw [if_pos h]
    exact h1 h
  · rw [if_neg h]
    exact h2 h
theorem iteNS {c A B : Prop} [Decidable c] (hc : c) (h : B) : if (!decide c) = true then A else B := by
  rw [decide_eq_true hc]
  exact iteF h

/-! ### heaps -/
/-- all that was tracked is as it was -/
def Same (H H' : Hp) : Prop := ∀ b o, H b = some o → H' b = some o
theorem Same.refl (H : Hp) : Same H H := fun _ _ h => h
theorem Same.trans {H H1 H2 : Hp} (a : Same H H1) (b : Same H1 H2) : Same H H2 := fun c o h => b c o (a c o h)
theorem Same.free {H H' : Hp} (e : Same H H') {l : Addr} (h : H' l = Option.none) : H l = Option.none := by
  cases q : H l with
  | none => rfl
  | some o =>
    rw [e l o q] at h
    cases h
theorem Same.seq {K : PySem.W.Frag} {H H' : Hp} {a : Addr} {xs : List V} (e : Same H H') (h : SqL K H a xs) : SqL K H' a xs := by
  rcases h with (h | ⟨o, h⟩) | h
  · exact .inl (.inl (e _ _ h))
  · exact .inl (.inr ⟨o, e _ _ h⟩)
  · exact .inr h

end L2

/-! ### own additions to the layer, 0: the names of Python's own -/
namespace L2
open PySem PySem.Spec
theorem bt_len : bootBuiltins "len" = some (.builtin "len") := by decide +kernel
theorem bt_isinstance : bootBuiltins "isinstance" = some (.builtin "isinstance") := by decide +kernel
theorem bt_max : bootBuiltins "max" = some (.builtin "max") := by decide +kernel
theorem bt_min : bootBuiltins "min" = some (.builtin "min") := by decide +kernel
theorem bt_all : bootBuiltins "all" = some (.builtin "all") := by decide +kernel
theorem bt_any : bootBuiltins "any" = some (.builtin "any") := by decide +kernel
theorem bt_sum : bootBuiltins "sum" = some (.builtin "sum") := by decide +kernel
theorem bt_abs : bootBuiltins "abs" = some (.builtin "abs") := by decide +kernel
theorem bt_ord : bootBuiltins "ord" = some (.builtin "ord") := by decide +kernel
theorem bt_sorted : bootBuiltins "sorted" = some (.builtin "sorted") := by decide +kernel
theorem bt_repr : bootBuiltins "repr" = some (.builtin "repr") := by decide +kernel
theorem bt_divmod : bootBuiltins "divmod" = some (.builtin "divmod") := by decide +kernel
theorem bt_int : bootBuiltins "int" = some (.type "int") := by decide +kernel
theorem bt_bool : bootBuiltins "bool" = some (.type "bool") := by decide +kernel
theorem bt_list : bootBuiltins "list" = some (.type "list") := by decide +kernel
theorem bt_tuple : bootBuiltins "tuple" = some (.type "tuple") := by decide +kernel
theorem bt_str : bootBuiltins "str" = some (.type "str") := by decide +kernel
theorem bt_range : bootBuiltins "range" = some (.type "range") := by decide +kernel
theorem bt_reversed : bootBuiltins "reversed" = some (.type "reversed") := by decide +kernel
theorem bt_zip : bootBuiltins "zip" = some (.type "zip") := by decide +kernel
theorem bt_enumerate : bootBuiltins "enumerate" = some (.type "enumerate") := by decide +kernel
theorem bt_dict : bootBuiltins "dict" = some (.type "dict") := by decide +kernel
theorem bt_set : bootBuiltins "set" = some (.type "set") := by decide +kernel
theorem bt_ValueError : bootBuiltins "ValueError" = some (.type "ValueError") := by decide +kernel
end L2

/-! ### own additions to the layer, 1: calls under a name, data read deep, tests of a class -/
namespace L2
open PySem PySem.Spec PyProof.Rows

theorem ifN {c A B : Prop} [Decidable c] (h : ¬ c) (b : B) : if decide c = true then A else B := by rw [decide_eq_false h]; exact iteF b
theorem ifY {c A B : Prop} [Decidable c] (h : c) (a : A) : if decide c = true then A else B := by rw [decide_eq_true h]; exact iteT a
theorem ifNn {c A B : Prop} [Decidable c] (h : c) (b : B) : if (!decide c) = true then A else B := by rw [decide_eq_true h]; exact iteF b
theorem ifYn {c A B : Prop} [Decidable c] (h : ¬ c) (a : A) : if (!decide c) = true then A else B := by rw [decide_eq_false h]; exact iteT a
theorem ifB {b : Bool} {A B : Prop} (h : b = true) (a : A) : if b = true then A else B := by rw [h]; exact iteT a
theorem ifC {b : Bool} {A B : Prop} (h : b = false) (a : B) : if b = true then A else B := by rw [h]; exact iteF a

/-- a def of the text that keeps its promise, under its name -/
structure Has (P : Program) (w : World) (K : PySem.W.Frag) (mg : Str → Option Value) (base : Heap) (CX : CXT) (x : Str) (k : Nat) (ps : List Str) (sp : Sp) : Prop where
  ex : ∃ (f : Addr) (fd : FuncData), FnOk P w K mg base CX k f fd ps sp ∧ Binds K fd ps [] ∧ PySem.W.keepIn K (.ref f) = true ∧ mg x = some (.ref f)

section
variable {X : Cx} {x : Str} {k : Nat} {ps : List Str} {sp : Sp} {e : Expr} {es : List Expr} {t : TA} {p pos : Pos}
theorem pe_ch (h : Has X.prog X.w X.K X.mg X.base CX0 x k ps sp) (hr : Room k X.A) (hg : Gl X x) (ha : PA X (e :: es) t) (hdb : (x == ("__debug__" : Str)) = false := by decide)
    (he : starEach (e :: es) X.env = (false, eval e X.env) :: starEach es X.env := by rfl) (hpl : (backTo pos (starEach es X.env)).any (·.1) = false := by rfl) :
    PE X (.Call (.Name x p) (e :: es) [] pos) (tCall sp [] E0 t) := by
  obtain ⟨f, fd, F, b, kp, m⟩ := h.ex
  exact pe_call F hr hg m kp b .nil pass0 ha hdb he hpl
theorem pe_ch0 (h : Has X.prog X.w X.K X.mg X.base CX0 x k ps sp) (hr : Room k X.A) (hg : Gl X x) (hdb : (x == ("__debug__" : Str)) = false := by decide) :
    PE X (.Call (.Name x p) [] [] pos) (tCall sp [] E0 tNil) := by
  obtain ⟨f, fd, F, b, kp, m⟩ := h.ex
  exact pe_call0 F hr hg m kp b .nil pass0 hdb
end

theorem Same.tup {K : PySem.W.Frag} {H H' : Hp} {a : Addr} {xs : List V} (e : Same H H') (h : SqT K H a xs) : SqT K H' a xs := by
  rcases h with (h | ⟨o, h⟩) | h
  · exact .inl (.inl (e _ _ h))
  · exact .inl (.inr ⟨o, e _ _ h⟩)
  · exact .inr h

/-- what stands behind a value, read deep -/
inductive RdV (K : PySem.W.Frag) (H : Hp) : V → PyData → Prop
  | non : RdV K H .non .none
  | bl (b : Bool) : RdV K H (.bl b) (.bool b)
  | int (i : Int) : RdV K H (.int i) (.int i)
  | str (x : Str) : RdV K H (.str x) (.str x)
  | lst {a : Addr} {xs : List V} {ds : List PyData} (h : SqL K H a xs) (hl : xs.length = ds.length) (hi : ∀ (i : Nat) (x : V) (d : PyData), xs[i]? = some x → ds[i]? = some d → RdV K H x d) : RdV K H (.ref a) (.list ds)
  | tup {a : Addr} {xs : List V} {ds : List PyData} (h : SqT K H a xs) (hl : xs.length = ds.length) (hi : ∀ (i : Nat) (x : V) (d : PyData), xs[i]? = some x → ds[i]? = some d → RdV K H x d) : RdV K H (.ref a) (.tuple ds)
/-- .. item by item -/
def RdAll (K : PySem.W.Frag) (H : Hp) (xs : List V) (ds : List PyData) : Prop := xs.length = ds.length ∧ ∀ (i : Nat) (x : V) (d : PyData), xs[i]? = some x → ds[i]? = some d → RdV K H x d
theorem RdAll.nil {K : PySem.W.Frag} {H : Hp} : RdAll K H [] [] := ⟨rfl, fun i x d h => by simp at h⟩
theorem RdAll.cons {K : PySem.W.Frag} {H : Hp} {x : V} {d : PyData} {xs : List V} {ds : List PyData} (h : RdV K H x d) (r : RdAll K H xs ds) : RdAll K H (x :: xs) (d :: ds) :=
  ⟨by simp [r.1], fun i y e h1 h2 => by
    cases i with
    | zero => simp at h1 h2; subst h1; subst h2; exact h
    | succ i => exact r.2 i y e (by simpa using h1) (by simpa using h2)⟩
theorem RdAll.snoc {K : PySem.W.Frag} {H : Hp} {x : V} {d : PyData} : ∀ {xs : List V} {ds : List PyData}, RdAll K H xs ds → RdV K H x d → RdAll K H (xs ++ [x]) (ds ++ [d])
  | [], [], _, h => RdAll.cons h .nil
  | [], _ :: _, r, _ => nomatch r.1
  | _ :: _, [], r, _ => nomatch r.1
  | y :: xs, e :: ds, r, h => by
    have q : RdAll K H xs ds := ⟨by simpa using r.1, fun i a b h1 h2 => r.2 (i + 1) a b (by simpa using h1) (by simpa using h2)⟩
    exact RdAll.cons (r.2 0 y e rfl rfl) (RdAll.snoc q h)
theorem RdV.lst' {K : PySem.W.Frag} {H : Hp} {a : Addr} {xs : List V} {ds : List PyData} (h : SqL K H a xs) (r : RdAll K H xs ds) : RdV K H (.ref a) (.list ds) := .lst h r.1 r.2
theorem RdV.tup' {K : PySem.W.Frag} {H : Hp} {a : Addr} {xs : List V} {ds : List PyData} (h : SqT K H a xs) (r : RdAll K H xs ds) : RdV K H (.ref a) (.tuple ds) := .tup h r.1 r.2
theorem RdV.same {K : PySem.W.Frag} {H H' : Hp} (e : Same H H') {v : V} {d : PyData} (h : RdV K H v d) : RdV K H' v d := by
  induction h with
  | non => exact .non
  | bl b => exact .bl b
  | int i => exact .int i
  | str x => exact .str x
  | lst h hl hi ih => exact .lst (e.seq h) hl ih
  | tup h hl hi ih => exact .tup (e.tup h) hl ih
theorem RdAll.same {K : PySem.W.Frag} {H H' : Hp} (e : Same H H') {xs : List V} {ds : List PyData} (h : RdAll K H xs ds) : RdAll K H' xs ds := ⟨h.1, fun i x d h1 h2 => (h.2 i x d h1 h2).same e⟩
theorem readsAll_of {h : Heap} : ∀ {xs : List V} {us : List Value} {ds : List PyData}, Vals xs us → xs.length = ds.length → (∀ (i : Nat) (x : V) (d : PyData) (u : Value), xs[i]? = some x → ds[i]? = some d → RelV x u → ∃ as, Reads h u d as) → ∃ as, ReadsAll h us ds as
  | [], _, [], .nil, _, _ => ⟨[], .nil⟩
  | [], _, _ :: _, _, hl, _ => nomatch hl
  | _ :: _, _, [], _, hl, _ => nomatch hl
  | x :: xs, u :: us, d :: ds, .cons r t, hl, hi => by
    obtain ⟨as, ha⟩ := hi 0 x d u rfl rfl r
    obtain ⟨bs, hb⟩ := readsAll_of t (by simpa using hl) fun i y e w h1 h2 => hi (i + 1) y e w (by simpa using h1) (by simpa using h2)
    exact ⟨as ++ bs, .cons ha hb⟩
section
variable {X : Cx} {pins : List (Addr × Obj)} {σ : St} {H : Hp} {s : Shared}
theorem RdV.reads (I : Inv X pins σ H s) {v : V} {d : PyData} (h : RdV X.K H v d) : ∀ {u : Value}, RelV v u → ∃ as, Reads s.heap u d as := by
  induction h with
  | non => intro u r; cases r; exact ⟨_, .none⟩
  | bl b => intro u r; cases r; exact ⟨_, .bool b⟩
  | int i => intro u r; obtain ⟨t, rfl⟩ := r; exact ⟨_, .int i t⟩
  | str x => intro u r; obtain ⟨t, rfl⟩ := r; exact ⟨_, .str x t⟩
  | lst h hl hi ih =>
    intro u r; cases r
    obtain ⟨its, rv, ⟨o, n, e, c, _, d⟩, hz⟩ := I.list h
    obtain ⟨as, ha⟩ := readsAll_of (h := s.heap) rv hl fun i x d u h1 h2 r => ih i x d h1 h2 r
    exact ⟨_, .list e c d ha⟩
  | tup h hl hi ih =>
    intro u r; cases r
    obtain ⟨its, rv, ⟨o, e, c, n, d⟩, hz⟩ := I.tuple h
    obtain ⟨as, ha⟩ := readsAll_of (h := s.heap) rv hl fun i x d u h1 h2 r => ih i x d h1 h2 r
    exact ⟨_, .tuple e c d ha⟩
end
section
variable {X : Cx}
/-- == and != of data -/
def rEqD (K : PySem.W.Frag) : R2 := fun x y H Q => ∃ d d', RdV K H x d ∧ RdV K H y d' ∧ PySem.SeqAt.shaped d = true ∧ PySem.SeqAt.shaped d' = true ∧ Q (.bl (PyData.eqv d d')) H
def rNeD (K : PySem.W.Frag) : R2 := fun x y H Q => ∃ d d', RdV K H x d ∧ RdV K H y d' ∧ PySem.SeqAt.shaped d = true ∧ PySem.SeqAt.shaped d' = true ∧ Q (.bl (!PyData.eqv d d')) H
theorem op_eqD (hu : X.A.units + 64 < cLine) : OpR X (compareOp .Eq) (rEqD X.K) := by
  intro pins s σ H x y v u Q I rx ry h
  obtain ⟨d, d', h1, h2, s1, s2, q⟩ := h
  obtain ⟨as, r1⟩ := h1.reads I rx
  obtain ⟨bs, r2⟩ := h2.reads I ry
  exact eq_dataH r1 r2 s1 s2 hu ⟨.bl _, H, I, rfl, q⟩
theorem op_neD (hu : X.A.units + 64 < cLine) : OpR X (compareOp .NotEq) (rNeD X.K) := by
  intro pins s σ H x y v u Q I rx ry h
  obtain ⟨d, d', h1, h2, s1, s2, q⟩ := h
  obtain ⟨as, r1⟩ := h1.reads I rx
  obtain ⟨bs, r2⟩ := h2.reads I ry
  exact ne_dataH r1 r2 s1 s2 hu ⟨.bl _, H, I, rfl, q⟩
/-- x is True, x is False (x a truth) -/
theorem op_isB : OpR X (compareOp .Is) (fun x y H Q => ∃ b c, x = .bl b ∧ y = .bl c ∧ Q (.bl (b == c)) H) := by
  intro pins s σ H x y v u Q I rx ry h
  obtain ⟨b, c, rfl, rfl, q⟩ := h
  cases rx; cases ry
  exact is_bool ⟨.bl _, H, I, rfl, q⟩
theorem op_isnotB : OpR X (compareOp .IsNot) (fun x y H Q => ∃ b c, x = .bl b ∧ y = .bl c ∧ Q (.bl (b != c)) H) := by
  intro pins s σ H x y v u Q I rx ry h
  obtain ⟨b, c, rfl, rfl, q⟩ := h
  cases rx; cases ry
  exact isnot_bool ⟨.bl _, H, I, rfl, q⟩
/-- a dict stands at a -/
def DctAt (a : Addr) : Heap → Prop := fun h => ∃ o, h.get? a = some o ∧ o.cls = .type "dict"
/-- isinstance(x, T), T a type of Python's own -/
inductive TyV (K : PySem.W.Frag) (H : Hp) : V → String → Prop
  | non : TyV K H .non "NoneType"
  | bl (b : Bool) : TyV K H (.bl b) "bool"
  | int (i : Int) : TyV K H (.int i) "int"
  | str (x : Str) : TyV K H (.str x) "str"
  | lst {a : Addr} {xs : List V} (h : SqL K H a xs) : TyV K H (.ref a) "list"
  | tup {a : Addr} {xs : List V} (h : SqT K H a xs) : TyV K H (.ref a) "tuple"
  | dct {a : Addr} (h : H a = some (.ext (DctAt a))) : TyV K H (.ref a) "dict"
def rIsi (K : PySem.W.Frag) : List V → Hp → VK → Prop := fun vs H Q => ∃ x n t b, vs = [x, .ty n] ∧ TyV K H x t ∧ PySem.W.kitOne K (.type t) (.type n) = some b ∧ Q (.bl b) H
theorem call_isi : CallR X (.builtin "isinstance") (rIsi X.K) := by
  intro pins s σ H xs us Q I r h
  obtain ⟨x, n, t, b, rfl, ty, e, q⟩ := h
  obtain ⟨u, w', rfl, rx, rw'⟩ := vals2 r
  cases rw'
  have fin : ∀ tk, EP X pins σ Q (.bool b) { s with toks := tk } := fun tk => ⟨.bl b, H, I.tok tk, rfl, q⟩
  cases ty with
  | non => cases rx; exact PySem.W.kia_one PySem.W.kitx_none I.kIn True.intro e (fun z => nomatch z) fin
  | bl y => cases rx; exact PySem.W.kia_one PySem.W.kitx_bool I.kIn True.intro e (fun z => nomatch z) fin
  | int i => obtain ⟨t, rfl⟩ := rx; exact PySem.W.kia_one PySem.W.kitx_int I.kIn True.intro e (fun z => nomatch z) fin
  | str y => obtain ⟨t, rfl⟩ := rx; exact PySem.W.kia_one PySem.W.kitx_str I.kIn True.intro e (fun z => nomatch z) fin
  | lst h =>
    cases rx
    obtain ⟨its, rv, ⟨o, n, e1, c, _, d⟩, hz⟩ := I.list h
    exact PySem.W.kia_one PySem.W.kitx_list I.kIn ⟨o, e1, c⟩ e (fun z => nomatch z) fin
  | dct h =>
    cases rx
    obtain ⟨⟨o, e1, c⟩, _⟩ := I.hok _ _ h
    exact PySem.W.kia_one PySem.W.kitx_dict I.kIn ⟨o, e1, c⟩ e (fun z => nomatch z) fin
  | tup h =>
    cases rx
    obtain ⟨its, rv, ⟨o, e1, c, n, d⟩, hz⟩ := I.tuple h
    exact PySem.W.kia_one PySem.W.kitx_tuple I.kIn ⟨o, e1, c⟩ e (fun z => nomatch z) fin
/-- readings by name, for a block's own rules -/
def rLen (K : PySem.W.Frag) : List V → Hp → VK → Prop := fun xs H Q => ∃ p ys, xs = [.ref p] ∧ (SqL K H p ys ∨ SqT K H p ys) ∧ Q (.int ys.length) H
def rListOf (K : PySem.W.Frag) : List V → Hp → VK → Prop := fun xs H Q => ∃ p ys, xs = [.ref p] ∧ (SqL K H p ys ∨ SqT K H p ys) ∧ ∀ l, H l = none → Q (.ref l) (upd H l (.lst ys))
def rTupleOf (K : PySem.W.Frag) : List V → Hp → VK → Prop := fun xs H Q => ∃ p ys, xs = [.ref p] ∧ ((SqL K H p ys ∧ ∀ l, H l = none → Q (.ref l) (upd H l (.tup ys))) ∨ (SqT K H p ys ∧ Q (.ref p) H))
/-- a product whose factors are both of few bits -/
def CMulB (i j : Int) : Prop := (-340282366920938463463374607431768211456 < i ∧ i < 340282366920938463463374607431768211456) ∧ (-340282366920938463463374607431768211456 < j ∧ j < 340282366920938463463374607431768211456)
theorem CMulB.ok {i j : Int} (h : CMulB i j) : IntMulOk i j := by
  have e : (2 : Nat) ^ 128 = 340282366920938463463374607431768211456 := by decide
  obtain ⟨⟨h1, h2⟩, h3, h4⟩ := h
  have a : i.natAbs < 2 ^ 128 := by rw [e]; omega
  have b : j.natAbs < 2 ^ 128 := by rw [e]; omega
  exact IntMulOk.of_bits (Nat.le_trans (PyProof.Rows.intBits_le a) (by decide)) (Nat.le_trans (PyProof.Rows.intBits_le b) (by decide))
theorem op_mulB : OpR X (binaryOp .Mult) (rI CMulB fun i j => .int (i * j)) := opI fun _ _ _ _ _ _ _ hc q => mul_int q hc.ok
end
end L2

/-! ### own additions to the layer, 2: list comprehensions -/
namespace L2
open PySem PySem.Spec PyProof.Rows

/-- the cells that a block draws from around it -/
def clGo (cells : List (Str × Addr)) : List (Str × NameKind) → List (Str × Addr) → List (Str × Addr)
  | [], cs => cs
  | (n, k) :: r, cs => clGo cells r (if k == .free then (match cells.lookup n with | some c => (n, c) :: cs | none => cs) else cs)
theorem clGo_sub {cells : List (Str × Addr)} : ∀ (names : List (Str × NameKind)) (cs : List (Str × Addr)), (∀ x c, cs.lookup x = some c → cells.lookup x = some c) → ∀ x c, (clGo cells names cs).lookup x = some c → cells.lookup x = some c
  | [], _, h => h
  | (n, k) :: r, cs, h => by
    refine clGo_sub r _ fun x c e => ?_
    split at e
    · split at e
      · rename_i c' hc
        rw [List.lookup_cons] at e
        by_cases z : (x == n) = true
        · rw [z] at e
          have z' : x = n := by simpa using z
          rw [z']
          exact hc.trans e
        · rw [Bool.not_eq_true] at z
          rw [z] at e
          exact h x c e
      · exact h x c e
    · exact h x c e
theorem clGo_keep {cells : List (Str × Addr)} {x : Str} {c : Addr} (hx : cells.lookup x = some c) : ∀ (names : List (Str × NameKind)) (cs : List (Str × Addr)), cs.lookup x = some c → (clGo cells names cs).lookup x = some c
  | [], _, h => h
  | (n, k) :: r, cs, h => by
    refine clGo_keep hx r _ ?_
    split
    · split
      · rename_i c' hc
        rw [List.lookup_cons]
        by_cases z : (x == n) = true
        · rw [z]
          have z' : x = n := by simpa using z
          rw [z'] at hx
          exact hc.symm.trans hx
        · rw [Bool.not_eq_true] at z
          rw [z]
          exact h
      · exact h
    · exact h
theorem clGo_has {cells : List (Str × Addr)} {x : Str} {c : Addr} (hx : cells.lookup x = some c) : ∀ (names : List (Str × NameKind)) (cs : List (Str × Addr)), (x, NameKind.free) ∈ names → (clGo cells names cs).lookup x = some c
  | [], _, h => nomatch h
  | (n, k) :: r, cs, h => by
    rcases List.mem_cons.mp h with e | h
    · cases e
      refine clGo_keep hx r _ ?_
      simp [hx, List.lookup_cons]
    · exact clGo_has hx r _ h
theorem closureFor_go {env : Env} {scope : Scope} (h : ∀ y ∈ scope.names, y.2 = NameKind.free → ∃ c, env.cells.lookup y.1 = some c) : closureFor scope env = pure (clGo env.cells scope.names []) := by
  have go : ∀ (names : List (Str × NameKind)) (cs : List (Str × Addr)), (∀ y ∈ names, y.2 = NameKind.free → ∃ c, env.cells.lookup y.1 = some c) →
      (forIn names cs fun x (r : List (Str × Addr)) => if (x.2 == NameKind.free) = true then do let c ← cellOf env x.1; pure (ForInStep.yield ((x.1, c) :: r)) else pure (ForInStep.yield r) : Sem (List (Str × Addr))) = pure (clGo env.cells names cs) := by
    intro names
    induction names with
    | nil => intro cs _; rfl
    | cons y r ih =>
      intro cs hy
      obtain ⟨n, k⟩ := y
      rw [List.forIn_cons]
      by_cases hk : k = NameKind.free
      · subst hk
        obtain ⟨c, hc⟩ := hy _ List.mem_cons_self rfl
        have hc' : env.cells.lookup n = some c := hc
        have hcell : cellOf env n = pure c := by simp only [cellOf, hc']
        simp only [hcell, beq_self_eq_true, if_true, pure_bind]
        rw [ih _ fun y hm => hy y (List.mem_cons_of_mem _ hm)]
        simp only [clGo, beq_self_eq_true, if_true, hc']
      · have hb : (k == NameKind.free) = false := by simpa using hk
        simp only [hb, Bool.false_eq_true, if_false, pure_bind]
        rw [ih _ fun y hm => hy y (List.mem_cons_of_mem _ hm)]
        simp only [clGo, hb, Bool.false_eq_true, if_false]
  have e := go scope.names [] h
  unfold closureFor
  simp only [bind_pure] at e ⊢
  exact e
/-- a block's names, as the block's own scope has them -/
theorem relab_look {scope : Scope} {env : Env} (x : Str) : (relabel scope env).names.lookup x = (scope.names.lookup x).map fun k => if (k == NameKind.free && env.scope.kind == .function && env.kindOf x == some .cell) = true then .cell else k := by
  show (scope.names.map fun (n, k) => if (k == NameKind.free && env.scope.kind == .function && env.kindOf n == some .cell) = true then (n, NameKind.cell) else (n, k)).lookup x = _
  induction scope.names with
  | nil => rfl
  | cons y r ih =>
    obtain ⟨n, k⟩ := y
    rw [List.map_cons]
    by_cases z : (x == n) = true
    · have z' : x = n := by simpa using z
      subst z'
      by_cases hc : (k == NameKind.free && env.scope.kind == .function && env.kindOf x == some .cell) = true
      · simp only [hc, if_true, List.lookup_cons, beq_self_eq_true, Option.map_some]
      · simp only [hc, if_false, List.lookup_cons, beq_self_eq_true, Option.map_some, Bool.false_eq_true]
    · rw [Bool.not_eq_true] at z
      by_cases hc : (k == NameKind.free && env.scope.kind == .function && env.kindOf n == some .cell) = true
      · simp only [hc, if_true, List.lookup_cons, z]; exact ih
      · simp only [hc, if_false, List.lookup_cons, z, Bool.false_eq_true]; exact ih
theorem mem_of_look {α β : Type} [BEq α] [LawfulBEq α] {x : α} {b : β} : ∀ {l : List (α × β)}, l.lookup x = some b → (x, b) ∈ l
  | [], h => by simp at h
  | (n, k) :: r, h => by
    rw [List.lookup_cons] at h
    by_cases z : (x == n) = true
    · rw [z] at h
      have z' : x = n := by simpa using z
      cases h
      rw [z']
      exact List.mem_cons_self
    · rw [Bool.not_eq_true] at z
      rw [z] at h
      exact List.mem_cons_of_mem _ (mem_of_look h)

/-- the context of a comprehension's block, entered at s and H; the iterator's own records at ex turn within -/
def Cx.blk (X : Cx) (N : List Str) (scope : Scope) (C : Addr) (ex : List Addr) (s : Shared) (H : Hp) : Cx where
  prog := X.prog
  w := X.w
  K := X.K
  mg := X.mg
  base := X.base
  A := X.A
  N := N
  s₀ := s
  H₀ := H
  env := compEnvC scope (clGo X.env.cells scope.names []) C X.env
  outer := X.stack
  stack := X.stack
  ex := ex
  fn := fun _ => false
  calm := X.calm
  pn := []
  xe := fun _ _ => False
/-- what can be read off the text of a comprehension's scope -/
structure BlkOk (X : Cx) (own : Nat) (N : List Str) (ix : List Nat) (scope : Scope) : Prop where
  kind : scope.kind = .function
  calm : X.calm = true
  free : scope.names.all (fun y => y.2 != .free || X.env.kindOf y.1 == some .cell) = true
  cell : scope.names.all (fun y => y.2 != .cell) = true
  loc : scope.names.all (fun y => y.2 != .local || scope.names.lookup y.1 == some .local) = true
  ixs : (ix.map fun i => X.N[i]?) = (N.drop own).map some
  fr : (N.drop own).all (fun x => scope.names.lookup x == some .free) = true
  len : N.length = own + ix.length
/-- the block's slots as a turn begins: its own names are bare, the others as around it -/
def blkSt (own : Nat) (ix : List Nat) (σ : St) : St := List.replicate own none ++ ix.map fun i => (σ[i]?).getD none
theorem blkSt_drop (own : Nat) (ix : List Nat) (σ : St) : (blkSt own ix σ).drop own = ix.map fun i => (σ[i]?).getD none := by
  unfold blkSt
  rw [List.drop_left' (by simp)]
theorem blkSt_get {own : Nat} {ix : List Nat} {σ : St} {j : Nat} {v : V} (h : (blkSt own ix σ)[j]? = some (some v)) : ∃ i, own ≤ j ∧ ix[j - own]? = some i ∧ σ[i]? = some (some v) := by
  unfold blkSt at h
  by_cases hj : j < own
  · rw [List.getElem?_append_left (by simpa using hj)] at h
    rw [List.getElem?_replicate] at h
    simp [hj] at h
  · rw [List.getElem?_append_right (by simpa using hj)] at h
    rw [List.length_replicate, List.getElem?_map] at h
    cases e : ix[j - own]? with
    | none => rw [e] at h; simp at h
    | some i =>
      rw [e] at h
      refine ⟨i, by omega, rfl, ?_⟩
      have h' : (σ[i]?).getD none = some v := by simpa using h
      cases q : σ[i]? with
      | none => rw [q] at h'; simp at h'
      | some o => rw [q] at h'; simp at h'; rw [h']
theorem blkSt_weak {own : Nat} {ix : List Nat} {σ σ2 : St} (hd : σ2.drop own = ix.map fun i => (σ[i]?).getD none) : ∀ (j : Nat) v, (blkSt own ix σ)[j]? = some (some v) → σ2[j]? = some (some v) := fun j v h => by
  by_cases hj : j < own
  · obtain ⟨i, h1, _⟩ := blkSt_get h
    omega
  · have e : (blkSt own ix σ)[j]? = ((blkSt own ix σ).drop own)[j - own]? := by rw [List.getElem?_drop]; congr 1; omega
    have e2 : σ2[j]? = (σ2.drop own)[j - own]? := by rw [List.getElem?_drop]; congr 1; omega
    rw [e, blkSt_drop, ← hd, ← e2] at h
    exact h

section
variable {X : Cx} {pins : List (Addr × Obj)} {σ : St} {H : Hp} {s : Shared} {own : Nat} {N : List Str} {ix : List Nat} {scope : Scope}
theorem BlkOk.has (B : BlkOk X own N ix scope) (I : Inv X pins σ H s) : ∀ y ∈ scope.names, y.2 = NameKind.free → X.env.kindOf y.1 = some .cell ∧ ∃ c, X.env.cells.lookup y.1 = some c := fun y hy e => by
  have z := List.all_eq_true.mp B.free y hy
  rw [e] at z
  have z' : X.env.kindOf y.1 = some .cell := by simpa using z
  exact ⟨z', I.ok.has y.1 (.inl z')⟩
/-- the block's start -/
theorem blk_start {C : Addr} {ex : List Addr} {h' : Heap} {tk : Nat} (B : BlkOk X own N ix scope) (I : Inv X pins σ H s) (hC : C = s.heap.objs.size) (hx : ∀ b ∈ ex, FpOk X pins H b) (hlt : ∀ b ∈ ex, b < s.heap.objs.size)
    (hn : h'.Ns C (fun _ => none)) (hk : ∀ b o, s.heap.get? b = some o → h'.get? b = some o) : Inv (X.blk N scope C ex s H) [] (blkSt own ix σ) H { s with heap := h', toks := tk } := by
  have sub : ∀ x c, (clGo X.env.cells scope.names []).lookup x = some c → X.env.cells.lookup x = some c := clGo_sub scope.names [] fun x c e => by simp at e
  have nb : ∀ b o, X.base.get? b = some o → b ∉ ex := fun b o e hb => by
    rcases (hx b hb).2.2.2.1 with z | z
    · exact I.ok.noex b o e z
    · exact absurd (Nat.lt_of_lt_of_le (Heap.lt_size e) (Nat.le_trans I.ok.bsz z)) (Nat.lt_irrefl _)
  have nstk : ∀ b ∈ ex, b ∉ frs X.stack := fun b hb z => by
    rcases List.mem_cons.mp (I.stkSub b z) with e | e
    · exact (hx b hb).2.1 e
    · exact (hx b hb).2.2.1 e
  refine ⟨⟨I.ok.mod, B.kind, I.ok.glob, I.ok.blt, ?_, fun x y c e1 e2 => I.ok.inj x y c (sub x c e1) (sub y c e2), fun x hk' => ?_, (fun _ _ z => absurd (show false = true from z) (by decide)), I.ok.hd, I.ok.frames, .inl rfl, fun b hb => ⟨?_, fun x c e => (hx b hb).2.2.2.2.1 x c (sub x c e)⟩,
    fun b o e => I.bs b o e, Nat.le_trans I.ok.bsz I.sz, nb, nstk, I.stack, I.stkFree⟩, rfl, I.bare, Un.kept hk, ⟨_, hn, fun j x v e1 e2 e3 => ?_⟩, fun x c e => ?_, ?_, fun x c e => I.freeC x c (sub x c e), (fun p hp => nomatch hp), I.hok.kept hk, ?_⟩
  · show s.heap.objs.size ≤ C
    exact Nat.le_of_eq hC.symm
  · have hk'' : (relabel scope X.env).names.lookup x = some .cell ∨ (relabel scope X.env).names.lookup x = some .free := hk'
    rw [relab_look] at hk''
    have hf : scope.names.lookup x = some .free := by
      cases q : scope.names.lookup x with
      | none => rw [q] at hk''; rcases hk'' with z | z <;> cases z
      | some k =>
        rw [q] at hk''
        by_cases hkf : k = .free
        · rw [hkf]
        · exfalso
          have hb : (k == NameKind.free) = false := by simpa using hkf
          have hm := List.all_eq_true.mp B.cell (x, k) (mem_of_look q)
          simp only [Option.map_some, hb, Bool.false_and, Bool.false_eq_true, if_false] at hk''
          rcases hk'' with z | z
          · rw [Option.some.inj z] at hm; exact absurd hm (by simp)
          · exact hkf (Option.some.inj z)
    obtain ⟨_, c, hc⟩ := B.has I (x, .free) (mem_of_look hf) rfl
    exact ⟨c, clGo_has hc scope.names [] (mem_of_look hf)⟩
  · show b ≠ C
    rw [hC]
    exact Nat.ne_of_lt (hlt b hb)
  · obtain ⟨i, h1, h2, h3⟩ := blkSt_get e2
    have hN : N[j]? = some x := e1
    have hxN : X.N[i]? = some x := by
      have e : (ix.map fun i => X.N[i]?)[j - own]? = ((N.drop own).map some)[j - own]? := by rw [B.ixs]
      rw [List.getElem?_map, h2, List.getElem?_map, List.getElem?_drop] at e
      have hj : own + (j - own) = j := by omega
      rw [hj, hN] at e
      simpa using e
    have hfr : scope.names.lookup x = some .free := by
      have hm : x ∈ N.drop own := by
        refine List.mem_of_getElem? (i := j - own) ?_
        rw [List.getElem?_drop, show own + (j - own) = j by omega]
        exact hN
      have := List.all_eq_true.mp B.fr x hm
      simpa using this
    obtain ⟨hkc, c, hc⟩ := B.has I (x, .free) (mem_of_look hfr) rfl
    obtain ⟨m, hm, hl⟩ := I.loc
    obtain ⟨u, r, l⟩ := hl i x v hxN h3 (.inr (.inl hkc))
    refine ⟨u, r, ?_⟩
    rcases l with ⟨z, _⟩ | ⟨_, c', hc', hz⟩
    · have z' : X.env.kindOf x = some .local := z
      have hkc' : X.env.kindOf x = some .cell := hkc
      rw [hkc'] at z'
      cases z'
    · rw [hc] at hc'
      cases hc'
      refine .inr ⟨.inl ?_, c, clGo_has hc scope.names [] (mem_of_look hfr), ?_⟩
      · show (relabel scope X.env).names.lookup x = some .cell
        rw [relab_look, hfr]
        have hkc' : X.env.kindOf x = some .cell := hkc
        have hkf : X.env.scope.kind = .function := I.ok.kind
        simp [hkc', hkf]
      · obtain ⟨o, ho, hd⟩ := hz
        exact ⟨o, hk _ _ ho, hd⟩
  · obtain ⟨v, o, ho, hd⟩ := I.cell x c (sub x c e)
    exact ⟨v, o, hk _ _ ho, hd⟩
  · show H C = none
    exact I.hok.fresh (Nat.le_of_eq hC.symm)
  · show (blkSt own ix σ).length = N.length
    rw [B.len]
    simp [blkSt]
/-- behind the block -/
theorem blk_end {C : Addr} {ex : List Addr} {σ' : St} {H' : Hp} {s' : Shared} (I : Inv X pins σ H s) (hx : ∀ b ∈ ex, FpOk X pins H b) (I' : Inv (X.blk N scope C ex s H) [] σ' H' s') : Inv X pins σ H' s' :=
  I.call' (ch := ex) I'.os I'.base I'.hok I'.bare fun b hb => ⟨(hx b hb).2.2.2.1, (hx b hb).2.1, (hx b hb).2.2.2.2.1, (hx b hb).2.2.2.2.2⟩

/-- the tests of a comprehension's one clause -/
def PIf (X : Cx) (ifs : List Expr) (tt : TT) : Prop := ∀ (pins : List (Addr × Obj)) (s : Shared) (σ : St) (H : Hp) (Q : Bool → Hp → Prop), Inv X pins σ H s → tt σ H Q →
  wpAny (model X.prog X.w) X.A (forIn ifs true fun c r => if r = true then do let ok ← isTrue c X.env (eval c X.env); pure (ForInStep.yield ok) else pure (ForInStep.yield r)) (TP X pins σ Q) X.xe s
def tYes : TT := fun _ H Q => Q true H
theorem pif_nil {X : Cx} : PIf X [] tYes := fun _ _ _ H _ I h => wpAny_tests_nil ⟨H, I, h⟩
theorem pif_one {X : Cx} {c : Expr} {t : TT} (h : PT X c t) : PIf X [c] t := fun pins s σ H Q I q => wpAny_tests_one (h pins s σ H Q I q)

/-- what is asked of the turns of a comprehension: D the new list; W the word between two turns (the turn, a measure, what the list holds, the heap) -/
def LcW (J : It) (own : Nat) (ix : List Nat) (σ : St) (g : TG) (tt : TT) (te : TE) (D : Addr) (H1 : Hp) (Q : VK) : Prop := ∃ W : Nat → Nat → List V → Hp → Prop,
  (∃ m, W 0 m [] (upd H1 D (.lst []))) ∧ ∀ i m ys H2, W i m ys H2 → H2 D = some (.lst ys) ∧ ((J.stop i H2 ∧ Q (.ref D) H2) ∨ (J.go i H2 ∧ ys.length < sizeLine ∧ ∃ Nx : List V → Hp → Prop, (∀ ys' H', Nx ys' H' → ∃ m', m' < m ∧ W (i + 1) m' ys' H') ∧ ∀ x H3, J.yld i H2 x H3 →
    g x (blkSt own ix σ) H3 fun σ2 H4 => σ2.drop own = (ix.map fun i => (σ[i]?).getD none) ∧ tt σ2 H4 fun b H5 => if b = true then te σ2 H5 fun v H6 => H6 D = some (.lst ys) ∧ Nx (ys ++ [v]) (upd H6 D (.lst (ys ++ [v]))) else Nx ys H5))
/-- the reading of a comprehension -/
def tLc (own : Nat) (ix : List Nat) (wi : TI) (g : TG) (tt : TT) (te : TE) : TE := fun σ H Q => wi σ H fun J H1 => ∀ D, H1 D = none → LcW J own ix σ g tt te D H1 Q

theorem compLoop_go {prog : Program} {w : World} {A : Around} {R : Result → Shared → Prop} {s : Shared} {elt target iter : Expr} {ifs : List Expr} {scope : Scope} {pos : Pos} {it acc : Value} {env : Env} (I : Nat → Shared → Prop)
    (turn : ∀ n s, I n s → wpAny (model prog w) A (pyNext it) (fun r s1 => match r with
      | none => R (.ok .next) s1
      | some v => wpAny (model prog w) A (letOwnedTupleGo target it v) (fun _ s1' => wpAny (model prog w) A (assign target env v) (fun _ s2 =>
          wpAny (model prog w) A (forIn ifs true fun c r => if r = true then do let ok ← isTrue c env (eval c env); pure (ForInStep.yield ok) else pure (ForInStep.yield r)) (fun ok s3 =>
            if ok = true then wpAny (model prog w) A (eval elt env) (fun x s4 => wpAny (model prog w) A (call (.builtin "list.append") [acc, x]) (fun _ s5 => ∃ m, m < n ∧ I m s5) (fun _ _ => False) s4) (fun _ _ => False) s3
            else ∃ m, m < n ∧ I m s3) (fun _ _ => False) s2) (fun _ _ => False) s1') (fun _ _ => False) s1) (fun _ _ => False) s)
    (n : Nat) (h : I n s) : codeAny (model prog w) A (.compLoop (.ListComp elt [⟨target, iter, ifs, 0⟩] scope pos) 0 it acc env) R s := by
  refine codeAny_loop rfl I (fun n s hI => ?_) n h
  show wpAny _ A ((compTurn (.ListComp elt [⟨target, iter, ifs, 0⟩] scope pos) 0 it acc env).onRaise (fun x => do noteFrame x env; theTreesLotGoes x)) _ _ s
  refine wpAny_noted ?_
  rw [compTurn_list]
  refine wpAny_bind (wpAny_standAt (wpAny_bind (wpAny_mono (turn n s hI) (fun r s1 h1 => ?_) fun _ _ z => z.elim)))
  cases r with
  | none => exact wpAny_pure h1
  | some v =>
    refine wpAny_bind (wpAny_mono h1 (fun _ s1' h1' => ?_) fun _ _ z => z.elim)
    refine wpAny_bind (wpAny_mono h1' (fun _ s2 h2 => wpAny_bind (wpAny_mono h2 (fun ok s3 h3 => ?_) fun _ _ z => z.elim)) fun _ _ z => z.elim)
    cases ok with
    | false => exact wpAny_pure ⟨rfl, h3⟩
    | true => exact wpAny_bind (wpAny_bind (wpAny_mono h3 (fun x s4 h4 => wpAny_bind (wpAny_mono h4 (fun _ s5 h5 => wpAny_pure (wpAny_pure ⟨rfl, h5⟩)) fun _ _ z => z.elim)) fun _ _ z => z.elim))

/-- the block runs: Fin is asked behind it -/
theorem blk_run {elt tg iter : Expr} {ifs : List Expr} {pos : Pos} {g : TG} {tt : TT} {te : TE} {it : Addr} {fp : List Addr} {tn : Nat → Heap → Prop} {J : It} {Q : VK} {E : Value → Shared → Prop} {RR : Value → Addr → Result → Shared → Prop} (B : BlkOk X own N ix scope)
    (hin : ∀ (C : Addr) (s : Shared) (H : Hp), PG (X.blk N scope C fp s H) tg g ∧ PIf (X.blk N scope C fp s H) ifs tt ∧ PE (X.blk N scope C fp s H) elt te)
    (I : Inv X pins σ H s) (T : Turn X.prog X.w X.K tg J fp it tn) (st : tn 0 s.heap) (hf : ∀ b ∈ fp, FpOk X pins H b)
    (h : ∀ D, H D = none → LcW J own ix σ g tt te D H Q)
    (fin : ∀ (D C : Addr) (H' : Hp) (s' : Shared) (m : Str → Option Value), Inv X pins σ H' s' → s'.heap.Ns C m → H' C = none → C ≠ X.env.locals → (X.s₀.heap.objs.size ≤ C) → (∀ x c, X.env.cells.lookup x = some c → c ≠ C) → (∀ p ∈ X.pn ++ pins, p.1 ≠ C) → Q (.ref D) H' → RR (.ref D) C (.ok .next) s') :
    wpAny (model X.prog X.w) X.A (newList []) (fun acc s3 => wpAny (model X.prog X.w) X.A (newFunctionEnv scope X.env.globals (clGo X.env.cells scope.names []) [] X.env.qual none .none (some X.env)) (fun cenv s4 =>
      codeAny (model X.prog X.w) X.A (.compStart (.ListComp elt [⟨tg, iter, ifs, 0⟩] scope pos) 0 (.ref it) acc { cenv with scope := relabel scope X.env }) (RR acc cenv.locals) s4) E s3) E s := by
  obtain ⟨W, ⟨m0, w0⟩, turn⟩ := h s.heap.objs.size I.fresh
  refine wpAny_newObj_type ?_
  have I3 := I.lnew (its := []) (ys := []) (t' := s.toks) .nil (Nat.zero_le _)
  have hcell : ∀ y ∈ scope.names, y.2 ≠ NameKind.cell := fun y hy e => by
    have := List.all_eq_true.mp B.cell y hy
    rw [e] at this
    exact absurd this (by decide)
  refine wpAny_newFunctionEnv hcell (by intro y hy; simp at hy) (fun h1 hns1 hsb1 => ?_) B.kind
  dsimp only at hns1 hsb1 ⊢
  generalize hH2 : s.heap.push { cls := .type "list", dict := none, data := .seq ([] : List Value).toArray } = h2 at hns1 hsb1 ⊢
  have I3' : Inv X pins σ (upd H s.heap.objs.size (.lst [])) { s with heap := h2 } := by
    have z : ({ s with heap := s.heap.push { cls := .type "list", data := .seq ([] : List Value).toArray }, toks := s.toks } : Shared) = { s with heap := h2 } := by rw [← hH2]
    rw [← z]
    exact I3
  have sz : h2.objs.size = s.heap.objs.size + 1 := by rw [← hH2, Heap.size_push]
  have old2 : ∀ b o, s.heap.get? b = some o → h2.get? b = some o := fun b o e => by rw [← hH2]; exact Heap.get?_push_of_some _ e
  have keep1 : ∀ b o, h2.get? b = some o → h1.get? b = some o := fun b o e => hsb1.extBut b o (Nat.ne_of_lt (Heap.lt_size e)) (Heap.get?_push_of_some _ e)
  have there : ∀ b ∈ fp, b < s.heap.objs.size := fun b hb => by obtain ⟨o, e, _⟩ := T.obj _ _ st b hb; exact Heap.lt_size e
  have hf3 : ∀ b ∈ fp, FpOk X pins (upd H s.heap.objs.size (.lst [])) b := fun b hb => ⟨by rw [upd_ne (Nat.ne_of_lt (there b hb))]; exact (hf b hb).1, (hf b hb).2⟩
  have hn1 : h1.Ns h2.objs.size (fun _ => none) := by simpa using hns1
  have I4 := blk_start (tk := s.toks + ([] : List (Str × Value)).length) (own := own) (N := N) (ix := ix) B I3' rfl hf3 (fun b hb => Nat.lt_of_lt_of_le (there b hb) (by show s.heap.objs.size ≤ h2.objs.size; rw [sz]; exact Nat.le_succ _)) hn1 keep1
  have st4 : tn 0 h1 := T.keep _ _ _ st fun b _ o e => keep1 b o (old2 b o e)
  have Bc : (X.blk N scope h2.objs.size fp { s with heap := h2 } (upd H s.heap.objs.size (.lst []))).calm = true := B.calm
  obtain ⟨pg, pif, pe⟩ := hin h2.objs.size { s with heap := h2 } (upd H s.heap.objs.size (.lst []))
  have fpb : ∀ {H' : Hp}, (∀ b ∈ fp, H' b = none) → ∀ b ∈ fp, FpOk (X.blk N scope h2.objs.size fp { s with heap := h2 } (upd H s.heap.objs.size (.lst []))) [] H' b := fun hz b hb =>
    ⟨hz b hb, Nat.ne_of_lt (Nat.lt_of_lt_of_le (there b hb) (by show s.heap.objs.size ≤ h2.objs.size; rw [sz]; exact Nat.le_succ _)), I4.ok.exfs b hb, .inl hb, fun x c e => (I4.ok.exf b hb).2 x c e, (fun p hp => nomatch hp)⟩
  have loop : ∀ s3 : Shared, s3 = { s with heap := h1, toks := s.toks + ([] : List (Str × Value)).length } →
      codeAny (model X.prog X.w) X.A (.compLoop (.ListComp elt [⟨tg, iter, ifs, 0⟩] scope pos) 0 (.ref it) (.ref s.heap.objs.size) (compEnvC scope (clGo X.env.cells scope.names []) h2.objs.size X.env)) (RR (.ref s.heap.objs.size) h2.objs.size) s3 := by
    rintro s3 rfl
    refine compLoop_go (fun n s' => ∃ i ys H', Inv (X.blk N scope h2.objs.size fp { s with heap := h2 } (upd H s.heap.objs.size (.lst []))) [] (blkSt own ix σ) H' s' ∧ tn i s'.heap ∧ (∀ b ∈ fp, H' b = none) ∧ W i n ys H') ?_ m0
      ⟨0, [], _, I4, st4, fun b hb => (hf3 b hb).1, w0⟩
    rintro n s5 ⟨i, ys, H5, I5, st5, fr5, w5⟩
    obtain ⟨hD, t5⟩ := turn i n ys H5 w5
    rcases t5 with ⟨stop, qn⟩ | ⟨go, hz, Nx, hNx, step⟩
    · refine thn (T.done (X.blk N scope h2.objs.size fp { s with heap := h2 } (upd H s.heap.objs.size (.lst []))) rfl rfl rfl Bc i [] s5 _ H5 (fun _ _ => False) I5 (fpb fr5) st5 stop) fun r s6 ⟨hr, I6⟩ => ?_
      subst hr
      obtain ⟨m, hm, _⟩ := I6.loc
      refine fin _ _ H5 s6 m (blk_end I3' hf3 I6) hm I6.free ?_ ?_ (fun x c e z => ?_) (fun p hp z => ?_) qn
      · have := I3'.lt
        exact Nat.ne_of_gt this
      · exact I3'.sz
      · obtain ⟨v, q⟩ := I3'.cell x c e
        have := q.lt
        rw [z] at this
        exact absurd this (Nat.lt_irrefl _)
      · have := Heap.lt_size (I3'.pin p hp).1
        rw [z] at this
        exact absurd this (Nat.lt_irrefl _)
    · refine thn (T.item (X.blk N scope h2.objs.size fp { s with heap := h2 } (upd H s.heap.objs.size (.lst []))) rfl rfl rfl Bc i [] s5 _ H5 (fun _ _ => False) I5 (fpb fr5) st5 go) fun r s6 ⟨u, hr, h6⟩ => ?_
      subst hr
      refine thn h6 fun _ s7 ⟨x, H7, I7, r7, y7, st7, fr7⟩ => ?_
      have I7' := I7.pinned (fpb fr7) (T.obj _ _ st7)
      refine thn (pg _ s7 _ H7 x u _ I7' r7 (step x H7 y7)) fun _ s8 ⟨σ8, H8, I8, hd8, q8⟩ => ?_
      refine thn (pif _ s8 σ8 H8 _ I8 q8) fun b s9 ⟨H9, I9, q9⟩ => ?_
      have again : ∀ {ys' : List V} {H' : Hp} {s' : Shared}, Inv (X.blk N scope h2.objs.size fp { s with heap := h2 } (upd H s.heap.objs.size (.lst []))) ([] ++ pinsAt fp s7.heap) σ8 H' s' → Nx ys' H' →
          ∃ m, m < n ∧ ∃ i ys H', Inv (X.blk N scope h2.objs.size fp { s with heap := h2 } (upd H s.heap.objs.size (.lst []))) [] (blkSt own ix σ) H' s' ∧ tn i s'.heap ∧ (∀ b ∈ fp, H' b = none) ∧ W i m ys H' := by
        intro ys' H' s' I' w'
        obtain ⟨m', hm, w'⟩ := hNx _ _ w'
        refine ⟨m', hm, i + 1, ys', H', (I'.unpinned).weak ?_ (blkSt_weak hd8), T.keep _ _ _ st7 fun b hb o e => (I'.pin (b, o) (List.mem_append_right _ (List.mem_append_right _ (mem_pinsAt hb e)))).1, fun b hb => ?_, w'⟩
        · rw [I'.len, ← I4.len]
        · obtain ⟨o, e, d⟩ := T.obj _ _ st7 b hb
          exact (I'.pin (b, o) (List.mem_append_right _ (List.mem_append_right _ (mem_pinsAt hb e)))).2.1
      cases b with
      | true =>
        simp only [if_true] at q9 ⊢
        refine thn (pe _ s9 σ8 H9 _ I9 q9) fun v s10 ⟨y, H10, I10, r10, hD10, q10⟩ => ?_
        refine thn (mt_append _ s10 σ8 H10 (.ref _) [y] (.ref _) [v] (fun _ H' => Nx (ys ++ [y]) H') I10 rfl (.cons r10 .nil) ⟨_, ys, y, rfl, rfl, hD10, hz, q10⟩) fun _ s11 ⟨_, H11, I11, _, q11⟩ => ?_
        exact again I11 q11
      | false =>
        simp only [Bool.false_eq_true, if_false] at q9 ⊢
        exact again I9 q9
  exact codeAny_compStart_list (loop _ rfl) (T.self _ 0 _ _ _ st4 (loop _ rfl))

/-- the forms one uses: over a range, over a list that stays; Pv between two turns -/
theorem lc_range {lo : Int} {n : Nat} {g : TG} {tt : TT} {te : TE} {H1 : Hp} {Q : VK} {D : Addr} (Pv : Nat → List V → Hp → Prop) (hn : n ≤ sizeLine) (h0 : Pv 0 [] (upd H1 D (.lst []))) (hD : ∀ i ys H, Pv i ys H → H D = some (.lst ys) ∧ ys.length ≤ i)
    (hs : ∀ i ys H2, i < n → Pv i ys H2 → g (.int (lo + i)) (blkSt own ix σ) H2 fun σ2 H4 => σ2.drop own = (ix.map fun i => (σ[i]?).getD none) ∧ tt σ2 H4 fun b H5 => if b = true then te σ2 H5 fun v H6 => H6 D = some (.lst ys) ∧ Pv (i + 1) (ys ++ [v]) (upd H6 D (.lst (ys ++ [v]))) else Pv (i + 1) ys H5)
    (hd : ∀ ys H2, Pv n ys H2 → Q (.ref D) H2) :
    LcW (Itr lo n) own ix σ g tt te D H1 Q := by
  refine ⟨fun i m ys H => m = n - i ∧ i ≤ n ∧ Pv i ys H, ⟨n, by simp, Nat.zero_le _, h0⟩, ?_⟩
  rintro i m ys H2 ⟨rfl, hi, p⟩
  obtain ⟨q1, q2⟩ := hD i ys H2 p
  refine ⟨q1, ?_⟩
  by_cases hlt : i < n
  · refine .inr ⟨hlt, by omega, Pv (i + 1), fun ys' H' p' => ⟨n - (i + 1), by omega, rfl, hlt, p'⟩, fun x H3 y => ?_⟩
    obtain ⟨e1, e2⟩ := y
    subst e1 e2
    exact hs i ys _ hlt p
  · have e : i = n := by omega
    subst e
    exact .inl ⟨Nat.le_refl _, hd ys H2 p⟩
theorem lc_list {K : PySem.W.Frag} {a : Addr} {xs : List V} {g : TG} {tt : TT} {te : TE} {H1 : Hp} {Q : VK} {D : Addr} (Pv : Nat → List V → Hp → Prop) (hn : xs.length ≤ sizeLine) (h0 : Pv 0 [] (upd H1 D (.lst []))) (hD : ∀ i ys H, i ≤ xs.length → Pv i ys H → H D = some (.lst ys) ∧ ys.length ≤ i ∧ SqL K H a xs)
    (hs : ∀ i x ys H2, xs[i]? = some x → Pv i ys H2 → g x (blkSt own ix σ) H2 fun σ2 H4 => σ2.drop own = (ix.map fun i => (σ[i]?).getD none) ∧ tt σ2 H4 fun b H5 => if b = true then te σ2 H5 fun v H6 => H6 D = some (.lst ys) ∧ Pv (i + 1) (ys ++ [v]) (upd H6 D (.lst (ys ++ [v]))) else Pv (i + 1) ys H5)
    (hd : ∀ ys H2, Pv xs.length ys H2 → Q (.ref D) H2) :
    LcW (Itl K a) own ix σ g tt te D H1 Q := by
  refine ⟨fun i m ys H => m = xs.length - i ∧ i ≤ xs.length ∧ Pv i ys H, ⟨xs.length, by simp, Nat.zero_le _, h0⟩, ?_⟩
  rintro i m ys H2 ⟨rfl, hi, p⟩
  obtain ⟨q1, q2, q3⟩ := hD i ys H2 hi p
  refine ⟨q1, ?_⟩
  by_cases hlt : i < xs.length
  · refine .inr ⟨⟨xs, xs[i], q3, by simp [hlt]⟩, by omega, Pv (i + 1), fun ys' H' p' => ⟨xs.length - (i + 1), by omega, rfl, hlt, p'⟩, fun x H3 y => ?_⟩
    obtain ⟨e1, e2⟩ := y
    subst e1
    exact hs i x ys _ (e2 xs q3) p
  · have e : i = xs.length := by omega
    subst e
    exact .inl ⟨⟨xs, q3, Nat.le_refl _⟩, hd ys H2 p⟩

theorem lc_tup {K : PySem.W.Frag} {a : Addr} {xs : List V} {g : TG} {tt : TT} {te : TE} {H1 : Hp} {Q : VK} {D : Addr} (Pv : Nat → List V → Hp → Prop) (hn : xs.length ≤ sizeLine) (h0 : Pv 0 [] (upd H1 D (.lst []))) (hD : ∀ i ys H, i ≤ xs.length → Pv i ys H → H D = some (.lst ys) ∧ ys.length ≤ i ∧ SqT K H a xs)
    (hs : ∀ i x ys H2, xs[i]? = some x → Pv i ys H2 → g x (blkSt own ix σ) H2 fun σ2 H4 => σ2.drop own = (ix.map fun i => (σ[i]?).getD none) ∧ tt σ2 H4 fun b H5 => if b = true then te σ2 H5 fun v H6 => H6 D = some (.lst ys) ∧ Pv (i + 1) (ys ++ [v]) (upd H6 D (.lst (ys ++ [v]))) else Pv (i + 1) ys H5)
    (hd : ∀ ys H2, Pv xs.length ys H2 → Q (.ref D) H2) :
    LcW (Itt K a) own ix σ g tt te D H1 Q := by
  refine ⟨fun i m ys H => m = xs.length - i ∧ i ≤ xs.length ∧ Pv i ys H, ⟨xs.length, by simp, Nat.zero_le _, h0⟩, ?_⟩
  rintro i m ys H2 ⟨rfl, hi, p⟩
  obtain ⟨q1, q2, q3⟩ := hD i ys H2 hi p
  refine ⟨q1, ?_⟩
  by_cases hlt : i < xs.length
  · refine .inr ⟨⟨xs, xs[i], q3, by simp [hlt]⟩, by omega, Pv (i + 1), fun ys' H' p' => ⟨xs.length - (i + 1), by omega, rfl, hlt, p'⟩, fun x H3 y => ?_⟩
    obtain ⟨e1, e2⟩ := y
    subst e1
    exact hs i x ys _ (e2 xs q3) p
  · have e : i = xs.length := by omega
    subst e
    exact .inl ⟨⟨xs, q3, Nat.le_refl _⟩, hd ys H2 p⟩

/-- [elt for tg in iter if ..] -/
theorem pe_lc {elt tg iter : Expr} {ifs : List Expr} {pos : Pos} {wi : TI} {g : TG} {tt : TT} {te : TE} (own : Nat) (N : List Str) (ix : List Nat) (B : BlkOk X own N ix scope) (hi : PI X tg iter wi)
    (hin : ∀ (C : Addr) (fp : List Addr) (s : Shared) (H : Hp), PG (X.blk N scope C fp s H) tg g ∧ PIf (X.blk N scope C fp s H) ifs tt ∧ PE (X.blk N scope C fp s H) elt te)
    (hs : ∀ x, foldedSetIterable iter X.env x = pure x := by intro _; rfl) : PE X (.ListComp elt [⟨tg, iter, ifs, 0⟩] scope pos) (tLc own ix wi g tt te) := by
  intro pins s σ H Q I h
  have hnames : ∀ y ∈ scope.names, y.2 = NameKind.local → scope.names.lookup y.1 = some .local := fun y hy e => by
    have := List.all_eq_true.mp B.loc y hy
    rw [e] at this
    simpa using this
  rw [eval_ListComp]
  refine wpAny_comprehension_free (use := none) rfl hs (closureFor_go fun y hy e => (B.has I y hy e).2) B.kind hnames (thn (hi pins s σ H _ I h) fun v s1 h1 => thn h1 fun itv s2 h2 => ?_)
  obtain ⟨it, fp, tn, J, H2, e, I2, T, st2, f2, rd⟩ := h2
  subst e
  refine blk_run (Q := Q) (RR := fun acc C => compPost (model X.prog X.w) X.A X.xe none (EP X pins σ Q) acc C) B (fun C s H => hin C fp s H) I2 T st2 f2 rd ?_
  intro D C H' s' m I' hn hC hL hsz hce hpi q
  exact ⟨m, hn, fun h' sb => ⟨.ref D, H', I'.turned (t' := s'.toks) (fun b o hb e => (sb.2 b hb).trans e) hC hL (.inr hsz) hce hpi, rfl, q⟩⟩
/-- x = [elt for tg in iter if ..], the store within -/
theorem ps_setLC {i : Nat} {x : Str} {elt tg iter : Expr} {ifs : List Expr} {pos pos' spos : Pos} {wi : TI} {g : TG} {tt : TT} {te : TE} (hN : X.N.Nodup) (hxi : X.N[i]? = some x) (hx : Loc X.env.scope x) (own : Nat) (N : List Str) (ix : List Nat) (B : BlkOk X own N ix scope) (hi : PI X tg iter wi)
    (hin : ∀ (C : Addr) (fp : List Addr) (s : Shared) (H : Hp), PG (X.blk N scope C fp s H) tg g ∧ PIf (X.blk N scope C fp s H) ifs tt ∧ PE (X.blk N scope C fp s H) elt te)
    (hsw : swapsWith (.ListComp elt [⟨tg, iter, ifs, 0⟩] scope pos) (some (.Name x pos')) spos.line X.env = pure true := by rfl) (hs : ∀ x, foldedSetIterable iter X.env x = pure x := by intro _; rfl)
    (hfn : X.fn x = true ∨ X.env.scope.names.lookup x = some .local := by first | exact .inl rfl | exact .inr rfl) : PS X (.Assign [.Name x pos'] (.ListComp elt [⟨tg, iter, ifs, 0⟩] scope pos) spos) (tAsg (tLc own ix wi g tt te) (gName i)) := by
  intro pins s σ H D0 I h
  have hnames : ∀ y ∈ scope.names, y.2 = NameKind.local → scope.names.lookup y.1 = some .local := fun y hy e => by
    have := List.all_eq_true.mp B.loc y hy
    rw [e] at this
    simpa using this
  rw [exec_Assign_Name_used _ _ _ _ hsw]
  refine wpAny_bind (wpAny_standAt (wpAny_bind ?_))
  show wpAny _ X.A (do let _ ← comprehension (.ListComp elt [⟨tg, iter, ifs, 0⟩] scope pos) scope X.env _ (newList []) false (eval iter X.env) (some (assign (.Name x pos') X.env))) _ _ s
  refine wpAny_bind (thn (wpAny_comprehension_free (use := some (assign (.Name x pos') X.env)) (Q := fun _ s' => SP X pins D0 .next s') rfl hs (closureFor_go fun y hy e => (B.has I y hy e).2) B.kind hnames (thn (hi pins s σ H _ I h) fun v s1 h1 => thn h1 fun itv s2 h2 => ?_)) fun _ s' hq => wpAny_pure (wpAny_pure hq))
  obtain ⟨it, fp, tn, J, H2, e, I2, T, st2, f2, rd⟩ := h2
  subst e
  refine blk_run (Q := fun v H' => gName i v σ H' D0.nx) (RR := fun acc C => compPost (model X.prog X.w) X.A X.xe (some (assign (.Name x pos') X.env)) (fun _ s' => SP X pins D0 .next s') acc C) B (fun C s H => hin C fp s H) I2 T st2 f2 rd ?_
  intro D C H' s' m I' hn hC hL hsz hce hpi q
  show wpAny _ X.A (assign (.Name x pos') X.env (.ref D)) _ _ s'
  refine wpAny_assign_Name (store_ok2 I' hN hxi hx (v := .ref D) rfl (fun s'' I'' ⟨a, sb, ha⟩ => ?_) hfn)
  refine ⟨m, hn.sameBut sb ?_, fun h' sb' => ⟨_, H', I''.turned (t' := s''.toks) (fun b o hb e => (sb'.2 b hb).trans e) hC hL (.inr hsz) hce hpi, q⟩⟩
  rcases ha with e | e
  · rw [e]; exact hL
  · exact Ne.symm (hce x a e)
end
end L2

/-! ### own additions to the layer, 3: all, max of a list; a list walked from its end -/
namespace L2
open PySem PySem.Spec PyProof.Rows
theorem range_all (bs : List Bool) : (List.range bs.length).all (fun i => (bs[i]?).getD true) = bs.all id := by
  rw [Bool.eq_iff_iff, List.all_eq_true, List.all_eq_true]
  constructor
  · intro h b hb
    obtain ⟨i, hi, e⟩ := List.mem_iff_getElem.mp hb
    have z := h i (List.mem_range.mpr hi)
    rw [List.getElem?_eq_getElem hi, e] at z
    exact z
  · intro h i hi
    have hi' := List.mem_range.mp hi
    rw [List.getElem?_eq_getElem hi']
    exact h _ (List.getElem_mem hi')
section
variable {X : Cx}
/-- all([..]) of truths -/
def rAll (K : PySem.W.Frag) : List V → Hp → VK → Prop := fun xs H Q => ∃ (p : Addr) (bs : List Bool), xs = [.ref p] ∧ SqL K H p (bs.map V.bl) ∧ Q (.bl (bs.all id)) H
theorem call_all (hc : X.calm = true) : CallR X (.builtin "all") (rAll X.K) := by
  intro pins s σ H xs us Q I r h
  obtain ⟨p, bs, rfl, hS, q⟩ := h
  obtain ⟨u, rfl, ru⟩ := vals1 r
  cases ru
  obtain ⟨its, rv, pl, hz⟩ := I.list hS
  have hlen : its.toArray.size = bs.length := by
    have := rv.length
    simp at this
    simp [this]
  have hlt : p < s.heap.objs.size := by obtain ⟨o, n, e, _⟩ := pl; exact Heap.lt_size e
  refine call_all_walk (wpAny_pyIter_list pl.isList ?_)
  refine ⟨s.heap.objs.size, _, _, its.toArray.size, _, _, fun i => (bs[i]?).getD true, rfl, Walks.list (show X.A.in1.handled = none from I.ok.hd hc) _ _ (Nat.ne_of_lt hlt) its.toArray, ⟨⟨_, Heap.get?_push_size _ rfl, rfl, rfl⟩, pl.isList.push _⟩, ?_, fun h' tk k => ?_⟩
  · intro i v s' Q' E' hv hq
    have hi : i < bs.length := by
      rw [← hlen]
      exact (Array.getElem?_eq_some_iff.mp hv).1
    obtain ⟨u', hu', ru'⟩ := rv.get (i := i) (x := .bl bs[i]) (by rw [List.getElem?_map, List.getElem?_eq_getElem hi]; rfl)
    have e : its[i]? = some v := by simpa using hv
    rw [hu'] at e
    cases e
    cases ru'
    have hq' : Q' ((bs[i]?).getD true) s' := hq
    rw [List.getElem?_eq_getElem hi] at hq'
    exact wpAny_truthy_bool hq'
  · rw [hlen, range_all]
    exact ⟨.bl _, H, I.kept (t' := tk) fun b o e => k b o (by simpa using Nat.ne_of_lt (Heap.lt_size e)) (Heap.get?_push_of_some _ e), rfl, q⟩
/-- xs + ys of lists, known or not: a new list -/
def rCatS (K : PySem.W.Frag) : R2 := fun x y H Q => ∃ l b xs zs, x = .ref l ∧ y = .ref b ∧ SqL K H l xs ∧ SqL K H b zs ∧ xs.length + zs.length ≤ sizeLine ∧ ∀ p, H p = none → Q (.ref p) (upd H p (.lst (xs ++ zs)))
theorem op_catS : OpR X (binaryOp .Add) (rCatS X.K) := by
  intro pins s σ H x y v u Q I rx ry h
  obtain ⟨l, b, xs, zs, rfl, rfl, hH, hB, hz, q⟩ := h
  cases rx
  cases ry
  obtain ⟨its, r, ⟨⟨c1, d1, a1, sl1⟩, n, e, rfl, rfl, rfl⟩, z⟩ := I.list hH
  obtain ⟨its2, r2, ⟨⟨c2, d2, a2, sl2⟩, n2, e2, rfl, rfl, rfl⟩, z2⟩ := I.list hB
  have hl := r.length
  have hl2 := r2.length
  refine concat_meets ⟨_, e, rfl⟩ ⟨_, e2, rfl⟩ noFill_list_add seq_list_add PySem.F.slot_list_add PySem.F.entry_list_add (PySem.F.args_list_add_2 _ _)
    (list_addW l b its.toArray its2.toArray n n2 none none sl1 sl2 (by rw [List.size_toArray, List.size_toArray]; omega)) ⟨e, e2, ?_⟩
  rw [show its.toArray ++ its2.toArray = (its ++ its2).toArray by simp]
  exact ⟨.ref _, _, I.lnew (t' := s.toks) (r.append r2) (by rw [List.length_append]; omega), rfl, q _ I.fresh⟩
/-- max([..]) of ints -/
def rMaxL (K : PySem.W.Frag) : List V → Hp → VK → Prop := fun xs H Q => ∃ (p : Addr) (ns : List Int), xs = [.ref p] ∧ SqL K H p (ns.map V.int) ∧ 0 < ns.length ∧ ∀ m : Int, m ∈ ns → (∀ a ∈ ns, a ≤ m) → Q (.int m) H
theorem call_maxL (hc : X.calm = true) : CallR X (.builtin "max") (rMaxL X.K) := by
  intro pins s σ H xs us Q I r h
  obtain ⟨p, ns, rfl, hS, hne, q⟩ := h
  obtain ⟨u, rfl, ru⟩ := vals1 r
  cases ru
  obtain ⟨its, rv, pl, hz⟩ := I.list hS
  have hi : IntsAre its ns := intsAre_of rv
  obtain ⟨zs, e⟩ := hi.allInts.items
  have hns : ns = zs.toList.map (·.1) := by rw [← hi.numsOf, ← nums_intItems, ← e]
  have hz' : zs.size = ns.length := by rw [hns]; simp
  have hl := pl.isList
  rw [e] at hl
  refine max_intList (I.ok.hd hc) hl (by omega) fun v h' tk hv hk => ?_
  obtain ⟨t, rfl⟩ := intItems_at hv
  have ab := argBest_gt (numAt zs) (zs.size - 1)
  refine ⟨.int _, H, I.kept hk, ⟨t, rfl⟩, q _ ?_ fun a ha => ?_⟩
  · rw [hns, numAt_eq]
    exact getD_mem (Nat.lt_of_le_of_lt ab.1 (by rw [List.length_map, Array.length_toList, hz']; omega))
  · rw [hns] at ha
    obtain ⟨j, hj, rfl⟩ := mem_getD ha
    rw [← numAt_eq]
    exact ab.2 j (by simp at hj; omega)
end
/-- the list at a, from its end; it stays -/
def Itv (K : PySem.W.Frag) (a : Addr) (xs : List V) : It :=
  ⟨fun i H => i < xs.length ∧ SqL K H a xs, fun i H x H' => H' = H ∧ xs[xs.length - 1 - i]? = some x, fun i _ => i = xs.length⟩
theorem turn_rev {P : Program} {w : World} {K : PySem.W.Frag} {tg : Expr} (a it : Addr) (xs : List V) : Turn P w K tg (Itv K a xs) [it] it (fun i h => i ≤ xs.length ∧ h.IsRevIter it a ((xs.length : Int) - 1 - (i : Int))) where
  mem := by simp
  obj := fun i h st b hb => by
    have e : b = it := by simpa using hb
    subst e
    obtain ⟨_, o, e, c, d⟩ := st
    exact ⟨o, e, fun v z => by rw [d] at z; cases z⟩
  keep := fun i h h' st k => ⟨st.1, st.2.at fun o e => k it (by simp) o e⟩
  item := by
    intro X hP hw hK hc i pins s σ H E I hf st hg
    subst hP hw hK
    obtain ⟨hi, hq⟩ := hg
    obtain ⟨its, rv, p, hz⟩ := I.list hq
    have hx : xs[xs.length - 1 - i]? = some (xs[xs.length - 1 - i]'(by omega)) := List.getElem?_eq_getElem (by omega)
    obtain ⟨u, hu, ru⟩ := rv.get hx
    obtain ⟨f0, f1, f2, f3, f4, f5⟩ := hf it (by simp)
    have e : (xs.length : Int) - 1 - (i : Int) = ((xs.length - 1 - i : Nat) : Int) := by omega
    have st2 := st.2
    rw [e] at st2
    refine wpAny_pyNext_rev_item st2 p.isList (x := u) (by simpa using hu) fun h' st' sb => ?_
    have I1 : Inv X pins σ H { s with heap := h' } := I.turned (t' := s.toks) (fun b o hb e => (sb.2 b hb).trans e) f0 f1 f3 f4 f5
    obtain ⟨o, e1, c, d⟩ := id st'
    have e2 : ((xs.length - 1 - i : Nat) : Int) - 1 = (xs.length : Int) - 1 - ((i + 1 : Nat) : Int) := by omega
    rw [e2] at st'
    exact ⟨u, rfl, go_of (s := { s with heap := h' }) e1 c d (by decide) ⟨_, H, I1, ru, ⟨rfl, hx⟩, ⟨hi, st'⟩, fun b hb => (hf b hb).1⟩⟩
  done := by
    intro X hP hw hK hc i pins s σ H E I hf st hg
    subst hP hw hK
    have hi : i = xs.length := hg
    obtain ⟨f0, f1, f2, f3, f4, f5⟩ := hf it (by simp)
    have e : (xs.length : Int) - 1 - (i : Int) = -1 := by omega
    have st2 := st.2
    rw [e] at st2
    exact wpAny_pyNext_rev_end (I.ok.hd hc) st2 fun h' eb => ⟨rfl, I.turned (t' := s.toks) (fun b o hb e => eb b o hb e) f0 f1 f3 f4 f5⟩
  self := fun _ _ _ _ _ st h => wpAny_pyIter_revIter st.2 h
section
variable {X : Cx} {tg : Expr}
/-- reversed(xs) -/
def iRev (K : PySem.W.Frag) (ta : TA) : TI := fun σ H R => ta σ H fun vs H1 => ∃ a xs, vs = [.ref a] ∧ SqL K H1 a xs ∧ R (Itv K a xs) H1
theorem pi_rev {a : Expr} {ta : TA} {p pos : Pos} (hg : Gl X "reversed") (hm : X.mg "reversed" = none) (ha : PA X [a] ta) (hs : starEach [a] X.env = [(false, eval a X.env)] := by rfl) : PI X tg (.Call (.Name "reversed" p) [a] [] pos) (iRev X.K ta) := by
  intro pins s σ H R I h
  refine Call_ (ld_blt I hg hm bt_reversed (PyProof.Rows.callWith_type1 (thn (ha pos pins s σ H _ I h) fun us s1 ⟨vs, H1, I1, r1, q1⟩ => ?_) hs rfl))
  obtain ⟨b, xs, rfl, hq, q⟩ := q1
  obtain ⟨u, rfl, ru⟩ := vals1 r1
  cases ru
  obtain ⟨its, rv, pl, hz⟩ := I1.list hq
  refine call_reversed_list pl.isList ?_
  have hit : (s1.heap.push (revObj b ((its.toArray.size : Int) - 1))).IsRevIter s1.heap.objs.size b ((its.toArray.size : Int) - 1) := ⟨_, Heap.get?_push_size _ rfl, rfl, rfl⟩
  refine wpAny_pyIter_revIter hit ?_
  have hl : its.toArray.size = xs.length := by have := rv.length; simp [this]
  refine ⟨s1.heap.objs.size, [s1.heap.objs.size], _, _, H1, rfl, I1.kept (t' := s1.toks) fun b o e => Heap.get?_push_of_some _ e, turn_rev b _ xs, ⟨Nat.zero_le _, ?_⟩, fun c hb => ?_, q⟩
  · have e : (xs.length : Int) - 1 - ((0 : Nat) : Int) = (its.toArray.size : Int) - 1 := by omega
    rw [e]
    exact hit
  · have e : c = s1.heap.objs.size := by simpa using hb
    subst e
    exact I1.fpOk (Nat.le_refl _) (I1.hok.fresh (Nat.le_refl _))
end
theorem for_rev {K : PySem.W.Frag} {a : Addr} {xs : List V} {g : TG} {tb : TS} {D : Ends} {σ : St} {H : Hp} (Pv : Nat → St → Hp → Prop) (h0 : Pv 0 σ H) (hl : ∀ i σ H, i ≤ xs.length → Pv i σ H → SqL K H a xs)
    (hs : ∀ i x σ H, xs.reverse[i]? = some x → Pv i σ H → g x σ H fun σ2 H2 => tb { D with nx := Pv (i + 1), ct := Pv (i + 1), bk := D.nx } σ2 H2) (hd : ∀ σ H, Pv xs.length σ H → D.nx σ H) :
    ∃ W : Nat → Nat → St → Hp → Prop, (∃ m, W 0 m σ H) ∧ ∀ i m σ H, W i m σ H →
      ((Itv K a xs).stop i H ∧ D.nx σ H) ∨ ((Itv K a xs).go i H ∧ ∃ N : St → Hp → Prop, (∀ σ' H', N σ' H' → ∃ m', m' < m ∧ W (i + 1) m' σ' H') ∧ ∀ x H', (Itv K a xs).yld i H x H' → g x σ H' fun σ2 H2 => tb { D with nx := N, ct := N, bk := D.nx } σ2 H2) := by
  refine ⟨fun i m σ H => m = xs.length - i ∧ i ≤ xs.length ∧ Pv i σ H, ⟨xs.length, by simp, Nat.zero_le _, h0⟩, ?_⟩
  rintro i m σ H ⟨rfl, hi, p⟩
  by_cases hlt : i < xs.length
  · refine .inr ⟨⟨hlt, hl i σ H hi p⟩, Pv (i + 1), fun σ' H' p' => ⟨xs.length - (i + 1), by omega, rfl, hlt, p'⟩, fun x H' y => ?_⟩
    obtain ⟨e, y⟩ := y
    subst e
    exact hs i x σ _ (by rw [List.getElem?_reverse hlt]; exact y) p
  · have e : i = xs.length := by omega
    subst e
    exact .inl ⟨rfl, hd σ H p⟩
end L2

/-! ### own additions to the layer, 4: list(reversed(xs)) -/
namespace L2
open PySem PySem.Spec PyProof.Rows
theorem F4.nolen_lri : typeLookup (.type "list_reverseiterator") "__len__" = pure none := by rw [typeLookup_type, builtinLookup_eq_fast]; kernel_rfl
theorem F4.hint_lri : typeLookup (.type "list_reverseiterator") "__length_hint__" = pure (some (.builtin "list_reverseiterator.__length_hint__")) := by rw [typeLookup_type, builtinLookup_eq_fast]; kernel_rfl
theorem walks_rev {prog : Program} {w : World} {A : Around} (hh : A.handled = none) (I a : Addr) (hne : a ≠ I) (items : Array Value) :
    Walks prog w A I [I, a] [I] items.size (fun i v => items[items.size - 1 - i]? = some v) (fun i h => h.IsRevIter I a ((items.size : Int) - 1 - (i : Int)) ∧ h.IsList a items) where
  sub := fun b hb => by simp at hb; simp [hb]
  frame := fun _ _ _ st hk => ⟨st.1.at fun o e => hk I (by simp) o e, st.2.at fun o e => hk a (by simp) o e⟩
  item := fun i s Q E hi st hQ => by
    have e : (items.size : Int) - 1 - (i : Int) = ((items.size - 1 - i : Nat) : Int) := by omega
    have st1 := st.1
    rw [e] at st1
    have hx : items[items.size - 1 - i]? = some (items[items.size - 1 - i]'(by omega)) := Array.getElem?_eq_getElem (by omega)
    refine wpAny_pyNext_rev_item st1 st.2 hx fun h' hit' hs' => ?_
    have e2 : ((items.size - 1 - i : Nat) : Int) - 1 = (items.size : Int) - 1 - ((i + 1 : Nat) : Int) := by omega
    rw [e2] at hit'
    exact hQ _ h' s.toks hx ⟨hit', st.2.extBut hs'.extBut hne⟩ fun b o hb e => hs'.extBut b o (fun h => hb (by simp [h])) e
  done := fun s Q E st hQ => by
    have e : (items.size : Int) - 1 - ((items.size : Nat) : Int) = -1 := by omega
    have st1 := st.1
    rw [e] at st1
    exact wpAny_pyNext_rev_end hh st1 fun h' he' => hQ h' s.toks fun b o hb e => he' b o (fun h => hb (by simp [h])) e
  self := fun _ _ _ _ st hQ => wpAny_pyIter_revIter st.1 hQ
section
variable {prog : Program} {w : World} {A : Around} {E : Value → Shared → Prop} {s : Shared}
variable {I : Addr} {fp wr : List Addr} {G : Array GenState → Array GenState → Prop} {n : Nat} {P : Nat → Value → Prop} {St : Nat → Shared → Prop}
theorem call_list_lri {Q : Value → Shared → Prop} (W : WalksS prog w A.in1.in1 I fp wr G n P St) (hT : ∀ i s, St i s → s.TypeIs (.ref I) "list_reverseiterator") (hst : St 0 s) (hfp : ∀ b ∈ fp, b < s.heap.objs.size) (hI : I ∈ fp)
    (hQ : ∀ s' acc' c', Moved (s.heap.objs.size :: wr) G { s with heap := s.heap.push { cls := .type "list", data := .seq #[] } } s' →
      s'.heap.get? s.heap.objs.size = some { cls := .type "list", dict := none, data := .seq acc' c', slots := #[] } → ItemsOf P acc' n → Q (.ref s.heap.objs.size) s') (hn : n ≤ sizeLine) :
    wpAny (model prog w) A (call (.type "list") [.ref I]) Q E s := by
  have hSf : s.heap.objs.size ∉ fp := fun hm => Nat.lt_irrefl _ (hfp _ hm)
  have hSI : s.heap.objs.size ≠ I := fun e => hSf (e ▸ hI)
  refine callType_codes (Q₁ := fun obj s₁ => obj = .ref s.heap.objs.size ∧ s₁ = { s with heap := s.heap.push { cls := .type "list", data := .seq #[] } }) F.called_list (F.typeCall_list_1 _) F.entry_list_init
    (code_list_new _ ⟨rfl, rfl⟩) fun obj s₁ h₁ => ?_
  obtain ⟨rfl, rfl⟩ := h₁
  have hS : (s.heap.push { cls := .type "list", data := .seq #[] }).get? s.heap.objs.size = some { cls := .type "list", data := .seq #[] } := Heap.get?_push_size _ rfl
  have hst1 := W.frame 0 s (s.heap.push { cls := .type "list", data := .seq #[] }) s.toks hst (Nat.le_refl _) fun b _ o e => Heap.get?_push_of_some _ e
  refine ⟨⟨_, hS, rfl⟩, F.args_list_init_2 _ _, ?_⟩
  generalize s.heap.push { cls := .type "list", data := .seq #[] } = h1 at hS hst1 hQ ⊢
  generalize s.heap.objs.size = S at hS hSf hSI hQ ⊢
  show wpAny _ _ (do let old ← Builtin.List.listItems (.ref S); Builtin.List.listUpdate (.ref S) (fun _ => #[]); letGo old.toList.reverse; Builtin.List.listExtendWith (.ref S) (.ref I) .none) _ _ _
  refine wpAny_bind ?_
  unfold Builtin.List.listItems
  refine wpAny_bind (wpAny_seqItems hS rfl (wpAny_pure ?_))
  show wpAny _ _ (updateSeq S (fun _ => #[]) >>= fun _ => letGo (#[] : Array Value).toList.reverse >>= fun _ => Builtin.List.listExtendWith (.ref S) (.ref I) .none) _ _ _
  refine wpAny_bind (wpAny_updateSeq hS rfl ?_)
  have hS2 := Heap.get?_update_self (Obj.mapSeq (fun _ => (#[] : Array Value))) hS rfl
  have oth : ∀ b o, b ≠ S → h1.get? b = some o → (h1.update S (Obj.mapSeq (fun _ => (#[] : Array Value)))).get? b = some o :=
    fun b o hb e => (Heap.get?_update_other _ _ (Ne.symm hb)).trans e
  have hst2 := W.frame 0 _ (h1.update S (Obj.mapSeq (fun _ => (#[] : Array Value)))) s.toks hst1 (Nat.le_refl _) fun b hb o e => oth b o (fun z => hSf (z ▸ hb)) e
  refine wpAny_bind (wpAny_letGo ?_)
  have hd : Builtin.List.listSameRef (.ref S) (.ref I) = false := by simp [Builtin.List.listSameRef, hSI]
  unfold Builtin.List.listExtendWith
  refine wpAny_bind (wpAny_typeOf (hT 0 _ hst2) ?_)
  rw [if_neg (by rw [hd]; decide)]
  refine wpAny_bind (W.self 0 _ _ _ hst2 ?_)
  refine wpAny_bind (wpAny_holding ?_)
  unfold Builtin.List.listLengthHint
  refine wpAny_bind (wpAny_specialOf (hT 0 _ hst2) F4.nolen_lri ?_)
  show wpAny _ _ (specialOf (Value.ref I) (Str.ofString "__length_hint__") >>= _) _ _ _
  refine wpAny_bind (wpAny_specialOf (hT 0 _ hst2) F4.hint_lri ?_)
  (generalize hid : ("list_reverseiterator.__length_hint__" : String) = id0; (fail_if_success (clear hid id0)); wp_delta; rw [show splitId id0 = some ("list_reverseiterator", "__length_hint__") from by subst hid; decide +kernel]; subst hid)
  refine wpAny_bind (wpAny_isInstance (b := true) (hT 0 _ hst2) (by rw [isSubtype_type]; kernel_rfl) ?_)
  refine wpAny_pure ?_
  rw [if_neg (by decide)]
  refine wpAny_pure ⟨plainId_quiet F.plain_extend_loop _, codeAny_extend_loopS W hn _ hSf _ n 0 _ _ _ rfl (Nat.zero_le _) hst2 hS2 (ItemsOf.nil P) fun s' acc' c' hm hS' hacc => ?_⟩
  exact ⟨rfl, hQ s' acc' c' (Moved.trans W.gtrans ((Moved.refl W.grefl).then_heap (Nat.le_refl _) fun b o hb e => oth b o (fun z => hb (z ▸ List.mem_cons_self)) e) hm) hS' hacc⟩
end
section
variable {X : Cx}
/-- list(reversed(xs)): a new list, from the end -/
def tListRev (K : PySem.W.Frag) (ta : TA) : TE := fun σ H Q => ta σ H fun vs H1 => ∃ a xs, vs = [.ref a] ∧ SqL K H1 a xs ∧ ∀ l, H1 l = none → Q (.ref l) (upd H1 l (.lst xs.reverse))
theorem pe_listRev {a : Expr} {ta : TA} {p p2 pos pos2 : Pos} (hgl : Gl X "list") (hml : X.mg "list" = none) (hg : Gl X "reversed") (hm : X.mg "reversed" = none) (ha : PA X [a] ta) (hc : X.calm = true)
    (hs : starEach [a] X.env = [(false, eval a X.env)] := by rfl) (hs2 : starEach [.Call (.Name "reversed" p2) [a] [] pos2] X.env = [(false, eval (.Call (.Name "reversed" p2) [a] [] pos2) X.env)] := by rfl) :
    PE X (.Call (.Name "list" p) [.Call (.Name "reversed" p2) [a] [] pos2] [] pos) (tListRev X.K ta) := by
  intro pins s σ H Q I h
  refine Call_ (ld_blt I hgl hml bt_list (PyProof.Rows.callWith_type1 ?_ hs2 rfl))
  rw [hs2]
  refine Calls.spliced_cons ?_
  refine Call_ (ld_blt I hg hm bt_reversed (PyProof.Rows.callWith_type1 (thn (ha pos2 pins s σ H _ I h) fun us s1 ⟨vs, H1, I1, r1, q1⟩ => ?_) hs rfl))
  obtain ⟨b, xs, rfl, hq, q⟩ := q1
  obtain ⟨u, rfl, ru⟩ := vals1 r1
  cases ru
  obtain ⟨its, rv, pl, hz⟩ := I1.list hq
  have hl : its.toArray.size = xs.length := by have := rv.length; simp [this]
  refine call_reversed_list pl.isList ?_
  have hit : (s1.heap.push (revObj b ((its.toArray.size : Int) - 1))).IsRevIter s1.heap.objs.size b ((its.toArray.size : Int) - 1) := ⟨_, Heap.get?_push_size _ rfl, rfl, rfl⟩
  have hb : b < s1.heap.objs.size := by obtain ⟨o, e, _⟩ := pl.isList; exact Heap.lt_size e
  have hli : (s1.heap.push (revObj b ((its.toArray.size : Int) - 1))).IsList b its.toArray := pl.isList.at fun o e => Heap.get?_push_of_some _ e
  refine Calls.spliced_nil ?_
  refine call_list_lri (walks_rev (A := X.A.in1.in1) (I1.ok.hd hc) s1.heap.objs.size b (Nat.ne_of_lt hb) its.toArray).toS (fun i s st => st.1.typeIs) ⟨by simpa using hit, hli⟩ (fun c hcm => ?_) (by simp) (fun s' acc' c' mv hS' hacc => ?_) (by omega)
  · rw [Heap.size_push]
    simp at hcm
    rcases hcm with z | z
    · rw [z]; exact Nat.lt_succ_self _
    · rw [z]; exact Nat.lt_succ_of_lt hb
  · have hsz : (s1.heap.push (revObj b ((its.toArray.size : Int) - 1))).objs.size = s1.heap.objs.size + 1 := Heap.size_push ..
    have hrev : acc' = its.reverse.toArray := by
      apply Array.ext_getElem?
      intro j
      have hsa := hacc.1
      by_cases hj : j < acc'.size
      · have := hacc.2 j acc'[j] (Array.getElem?_eq_getElem hj)
        rw [Array.getElem?_eq_getElem hj, ← this]
        simp
        rw [List.getElem?_reverse (by simp at hsa; omega)]
      · rw [Array.getElem?_eq_none (by omega), Array.getElem?_eq_none (by simp at hsa ⊢; omega)]
    have kp : ∀ c o, s1.heap.get? c = some o → s'.heap.get? c = some o := fun c o e => by
      have hcl := Heap.lt_size e
      refine mv.heap c o (fun z => ?_) (Heap.get?_push_of_some _ (Heap.get?_push_of_some _ e))
      simp at z
      rcases z with z | z
      · rw [z] at hcl; exact absurd hcl (Nat.not_lt.mpr (Nat.le_succ _))
      · rw [z] at hcl; exact absurd hcl (Nat.lt_irrefl _)
    have es : s' = { s1 with heap := s'.heap, toks := s'.toks } := by
      obtain ⟨h', g', d', t', o'⟩ := s'
      have e1 : g' = s1.gens := mv.gens
      have e2 : d' = s1.drawn := mv.drawn
      have e3 : o' = s1.os := mv.os
      subst e1; subst e2; subst e3
      rfl
    rw [es]
    rw [hsz] at hS' ⊢
    refine ⟨.ref (s1.heap.objs.size + 1), _, I1.laid (t' := s'.toks) kp (Nat.le_succ _) (show ObjOk X.prog X.w _ s'.heap _ (.lst xs.reverse) from ⟨by rw [List.length_reverse]; omega, its.reverse, c', ?_, by rw [hS', hrev]⟩), rfl, q _ (I1.hok.fresh (Nat.le_succ _))⟩
    exact rv.reverse
end
end L2

/-! ### own additions to the layer, 5: what a module's own names hold: tuples and dicts of texts, ints, tuples -/
namespace L2
open PySem PySem.Spec PyProof.Rows
/-- a module's dict with texts as keys, each value read to its end -/
def DiD (K : PySem.W.Frag) (w : World) (d : Addr) (kds : List (Str × PyData)) : Prop :=
  (d == sysModules) = false ∧ ∃ (o : Obj) (vs : List (Str × Value)), K.lookup d = some o ∧ (∀ P : Program, o.IsDictOf (strKind P w) vs) ∧
    Paired (fun a b => a.1 = b.1 ∧ ∃ v, RelV v a.2 ∧ ∀ H : Hp, RdV K H v b.2) vs kds
def getP (kds : List (Str × PyData)) (k : Str) : Option PyData := (kds.find? fun kv => decide (kv.1 = k)).map (·.2)
theorem paired_get {K : PySem.W.Frag} {vs : List (Str × Value)} {kds : List (Str × PyData)} (k : Str) (h : Paired (fun a b => a.1 = b.1 ∧ ∃ v, RelV v a.2 ∧ ∀ H : Hp, RdV K H v b.2) vs kds) :
    (valueAt vs k = none ∧ getP kds k = none) ∨ ∃ u d v, valueAt vs k = some u ∧ getP kds k = some d ∧ RelV v u ∧ ∀ H : Hp, RdV K H v d := by
  induction h with
  | nil => exact .inl ⟨rfl, rfl⟩
  | @cons a b as bs hab t ih =>
    obtain ⟨e, v, h1, h2⟩ := hab
    by_cases q : a.1 = k
    · refine .inr ⟨a.2, b.2, v, ?_, ?_, h1, h2⟩
      · unfold valueAt; rw [List.find?_cons_of_pos (by simpa using q)]; rfl
      · unfold getP; rw [List.find?_cons_of_pos (by simpa [← e] using q)]; rfl
    · have e1 : valueAt (a :: as) k = valueAt as k := by unfold valueAt; rw [List.find?_cons_of_neg (by simpa using q)]
      have e2 : getP (b :: bs) k = getP bs k := by unfold getP; rw [List.find?_cons_of_neg (by simpa [← e] using q)]
      rw [e1, e2]
      exact ih
def entC (w : World) (e : Str × Tok × Value) : DictEntry := { hash := PyData.keyHash w.params e.1, key := .str e.1 e.2.1, val := e.2.2 }
theorem diD_of {K : PySem.W.Frag} {w : World} {d : Addr} {ep : Nat} {ent : List (Str × Tok × Value)} {kds : List (Str × PyData)} (hd : (d == sysModules) = false)
    (lk : K.lookup d = some { cls := .type "dict", data := .dict (ent.map (entC w)).toArray ep }) (nd : (ent.map (·.1)).Nodup)
    (h : Paired (fun (e : Str × Tok × Value) (kd : Str × PyData) => e.1 = kd.1 ∧ ∃ v, RelV v e.2.2 ∧ ∀ H : Hp, RdV K H v kd.2) ent kds) : DiD K w d kds := by
  refine ⟨hd, _, ent.map (fun e => (e.1, e.2.2)), lk, fun P => ⟨_, ep, ⟨rfl, rfl, rfl⟩, rfl, ?_, ?_, ?_⟩, ?_⟩
  · intro e he
    simp at he
    obtain ⟨a, b, c, _, rfl⟩ := he
    exact ⟨a, strKind_is _ _ _ _, rfl⟩
  · show Pairs _ (ent.map (entC w)) _
    clear h nd lk
    induction ent with
    | nil => exact .nil
    | cons e r ih => exact .cons (strKind_is _ _ _ _) rfl ih
  · rw [List.map_map]
    exact nd
  · clear lk nd
    induction h with
    | nil => exact .nil
    | cons a t ih => exact .cons a ih
/-- a tuple of the module, read to its end -/
theorem rdK_tup {K : PySem.W.Frag} {r : Addr} {its : List Value} {ds : List PyData} (lk : K.lookup r = some { cls := .type "tuple", data := .seq its.toArray 0 }) (hz : its.length ≤ sizeLine)
    (h : Paired (fun u d => ∃ v, RelV v u ∧ ∀ H : Hp, RdV K H v d) its ds) : ∃ v, RelV v (.ref r) ∧ ∀ H : Hp, RdV K H v (.tuple ds) := by
  have key : ∃ xs : List V, Vals xs its ∧ ∀ H : Hp, RdAll K H xs ds := by
    clear lk hz
    induction h with
    | nil => exact ⟨[], .nil, fun H => RdAll.nil⟩
    | cons a t ih =>
      obtain ⟨v, h1, h2⟩ := a
      obtain ⟨xs, g1, g2⟩ := ih
      exact ⟨v :: xs, .cons h1 g1, fun H => RdAll.cons (h2 H) (g2 H)⟩
  obtain ⟨xs, h1, h2⟩ := key
  exact ⟨.ref r, rfl, fun H => .tup' (.inr ⟨_, its.toArray, 0, lk, rfl, rfl, by simpa using hz, h1⟩) (h2 H)⟩
theorem rdK_ref {K : PySem.W.Frag} {r : Addr} {d : PyData} (h : ∃ v, RelV v (.ref r) ∧ ∀ H : Hp, RdV K H v d) : ∀ H : Hp, RdV K H (.ref r) d := by
  obtain ⟨v, h1, h2⟩ := h
  intro H
  cases v <;> simp [RelV] at h1
  subst h1
  exact h2 H
theorem rdK_str {K : PySem.W.Frag} {x : Str} {t : Tok} : ∃ v, RelV v (.str x t) ∧ ∀ H : Hp, RdV K H v (.str x) := ⟨.str x, ⟨t, rfl⟩, fun _ => .str x⟩
theorem rdK_int {K : PySem.W.Frag} {i : Int} {t : Tok} : ∃ v, RelV v (.int i t) ∧ ∀ H : Hp, RdV K H v (.int i) := ⟨.int i, ⟨t, rfl⟩, fun _ => .int i⟩
section
variable {X : Cx}
theorem DiD.at {K : PySem.W.Frag} {pins : List (Addr × Obj)} {σ : St} {H : Hp} {s : Shared} {w : World} {d : Addr} {kds : List (Str × PyData)} (hK : X.K = K) (I : Inv X pins σ H s) (h : DiD K w d kds) :
    (d == sysModules) = false ∧ ∃ vs, (∀ P, s.heap.DictOf (strKind P w) d vs) ∧ Paired (fun a b => a.1 = b.1 ∧ ∃ v, RelV v a.2 ∧ ∀ H : Hp, RdV K H v b.2) vs kds := by
  obtain ⟨h0, o, vs, lk, hd, hp⟩ := h
  subst hK
  exact ⟨h0, vs, fun P => Heap.dictOf_iff.mpr ⟨o, I.kIn d o lk, hd P⟩, hp⟩
/-- k in d, of a module's dict -/
def rInK (K : PySem.W.Frag) (w : World) (neg : Bool) : R2 := fun x y H Q => ∃ d kds k, y = .ref d ∧ x = .str k ∧ DiD K w d kds ∧ Q (.bl (if neg then !(getP kds k).isSome else (getP kds k).isSome)) H
theorem op_inK : OpR X (compareOp .In) (rInK X.K X.w false) := by
  intro pins s σ H x y v u Q I rx ry h
  obtain ⟨d, kds, k, rfl, rfl, hd, q⟩ := h
  cases ry
  obtain ⟨t, rfl⟩ := rx
  obtain ⟨h0, vs, hm, hp⟩ := hd.at rfl I
  refine wpAny_in_of (strKind_is X.prog X.w k t) h0 (hm X.prog).mapOf ⟨.bl _, H, I.tok _, rfl, ?_⟩
  have e : (valueAt vs k).isSome = (getP kds k).isSome := by
    rcases paired_get k hp with ⟨a, b⟩ | ⟨_, _, _, a, b, _⟩ <;> rw [a, b] <;> rfl
  rw [e]
  exact q
theorem op_notInK : OpR X (compareOp .NotIn) (rInK X.K X.w true) := by
  intro pins s σ H x y v u Q I rx ry h
  obtain ⟨d, kds, k, rfl, rfl, hd, q⟩ := h
  cases ry
  obtain ⟨t, rfl⟩ := rx
  obtain ⟨h0, vs, hm, hp⟩ := hd.at rfl I
  refine wpAny_notIn_of (strKind_is X.prog X.w k t) h0 (hm X.prog).mapOf ⟨.bl _, H, I.tok _, rfl, ?_⟩
  have e : (valueAt vs k).isSome = (getP kds k).isSome := by
    rcases paired_get k hp with ⟨a, b⟩ | ⟨_, _, _, a, b, _⟩ <;> rw [a, b] <;> rfl
  rw [e]
  exact q
/-- d[k], of a module's dict -/
def rIxK (K : PySem.W.Frag) (w : World) : R2 := fun x y H Q => ∃ d kds k dt, x = .ref d ∧ y = .str k ∧ DiD K w d kds ∧ getP kds k = some dt ∧ ∀ v : V, (∀ H : Hp, RdV K H v dt) → Q v H
theorem ix_dictK : IxR X (rIxK X.K X.w) := by
  intro value slice pins s σ H x y v u Q I rx ry h hs
  obtain ⟨d, kds, k, dt, rfl, rfl, hd, hg, q⟩ := h
  cases rx
  obtain ⟨t, rfl⟩ := ry
  obtain ⟨h0, vs, hm, hp⟩ := hd.at rfl I
  rcases paired_get k hp with ⟨a, b⟩ | ⟨u, e, z, a, b, c1, c2⟩
  · rw [b] at hg; cases hg
  · rw [b] at hg
    cases hg
    exact subscriptTail_builtinR (x := u) (hm X.prog).mapOf.typeIs slot_dict_getitem.lookup
      (wpAny_getItem_of (Q := fun r s' => r = u ∧ EP X pins σ Q r s') (strKind_is X.prog X.w k t) (hm X.prog).mapOf a ⟨rfl, ⟨z, H, I.tok _, c1, q z c2⟩⟩) hs
/-- d.get(k, x), of a module's dict -/
def tGetK (K : PySem.W.Frag) (w : World) (to : TE) (t : TA) : TE := fun σ H Q => to σ H fun x H1 => ∃ d kds, x = .ref d ∧ DiD K w d kds ∧ t σ H1 fun xs H2 => ∃ k z, xs = [.str k, z] ∧ (getP kds k = none → Q z H2) ∧
  ∀ dt, getP kds k = some dt → ∀ v : V, (∀ H : Hp, RdV K H v dt) → Q v H2
variable {o e : Expr} {es : List Expr} {to : TE} {t : TA} {apos cpos : Pos}
theorem pe_getK (ho : PE X o to) (ha : PA X (e :: es) t)
    (hbase : attributeBase o "get" X.env (eval o X.env) = eval o X.env := by rfl)
    (hfew : ((backTo cpos (starEach (e :: es) X.env)).all (fun x => !x.1) && (backToKw cpos (keywordEach [] X.env)).all (fun x => x.1.isSome)
      && decide ((e :: es).length + ([] : List Keyword).length + (if ([] : List Keyword).isEmpty then 0 else 1) < 30)) = true := by rfl)
    (hline : (apos.endLine == cpos.line) = true := by rfl) (hs : starEach (e :: es) X.env = (false, eval e X.env) :: starEach es X.env := by rfl) (hplain : (backTo cpos (starEach es X.env)).any (·.1) = false := by rfl) :
    PE X (.Call (.Attribute o "get" apos) (e :: es) [] cpos) (tGetK X.K X.w to t) := by
  intro pins s σ H Q I h
  refine wpAny_Call_method_late hbase hfew hline rfl (thn (ho pins s σ H _ I h) fun v s1 ⟨x, H1, I1, r1, d, kds, ex, hd, q1⟩ => ?_)
  subst ex
  cases r1
  obtain ⟨h0, vs, hm, hp⟩ := hd.at rfl I1
  refine ⟨"dict", "dict.get", PySem.F.plainAttrs_dict, PySem.F.slot_dict_get, PySem.F.type_dict_get, (hm X.prog).mapOf.typeIs, fun b eb => ?_, ?_⟩
  · cases eb
    obtain ⟨ob, _, _, g1, g2, _⟩ := hm X.prog
    exact ⟨ob, g1, g2.2.1⟩
  have hA := ha cpos pins s1 σ H1 _ I1 q1
  rw [hs] at hA ⊢
  refine Calls.callWith_builtin (by show (false || (backTo cpos (starEach es X.env)).any (·.1)) = false; rw [hplain] <;> rfl) (Calls.evalArgs_plain ?_)
  refine thn hA fun us s2 ⟨ws, H2, I2, r2, k, z, ez, q2, q3⟩ => ?_
  subst ez
  obtain ⟨u1, u2, rfl, ru1, ru2⟩ := vals2 r2
  obtain ⟨tk, rfl⟩ := ru1
  obtain ⟨h0, vs, hm, hp⟩ := hd.at rfl I2
  refine call_meetsIn PySem.F.slot_dict_get (hm X.prog).mapOf.typeIs PySem.F.entry_dict_get (PySem.F.args_dict_get_3 _ _ _) (meets_dict_get_default (strKind X.prog X.w) d (strKind_is X.prog X.w k tk) h0 u2) ⟨_, (hm X.prog).mapOf, ?_⟩
  rcases paired_get k hp with ⟨a, b⟩ | ⟨u, dt, v, a, b, c1, c2⟩
  · rw [a]
    exact ⟨z, H2, I2.tok _, ru2, q2 b⟩
  · rw [a]
    exact ⟨v, H2, I2.tok _, c1, q3 dt b v c2⟩
end
end L2

/-! ### own additions to the layer, 6: zip of two lists or tuples -/
namespace L2
open PySem PySem.Spec PyProof.Rows
/-- several records of ours turn and a new object is laid -/
theorem Inv.turnNew {X : Cx} {pins : List (Addr × Obj)} {σ : List (Option V)} {H : Hp} {s : Shared} {h' : Heap} {fp : List Addr} {a : Addr} {o : HO} {t' : Nat} (I : Inv X pins σ H s) (hf : ∀ b ∈ fp, FpOk X pins H b)
    (k : ∀ b u, b ∉ fp → s.heap.get? b = some u → h'.get? b = some u) (hp : s.heap.objs.size ≤ a) (new : ObjOk X.prog X.w (upd H a o) h' a o) : Inv X pins σ (upd H a o) { s with heap := h', toks := t' } := by
  have hn := I.hok.fresh hp
  have nfp : ∀ b u, H b = some u → b ∉ fp := fun b u e z => by rw [(hf b z).1] at e; cases e
  refine I.step (g' := s.gens) (d' := s.drawn) (ch := fp) (fun b hb => ⟨(hf b hb).2.2.2.1, (hf b hb).2.1, (hf b hb).2.2.2.2.1, (hf b hb).2.2.2.2.2⟩) (fun b o _ _ hc e _ => k b o hc e) (fun b o _ _ hc e _ => ⟨o.slots, k b o hc e⟩)
    (fun b o hc e n => by rw [upd_ne (Nat.ne_of_lt (Nat.lt_of_lt_of_le (Heap.lt_size e) hp))]; exact n) (fun b o hc e => ⟨o, k b o hc e⟩) (fun b xs e => by rw [upd_ne (ne_of_none e hn)]; exact e) (fun b u xs e => by rw [upd_ne (ne_of_none e hn)]; exact e)
    (fun b ps e => ⟨#[], by rw [upd_ne (ne_of_none e hn), e]; simp⟩) (fun m hm => ?_) (fun b u e => ?_) I.bare
  · obtain ⟨o, es, ep, ho, r⟩ := hm
    exact ⟨o, es, ep, k _ o (fun z => (hf _ z).2.1 rfl) ho, r⟩
  · by_cases hb : b = a
    · subst hb; rw [upd_same] at e; cases e; exact new
    · rw [upd_ne hb] at e
      refine (I.hok b u e).stay (fun c v hc q => k c v ?_ q) (fun c q => by rw [upd_ne (ne_of_none q hn)]; exact q) fun c xs q => by rw [upd_ne (ne_of_none q hn)]; exact q
      rcases hc with z | z
      · rw [z]; exact nfp b u e
      · exact nfp c _ z
theorem Inv.turnedL {X : Cx} {pins : List (Addr × Obj)} {σ : List (Option V)} {H : Hp} {s : Shared} {h' : Heap} {fp : List Addr} {t' : Nat} (I : Inv X pins σ H s) (hf : ∀ b ∈ fp, FpOk X pins H b)
    (k : ∀ b u, b ∉ fp → s.heap.get? b = some u → h'.get? b = some u) : Inv X pins σ H { s with heap := h', toks := t' } := by
  have nfp : ∀ b u, H b = some u → b ∉ fp := fun b u e z => by rw [(hf b z).1] at e; cases e
  refine I.step (g' := s.gens) (d' := s.drawn) (ch := fp) (fun b hb => ⟨(hf b hb).2.2.2.1, (hf b hb).2.1, (hf b hb).2.2.2.2.1, (hf b hb).2.2.2.2.2⟩) (fun b o _ _ hc e _ => k b o hc e) (fun b o _ _ hc e _ => ⟨o.slots, k b o hc e⟩)
    (fun _ _ _ _ n => n) (fun b o hc e => ⟨o, k b o hc e⟩) (fun _ _ e => e) (fun _ _ _ e => e) (fun b ps e => ⟨#[], by rw [e]; simp⟩) (fun m hm => ?_) (fun b u e => ?_) I.bare
  · obtain ⟨o, es, ep, ho, r⟩ := hm
    exact ⟨o, es, ep, k _ o (fun z => (hf _ z).2.1 rfl) ho, r⟩
  · refine (I.hok b u e).stay (fun c v hc q => k c v ?_ q) (fun _ q => q) fun _ _ q => q
    rcases hc with z | z
    · rw [z]; exact nfp b u e
    · exact nfp c _ z
/-- a list (true) or a tuple, its iterator -/
def sqAt (q : Bool) (h : Heap) (a : Addr) (its : Array Value) : Prop := match q with | true => h.IsList a its | false => h.IsTuple a its
def itAt (q : Bool) (h : Heap) (it a : Addr) (i : Nat) : Prop := match q with | true => h.IsListIter it a i | false => h.IsTupleIter it a i
def itC (q : Bool) : String := match q with | true => "list_iterator" | false => "tuple_iterator"
theorem sqAt.at {q : Bool} {h h' : Heap} {a : Addr} {its : Array Value} (x : sqAt q h a its) (e : ∀ o, h.get? a = some o → h'.get? a = some o) : sqAt q h' a its := by
  cases q <;> (obtain ⟨o, ho, r⟩ := x; exact ⟨o, e _ ho, r⟩)
theorem itAt.at {q : Bool} {h h' : Heap} {it a : Addr} {i : Nat} (x : itAt q h it a i) (e : ∀ o, h.get? it = some o → h'.get? it = some o) : itAt q h' it a i := by
  cases q <;> (obtain ⟨o, ho, r⟩ := x; exact ⟨o, e _ ho, r⟩)
theorem itAt.obj {q : Bool} {h : Heap} {it a : Addr} {i : Nat} (x : itAt q h it a i) : ∃ o, h.get? it = some o ∧ ∀ v, o.data ≠ .cell v := by
  cases q <;> (obtain ⟨o, ho, c, d⟩ := x; exact ⟨o, ho, fun v z => by rw [d] at z; cases z⟩)
section
variable {prog : Program} {w : World} {A : Around} {E : Value → Shared → Prop} {s : Shared}
theorem nxT_item {it t : Addr} {i : Nat} {its : Array Value} {x : Value} {Q : Value → Shared → Prop} (hit : s.heap.IsTupleIter it t i) (ht : s.heap.IsTuple t its) (hx : its[i]? = some x)
    (hQ : ∀ h', h'.IsTupleIter it t (i + 1) → Heap.SameBut it s.heap h' → Q x { s with heap := h' }) : wpAny (model prog w) A (Builtin.SmallTypes.nextOf (.ref it)) Q E s := by
  obtain ⟨o, g1, g2, g3⟩ := id hit
  obtain ⟨ot, g4, _, nt, g5⟩ := ht
  unfold Builtin.SmallTypes.nextOf
  refine wpAny_bind (wpAny_callSpecial?_slot (name := Str.ofString "__next__") hit.typeIs F.slot_tuple_iterator_next (wpAny_call_entry F.slot_tuple_iterator_next hit.typeIs F.entry_tuple_iterator_next ?_ (F.args_tuple_iterator_next_1 _)))
  show wpAny _ _ (field (.ref it) 0 >>= _) _ _ s
  refine wpAny_bind (wpAny_field g1 g3 (x := .ref t) rfl ?_)
  show wpAny _ _ (if (Value.ref t == Value.none) = true then _ else _) _ _ s
  rw [if_neg (show ¬ ((Value.ref t == Value.none) = true) from Bool.false_ne_true)]
  show wpAny _ _ (field (.ref it) 1 >>= _) _ _ s
  refine wpAny_bind (wpAny_field g1 g3 (x := .int i 0) rfl ?_)
  show wpAny _ _ (seqItems? (.ref t) >>= _) _ _ s
  refine wpAny_bind (wpAny_seqItems g4 g5 ?_)
  simp only [Int.toNat_natCast, hx]
  refine wpAny_bind (wpAny_setField g1 g3 (by simp) (wpAny_pure ⟨x, rfl, wpAny_pure (hQ _ ?_ (Heap.SameBut.update ..))⟩))
  exact ⟨_, Heap.get?_update_self _ g1 (Obj.isFreed_of_fields (Obj.data_mapFields g3 _)), (Obj.cls_mapFields ..).trans g2, by rw [Obj.data_mapFields g3]; simp [rawInt]⟩
theorem nxT_end {it t : Addr} {i : Nat} {its : Array Value} {Q : Value → Shared → Prop} (hh : A.handled = none) (hit : s.heap.IsTupleIter it t i) (ht : s.heap.IsTuple t its) (hx : its[i]? = none)
    (hE : ∀ h' e, Heap.ExtBut it s.heap h' → (∃ o, h'.get? e = some o ∧ o.cls = .type "StopIteration") → E (.ref e) { s with heap := h' }) : wpAny (model prog w) A (Builtin.SmallTypes.nextOf (.ref it)) Q E s := by
  obtain ⟨o, g1, g2, g3⟩ := id hit
  obtain ⟨ot, g4, _, nt, g5⟩ := ht
  unfold Builtin.SmallTypes.nextOf
  refine wpAny_bind (wpAny_callSpecial?_slot (name := Str.ofString "__next__") hit.typeIs F.slot_tuple_iterator_next (wpAny_call_entry F.slot_tuple_iterator_next hit.typeIs F.entry_tuple_iterator_next ?_ (F.args_tuple_iterator_next_1 _)))
  show wpAny _ _ (field (.ref it) 0 >>= _) _ _ s
  refine wpAny_bind (wpAny_field g1 g3 (x := .ref t) rfl ?_)
  show wpAny _ _ (if (Value.ref t == Value.none) = true then _ else _) _ _ s
  rw [if_neg (show ¬ ((Value.ref t == Value.none) = true) from Bool.false_ne_true)]
  show wpAny _ _ (field (.ref it) 1 >>= _) _ _ s
  refine wpAny_bind (wpAny_field g1 g3 (x := .int i 0) rfl ?_)
  show wpAny _ _ (seqItems? (.ref t) >>= _) _ _ s
  refine wpAny_bind (wpAny_seqItems g4 g5 ?_)
  simp only [Int.toNat_natCast, hx]
  refine wpAny_bind (wpAny_rule (wpAny_bind (wpAny_setField g1 g3 (by simp) ?_)))
  show wpAny _ _ (newExc (.type "StopIteration") [] >>= _) _ _ _
  refine wpAny_bind ?_
  simp only [newExc, newTuple]
  refine wpAny_bind (wpAny_newObj_type ?_ (by size_fits))
  refine wpAny_bind (m := firstArgMember _ _) (wpAny_of_eq (a := Value.none) (by first | rfl | (simp only [firstArgMember]; rfl)) ?_)
  refine wpAny_newObj_type ?_ (by size_fits)
  simp only [raiseNew]
  refine wpAny_bind (wpAny_handled ?_)
  first | rw [show A.in1.handled = none from hh] | rw [hh]
  refine wpAny_bind (wpAny_pure (wpAny_throw ?_))
  exact hE _ _ (((Heap.SameBut.update ..).extBut.push _).push _) ⟨_, Heap.get?_push_size _ rfl, rfl⟩
theorem nx_item {q : Bool} {it t : Addr} {i : Nat} {its : Array Value} {x : Value} {Q : Value → Shared → Prop} (hit : itAt q s.heap it t i) (ht : sqAt q s.heap t its) (hx : its[i]? = some x)
    (hQ : ∀ h', itAt q h' it t (i + 1) → Heap.SameBut it s.heap h' → Q x { s with heap := h' }) : wpAny (model prog w) A (Builtin.SmallTypes.nextOf (.ref it)) Q E s := by
  cases q with
  | true => exact wpAny_nextOf_list_item hit ht hx hQ
  | false => exact nxT_item hit ht hx hQ
theorem nx_end {q : Bool} {it t : Addr} {i : Nat} {its : Array Value} {Q : Value → Shared → Prop} (hh : A.handled = none) (hit : itAt q s.heap it t i) (ht : sqAt q s.heap t its) (hx : its[i]? = none)
    (hE : ∀ h' e, Heap.ExtBut it s.heap h' → (∃ o, h'.get? e = some o ∧ o.cls = .type "StopIteration") → E (.ref e) { s with heap := h' }) : wpAny (model prog w) A (Builtin.SmallTypes.nextOf (.ref it)) Q E s := by
  cases q with
  | true => exact wpAny_nextOf_list_end hh hit ht hx hE
  | false => exact nxT_end hh hit ht hx hE
variable {q1 q2 : Bool} {z TI TO i1 i2 l1 l2 : Addr} {k1 k2 : Nat} {xs ys : Array Value} {x y a b : Value}
theorem zipQ_item {Q : Option Value → Shared → Prop} (D : ZipApart z TI TO i1 i2 l1 l2) (hz : IsZip s.heap z TI TO .none) (hTI : IsPair s.heap TI (.ref i1) (.ref i2)) (hTO : IsPair s.heap TO a b)
    (h1 : itAt q1 s.heap i1 l1 k1) (h2 : itAt q2 s.heap i2 l2 k2) (hl1 : sqAt q1 s.heap l1 xs) (hl2 : sqAt q2 s.heap l2 ys) (hx : xs[k1]? = some x) (hy : ys[k2]? = some y)
    (hQ : ∀ h', IsZip h' z TI TO (rawInt s.heap.objs.size) → IsPair h' TO x y → itAt q1 h' i1 l1 (k1 + 1) → itAt q2 h' i2 l2 (k2 + 1) → IsPair h' s.heap.objs.size x y →
      (∀ c o, c ≠ z → c ≠ TO → c ≠ i1 → c ≠ i2 → s.heap.get? c = some o → h'.get? c = some o) → Q (some (.ref s.heap.objs.size)) { s with heap := h' }) : wpAny (model prog w) A (pyNext (.ref z)) Q E s := by
  have hT : s.TypeIs (.ref z) "zip" := ⟨_, hz, rfl⟩
  unfold pyNext
  refine wpAny_bind (wpAny_attempt (wpAny_callSpecial?_slot (name := Str.ofString "__next__") hT F.slot_zip_next (wpAny_call_entry F.slot_zip_next hT F.entry_zip_next ?_ (F.args_zip_next_1 _))))
  show wpAny _ _ (field (.ref z) 2 >>= _) _ _ _
  refine wpAny_bind (wpAny_field hz rfl (x := .bool false) rfl ?_)
  show wpAny _ _ (field (.ref z) 3 >>= _) _ _ _
  refine wpAny_bind (wpAny_field hz rfl (x := .ref TI) rfl (wpAny_bind (wpAny_seqItems hTI rfl ?_)))
  show wpAny _ _ (Builtin.SmallTypes.ownedTupleIsFree (.ref z) >>= _) _ _ _
  refine wpAny_bind ?_
  unfold Builtin.SmallTypes.ownedTupleIsFree
  refine wpAny_bind (wpAny_field hz rfl (x := .none) rfl (wpAny_pure ?_))
  simp only [if_true]
  refine wpAny_bind (wpAny_rule (wpAny_bind (wpAny_field hz rfl (x := .ref TO) rfl (wpAny_bind (wpAny_setField_rec hz (by simp) fun u1 hz1 b1 => ?_)))))
  replace hz1 : IsZip u1 z TI TO .ellipsis := hz1
  refine wpAny_bind ?_
  simp only [List.zipIdx_cons, List.zipIdx_nil, List.forIn_cons, List.forIn_nil]
  refine wpAny_bind (wpAny_bind (wpAny_onRaise ?_))
  show wpAny _ _ (Builtin.SmallTypes.nextOf (.ref i1) >>= _) _ _ _
  refine wpAny_bind (nx_item (h1.at fun o e => b1.extBut _ o D.i1z e) (hl1.at fun o e => b1.extBut _ o D.l1z e) hx fun u2 h12 b2 => wpAny_pure ?_)
  have hTO2 : IsPair u2 TO a b := b2.extBut _ _ D.TOi1 (b1.extBut _ _ D.TOz hTO)
  refine wpAny_bind (wpAny_seqItems hTO2 rfl (wpAny_bind (wpAny_updateSeq_pair hTO2 fun u3 hTO3 b3 => ?_)))
  replace hTO3 : IsPair u3 TO x b := hTO3
  refine wpAny_bind (wpAny_letGo (wpAny_pure (wpAny_bind (wpAny_bind (wpAny_onRaise ?_)))))
  show wpAny _ _ (Builtin.SmallTypes.nextOf (.ref i2) >>= _) _ _ _
  refine wpAny_bind (nx_item (h2.at fun o e => b3.extBut _ o D.TOi2.symm (b2.extBut _ o D.i12.symm (b1.extBut _ o D.i2z e))) (hl2.at fun o e => b3.extBut _ o D.l2TO (b2.extBut _ o D.l2i1 (b1.extBut _ o D.l2z e))) hy fun u4 h24 b4 => wpAny_pure ?_)
  have hTO4 : IsPair u4 TO x b := b4.extBut _ _ D.TOi2 hTO3
  refine wpAny_bind (wpAny_seqItems hTO4 rfl (wpAny_bind (wpAny_updateSeq_pair hTO4 fun u5 hTO5 b5 => ?_)))
  replace hTO5 : IsPair u5 TO x y := hTO5
  refine wpAny_bind (wpAny_letGo (wpAny_pure (wpAny_pure ?_)))
  refine wpAny_bind (wpAny_seqItems hTO5 rfl (wpAny_bind (wpAny_newTuple ?_)))
  have hsz : u5.objs.size = s.heap.objs.size := by rw [b5.1, b4.1, b3.1, b2.1, b1.1]
  have hz5 : IsZip u5 z TI TO .ellipsis := b5.extBut _ _ D.TOz.symm (b4.extBut _ _ D.i2z.symm (b3.extBut _ _ D.TOz.symm (b2.extBut _ _ D.i1z.symm hz1)))
  have hk5 : ∀ c o, c ≠ z → c ≠ TO → c ≠ i1 → c ≠ i2 → s.heap.get? c = some o → u5.get? c = some o := fun c o c1 c2 c3 c4 e => b5.extBut _ _ c2 (b4.extBut _ _ c4 (b3.extBut _ _ c2 (b2.extBut _ _ c3 (b1.extBut _ _ c1 e))))
  have h15 : itAt q1 u5 i1 l1 (k1 + 1) := h12.at fun o e => b5.extBut _ o D.TOi1.symm (b4.extBut _ o D.i12 (b3.extBut _ o D.TOi1.symm e))
  have h25 : itAt q2 u5 i2 l2 (k2 + 1) := h24.at fun o e => b5.extBut _ o D.TOi2.symm e
  have hzl : z < u5.objs.size := Heap.lt_size hz5
  show wpAny _ _ (Builtin.SmallTypes.ownedTupleHandOut (.ref z) (.ref u5.objs.size) >>= _) _ _ _
  refine wpAny_bind ?_
  unfold Builtin.SmallTypes.ownedTupleHandOut
  have hz6 : IsZip (u5.push { cls := .type "tuple", data := .seq #[x, y] }) z TI TO .ellipsis := Heap.get?_push_of_some _ hz5
  refine wpAny_bind (wpAny_setField_rec hz6 (by simp) fun u7 hz7 b7 => ?_)
  replace hz7 : IsZip u7 z TI TO (rawInt u5.objs.size) := hz7
  refine wpAny_setField_rec hz7 (by simp) fun u8 hz8 b8 => ?_
  replace hz8 : IsZip u8 z TI TO (rawInt u5.objs.size) := hz8
  have up : ∀ c o, c ≠ z → u5.get? c = some o → u8.get? c = some o := fun c o c1 e => b8.extBut _ _ c1 (b7.extBut _ _ c1 (Heap.get?_push_of_some _ e))
  have hT8 : IsPair u8 u5.objs.size x y := b8.extBut _ _ (Nat.ne_of_gt hzl) (b7.extBut _ _ (Nat.ne_of_gt hzl) (Heap.get?_push_size _ rfl))
  rw [hsz] at hz8 hT8
  refine wpAny_pure ⟨_, rfl, wpAny_pure ?_⟩
  show Q (some (.ref u5.objs.size)) _
  rw [hsz]
  exact hQ u8 hz8 (up _ _ D.TOz hTO5) (h15.at fun o e => up _ o D.i1z e) (h25.at fun o e => up _ o D.i2z e) hT8 fun c o c1 c2 c3 c4 e => up c o c1 (hk5 c o c1 c2 c3 c4 e)
theorem zipQ_end {Q : Option Value → Shared → Prop} (hh : A.handled = none) (D : ZipApart z TI TO i1 i2 l1 l2) (hz : IsZip s.heap z TI TO .none) (hTI : IsPair s.heap TI (.ref i1) (.ref i2)) (hTO : IsPair s.heap TO a b)
    (h1 : itAt q1 s.heap i1 l1 k1) (h2 : itAt q2 s.heap i2 l2 k2) (hl1 : sqAt q1 s.heap l1 xs) (hl2 : sqAt q2 s.heap l2 ys) (hend : xs[k1]? = none ∨ ys[k2]? = none)
    (hQ : ∀ h', (∀ c o, c ≠ z → c ≠ TO → c ≠ i1 → c ≠ i2 → s.heap.get? c = some o → h'.get? c = some o) → Q none { s with heap := h' }) : wpAny (model prog w) A (pyNext (.ref z)) Q E s := by
  have hT : s.TypeIs (.ref z) "zip" := ⟨_, hz, rfl⟩
  have fin : ∀ (h' : Heap) (e : Addr), (∀ c o, c ≠ z → c ≠ TO → c ≠ i1 → c ≠ i2 → s.heap.get? c = some o → h'.get? c = some o) → (∃ o, h'.get? e = some o ∧ o.cls = .type "StopIteration") →
      wpAny (model prog w) A (do let b ← isInstance (.ref e) (.type "StopIteration"); if b = true then pure none else throw (.ref e)) Q E { s with heap := h' } := fun h' e hk ⟨o, ho, hc⟩ =>
    wpAny_bind (wpAny_isInstance (T := "StopIteration") (b := true) ⟨o, ho, hc⟩ isSubtype_stop (wpAny_pure (hQ _ hk)))
  unfold pyNext
  refine wpAny_bind (wpAny_attempt (wpAny_callSpecial?_slot (name := Str.ofString "__next__") hT F.slot_zip_next (wpAny_call_entry F.slot_zip_next hT F.entry_zip_next ?_ (F.args_zip_next_1 _))))
  show wpAny _ _ (field (.ref z) 2 >>= _) _ _ _
  refine wpAny_bind (wpAny_field hz rfl (x := .bool false) rfl ?_)
  show wpAny _ _ (field (.ref z) 3 >>= _) _ _ _
  refine wpAny_bind (wpAny_field hz rfl (x := .ref TI) rfl (wpAny_bind (wpAny_seqItems hTI rfl ?_)))
  show wpAny _ _ (Builtin.SmallTypes.ownedTupleIsFree (.ref z) >>= _) _ _ _
  refine wpAny_bind ?_
  unfold Builtin.SmallTypes.ownedTupleIsFree
  refine wpAny_bind (wpAny_field hz rfl (x := .none) rfl (wpAny_pure ?_))
  simp only [if_true]
  refine wpAny_bind (wpAny_rule (wpAny_bind (wpAny_field hz rfl (x := .ref TO) rfl (wpAny_bind (wpAny_setField_rec hz (by simp) fun u1 hz1 b1 => ?_)))))
  replace hz1 : IsZip u1 z TI TO .ellipsis := hz1
  refine wpAny_bind ?_
  simp only [List.zipIdx_cons, List.zipIdx_nil, List.forIn_cons, List.forIn_nil]
  refine wpAny_bind (wpAny_bind (wpAny_onRaise ?_))
  show wpAny _ _ (Builtin.SmallTypes.nextOf (.ref i1) >>= _) _ _ _
  cases hx : xs[k1]? with
  | none =>
    refine wpAny_bind (nx_end hh (h1.at fun o e => b1.extBut _ o D.i1z e) (hl1.at fun o e => b1.extBut _ o D.l1z e) hx fun u2 e b2 he => ?_)
    obtain ⟨oe, hoe, hce⟩ := he
    have hz2 : IsZip u2 z TI TO .ellipsis := b2 _ _ D.i1z.symm hz1
    have hez : e ≠ z := fun x => by subst x; rw [hz2] at hoe; cases hoe; simp at hce
    exact wpAny_setField_rec hz2 (by simp) fun u3 _ b3 => fin u3 e (fun c o c1 _ c3 _ x => b3.extBut _ _ c1 (b2 _ _ c3 (b1.extBut _ _ c1 x))) ⟨oe, b3.extBut _ _ hez hoe, hce⟩
  | some x =>
    have hy : ys[k2]? = none := by rcases hend with h | h; rw [hx] at h; cases h; exact h
    refine wpAny_bind (nx_item (h1.at fun o e => b1.extBut _ o D.i1z e) (hl1.at fun o e => b1.extBut _ o D.l1z e) hx fun u2 h12 b2 => wpAny_pure ?_)
    have hTO2 : IsPair u2 TO a b := b2.extBut _ _ D.TOi1 (b1.extBut _ _ D.TOz hTO)
    refine wpAny_bind (wpAny_seqItems hTO2 rfl (wpAny_bind (wpAny_updateSeq_pair hTO2 fun u3 hTO3 b3 => ?_)))
    refine wpAny_bind (wpAny_letGo (wpAny_pure (wpAny_bind (wpAny_bind (wpAny_onRaise ?_)))))
    show wpAny _ _ (Builtin.SmallTypes.nextOf (.ref i2) >>= _) _ _ _
    refine wpAny_bind (nx_end hh (h2.at fun o e => b3.extBut _ o D.TOi2.symm (b2.extBut _ o D.i12.symm (b1.extBut _ o D.i2z e))) (hl2.at fun o e => b3.extBut _ o D.l2TO (b2.extBut _ o D.l2i1 (b1.extBut _ o D.l2z e))) hy fun u4 e b4 he => ?_)
    obtain ⟨oe, hoe, hce⟩ := he
    have hz4 : IsZip u4 z TI TO .ellipsis := b4 _ _ D.i2z.symm (b3.extBut _ _ D.TOz.symm (b2.extBut _ _ D.i1z.symm hz1))
    have hez : e ≠ z := fun x => by subst x; rw [hz4] at hoe; cases hoe; simp at hce
    exact wpAny_setField_rec hz4 (by simp) fun u5 _ b5 => fin u5 e (fun c o c1 c2 c3 c4 x => b5.extBut _ _ c1 (b4 _ _ c4 (b3.extBut _ _ c2 (b2.extBut _ _ c3 (b1.extBut _ _ c1 x))))) ⟨oe, b5.extBut _ _ hez hoe, hce⟩
theorem it_start {q : Bool} {l : Addr} {its : Array Value} {Q : Value → Shared → Prop} (hl : sqAt q s.heap l its) (hQ : Q (.ref s.heap.objs.size) { s with heap := s.heap.push { cls := .type (itC q), data := .fields #[.ref l, .int 0 0] } }) :
    wpAny (model prog w) A (pyIter (.ref l)) Q E s := by
  cases q with
  | true => exact wpAny_pyIter_list hl hQ
  | false => exact wpAny_pyIter_tuple hl hQ
theorem it_at {q : Bool} {h : Heap} {it l : Addr} (e : h.get? it = some { cls := .type (itC q), data := .fields #[.ref l, .int 0 0] }) : itAt q h it l 0 := by
  cases q <;> exact ⟨_, e, rfl, rfl⟩
end
def zq1 (q1 : Bool) (h : Heap) (l1 : Addr) : Heap := h.push { cls := .type (itC q1), data := .fields #[.ref l1, .int 0 0] }
def zq2 (q1 q2 : Bool) (h : Heap) (l1 l2 : Addr) : Heap := (zq1 q1 h l1).push { cls := .type (itC q2), data := .fields #[.ref l2, .int 0 0] }
def zq3 (q1 q2 : Bool) (h : Heap) (l1 l2 : Addr) : Heap := (zq2 q1 q2 h l1 l2).push { cls := .type "tuple", data := .seq #[.ref h.objs.size, .ref (zq1 q1 h l1).objs.size] }
def zq4 (q1 q2 : Bool) (h : Heap) (l1 l2 : Addr) : Heap := (zq3 q1 q2 h l1 l2).push { cls := .type "tuple", data := .seq #[.none, .none] }
def zq5 (q1 q2 : Bool) (h : Heap) (l1 l2 : Addr) : Heap := (zq4 q1 q2 h l1 l2).push { cls := .type "zip", data := .fields #[.none, .bool false, .bool false, .ref (zq2 q1 q2 h l1 l2).objs.size, .ref (zq3 q1 q2 h l1 l2).objs.size] }
theorem meets_zipQ (q1 q2 : Bool) (l1 l2 : Addr) (xs ys : Array Value) :
    Meets (Builtin.«zip.__new__» ⟨[.type "zip", .ref l1, .ref l2], []⟩) (fun _ R s => sqAt q1 s.heap l1 xs ∧ sqAt q2 s.heap l2 ys ∧ R (.ok (.ret (.ref (zq4 q1 q2 s.heap l1 l2).objs.size))) { s with heap := zq5 q1 q2 s.heap l1 l2 }) :=
  .of_wp fun prog w A R s h => by
    obtain ⟨hp, g, d, tk, os⟩ := s; obtain ⟨hl1, hl2, h⟩ := h
    have hsub := sub_zip
    have hL1 : sqAt q1 (Shared.heap ⟨hp, g, d, tk, os⟩) l1 xs := hl1
    have hL2 : sqAt q2 (Shared.heap ⟨hp.push { cls := .type (itC q1), data := .fields #[.ref l1, .int 0 0] }, g, d, tk, os⟩) l2 ys := sqAt.at hl2 fun o e => Heap.get?_push_of_some _ e
    wp_walk using it_start hL1, it_start hL2
    exact ⟨_, rfl, h⟩
section
variable {prog : Program} {w : World} {A : Around} {E : Value → Shared → Prop} {s : Shared} {q1 q2 : Bool}
theorem call_zipQ {l1 l2 : Addr} {xs ys : Array Value} {Q : Value → Shared → Prop} (hl1 : sqAt q1 s.heap l1 xs) (hl2 : sqAt q2 s.heap l2 ys)
    (h : ∀ h', IsZip h' (s.heap.objs.size + 4) (s.heap.objs.size + 2) (s.heap.objs.size + 3) .none → IsPair h' (s.heap.objs.size + 2) (.ref s.heap.objs.size) (.ref (s.heap.objs.size + 1)) →
      IsPair h' (s.heap.objs.size + 3) .none .none → itAt q1 h' s.heap.objs.size l1 0 → itAt q2 h' (s.heap.objs.size + 1) l2 0 → (∀ c o, s.heap.get? c = some o → h'.get? c = some o) → Q (.ref (s.heap.objs.size + 4)) { s with heap := h' }) :
    wpAny (model prog w) A (call (.type "zip") [.ref l1, .ref l2]) Q E s := by
  refine callType_new F.called_zip (by decide) (F.typeCall_zip_2 _ _) (F.newCall_zip_2 _ _) (fun obj => F.args_object_init_3 obj _ _) F.entry_zip_new (meets_zipQ q1 q2 l1 l2 xs ys) ⟨hl1, hl2, ?_⟩
  have z1 : (zq1 q1 s.heap l1).objs.size = s.heap.objs.size + 1 := Heap.size_push ..
  have z2 : (zq2 q1 q2 s.heap l1 l2).objs.size = s.heap.objs.size + 2 := by unfold zq2; rw [Heap.size_push, z1]
  have z3 : (zq3 q1 q2 s.heap l1 l2).objs.size = s.heap.objs.size + 3 := by unfold zq3; rw [Heap.size_push, z2]
  have z4 : (zq4 q1 q2 s.heap l1 l2).objs.size = s.heap.objs.size + 4 := by unfold zq4; rw [Heap.size_push, z3]
  have g5 : (zq5 q1 q2 s.heap l1 l2).get? (zq4 q1 q2 s.heap l1 l2).objs.size = some _ := Heap.get?_push_size _ rfl
  have g4 : (zq5 q1 q2 s.heap l1 l2).get? (zq3 q1 q2 s.heap l1 l2).objs.size = some _ := Heap.get?_push_of_some _ (Heap.get?_push_size _ rfl)
  have g3 : (zq5 q1 q2 s.heap l1 l2).get? (zq2 q1 q2 s.heap l1 l2).objs.size = some _ := Heap.get?_push_of_some _ (Heap.get?_push_of_some _ (Heap.get?_push_size _ rfl))
  have g2 : (zq5 q1 q2 s.heap l1 l2).get? (zq1 q1 s.heap l1).objs.size = some _ := Heap.get?_push_of_some _ (Heap.get?_push_of_some _ (Heap.get?_push_of_some _ (Heap.get?_push_size _ rfl)))
  have g1 : (zq5 q1 q2 s.heap l1 l2).get? s.heap.objs.size = some _ := Heap.get?_push_of_some _ (Heap.get?_push_of_some _ (Heap.get?_push_of_some _ (Heap.get?_push_of_some _ (Heap.get?_push_size _ rfl))))
  show _ ∧ _
  rw [z2, z3, z4] at g5
  rw [z1, z2] at g3
  rw [z3] at g4
  rw [z1] at g2
  rw [z4]
  exact ⟨⟨_, g5, rfl⟩, h _ g5 g3 g4 (it_at g1) (it_at g2) fun c o x => Heap.get?_push_of_some _ (Heap.get?_push_of_some _ (Heap.get?_push_of_some _ (Heap.get?_push_of_some _ (Heap.get?_push_of_some _ x))))⟩
end
/-- a list (true) or a tuple that is read -/
def sqV (q : Bool) (K : PySem.W.Frag) (H : Hp) (a : Addr) (xs : List V) : Prop := match q with | true => SqL K H a xs | false => SqT K H a xs
theorem sqV.heap {X : Cx} {pins : List (Addr × Obj)} {σ : St} {H : Hp} {s : Shared} {q : Bool} {a : Addr} {xs : List V} (I : Inv X pins σ H s) (h : sqV q X.K H a xs) : ∃ its : List Value, Vals xs its ∧ sqAt q s.heap a its.toArray := by
  cases q with
  | true => obtain ⟨its, r, p, _⟩ := I.list h; exact ⟨its, r, p.isList⟩
  | false => obtain ⟨its, r, p, _⟩ := I.tuple h; exact ⟨its, r, p⟩
theorem sqAt.lt {q : Bool} {h : Heap} {a : Addr} {its : Array Value} (x : sqAt q h a its) : a < h.objs.size := by
  cases q <;> (obtain ⟨o, ho, r⟩ := x; exact Heap.lt_size ho)
theorem itAt.lt {q : Bool} {h : Heap} {it a : Addr} {i : Nat} (x : itAt q h it a i) : it < h.objs.size := by
  obtain ⟨o, ho, _⟩ := x.obj; exact Heap.lt_size ho
/-- two lists or tuples side by side, both stay: a new pair each turn -/
def Itz (q1 q2 : Bool) (K : PySem.W.Frag) (l1 l2 : Addr) (xs ys : List V) : It :=
  ⟨fun i H => i < xs.length ∧ i < ys.length ∧ sqV q1 K H l1 xs ∧ sqV q2 K H l2 ys,
   fun i H x H' => ∃ T u v, H T = none ∧ x = .ref T ∧ H' = upd H T (.tup [u, v]) ∧ xs[i]? = some u ∧ ys[i]? = some v,
   fun i H => (xs.length ≤ i ∨ ys.length ≤ i) ∧ sqV q1 K H l1 xs ∧ sqV q2 K H l2 ys⟩
theorem turn_zip {P : Program} {w : World} {K : PySem.W.Frag} {elts : List Expr} {kx} {pos : Pos} {q1 q2 : Bool} {z TI TO i1 i2 l1 l2 : Addr} (xs ys : List V) (D : ZipApart z TI TO i1 i2 l1 l2) :
    Turn P w K (.Tuple elts kx pos) (Itz q1 q2 K l1 l2 xs ys) [z, TI, TO, i1, i2] z (fun i h => IsZip h z TI TO .none ∧ IsPair h TI (.ref i1) (.ref i2) ∧ (∃ a b, IsPair h TO a b) ∧ itAt q1 h i1 l1 i ∧ itAt q2 h i2 l2 i) where
  mem := by simp
  obj := fun i h st b hb => by
    obtain ⟨hz, hTI, ⟨a, b', hTO⟩, h1, h2⟩ := st
    simp at hb
    rcases hb with e | e | e | e | e
    · subst e; exact ⟨_, hz, fun v z => by cases z⟩
    · subst e; exact ⟨_, hTI, fun v z => by cases z⟩
    · subst e; exact ⟨_, hTO, fun v z => by cases z⟩
    · subst e; exact h1.obj
    · subst e; exact h2.obj
  keep := fun i h h' st k => by
    obtain ⟨hz, hTI, ⟨a, b', hTO⟩, h1, h2⟩ := st
    exact ⟨k z (by simp) _ hz, k TI (by simp) _ hTI, ⟨a, b', k TO (by simp) _ hTO⟩, h1.at fun o e => k i1 (by simp) o e, h2.at fun o e => k i2 (by simp) o e⟩
  item := by
    intro X hP hw hK hc i pins s σ H E I hf st hg
    subst hP hw hK
    obtain ⟨g1, g2, s1, s2⟩ := hg
    obtain ⟨hz, hTI, ⟨a, b', hTO⟩, h1, h2⟩ := st
    obtain ⟨us, r1, p1⟩ := s1.heap I
    obtain ⟨vs, r2, p2⟩ := s2.heap I
    obtain ⟨u, hu, ru⟩ := r1.get (List.getElem?_eq_getElem g1)
    obtain ⟨v, hv, rv⟩ := r2.get (List.getElem?_eq_getElem g2)
    refine zipQ_item (x := u) (y := v) D hz hTI hTO h1 h2 p1 p2 (by simpa using hu) (by simpa using hv) fun h' a1 a2 a3 a4 a5 hk => ?_
    refine ⟨_, rfl, wpAny_letOwnedTupleGo_zip a1 fun h'' b1 sb => ?_⟩
    have nT : ∀ {c o}, s.heap.get? c = some o → c ≠ s.heap.objs.size := fun e => Nat.ne_of_lt (Heap.lt_size e)
    have hT : IsPair h'' s.heap.objs.size u v := sb.extBut _ _ (nT hz).symm a5
    have kk : ∀ c o, c ∉ [z, TI, TO, i1, i2] → s.heap.get? c = some o → h''.get? c = some o := fun c o hc e => by
      simp at hc
      exact sb.extBut _ _ hc.1 (hk c o hc.1 hc.2.2.1 hc.2.2.2.1 hc.2.2.2.2 e)
    refine ⟨.ref s.heap.objs.size, upd H s.heap.objs.size (.tup [xs[i], ys[i]]), I.turnNew hf kk (Nat.le_refl _) ⟨by show 2 ≤ sizeLine; decide, [u, v], .cons ru (.cons rv .nil), _, hT, rfl, _, rfl⟩, rfl, ⟨_, _, _, I.fresh, rfl, rfl, List.getElem?_eq_getElem g1, List.getElem?_eq_getElem g2⟩, ?_, fun b hb => ?_⟩
    · exact ⟨b1, sb.extBut _ _ D.TIz (hk _ _ D.TIz D.TITO D.TIi1 D.TIi2 hTI), ⟨_, _, sb.extBut _ _ D.TOz a2⟩, a3.at fun o e => sb.extBut _ o D.i1z e, a4.at fun o e => sb.extBut _ o D.i2z e⟩
    · rw [upd_ne ?_]
      · exact (hf b hb).1
      · simp at hb
        rcases hb with e | e | e | e | e
        · subst e; exact nT hz
        · subst e; exact nT hTI
        · subst e; exact nT hTO
        · subst e; exact Nat.ne_of_lt h1.lt
        · subst e; exact Nat.ne_of_lt h2.lt
  done := by
    intro X hP hw hK hc i pins s σ H E I hf st hg
    subst hP hw hK
    obtain ⟨g1, s1, s2⟩ := hg
    obtain ⟨hz, hTI, ⟨a, b', hTO⟩, h1, h2⟩ := st
    obtain ⟨us, r1, p1⟩ := s1.heap I
    obtain ⟨vs, r2, p2⟩ := s2.heap I
    have e1 := r1.length
    have e2 := r2.length
    refine zipQ_end (I.ok.hd hc) D hz hTI hTO h1 h2 p1 p2 ?_ fun h' hk => ⟨rfl, I.turnedL (t' := s.toks) hf fun c o hc e => ?_⟩
    · rcases g1 with g | g
      · exact .inl (by simp; omega)
      · exact .inr (by simp; omega)
    · simp at hc
      exact hk c o hc.1 hc.2.2.1 hc.2.2.2.1 hc.2.2.2.2 e
  self := fun _ _ _ _ _ st h => wpAny_pyIter_zip st.1 h
section
variable {X : Cx}
/-- zip(xs, ys) -/
def iZip (q1 q2 : Bool) (K : PySem.W.Frag) (ta : TA) : TI := fun σ H R => ta σ H fun vs H1 => ∃ l1 l2 xs ys, vs = [.ref l1, .ref l2] ∧ sqV q1 K H1 l1 xs ∧ sqV q2 K H1 l2 ys ∧ R (Itz q1 q2 K l1 l2 xs ys) H1
theorem pi_zip (q1 q2 : Bool) {elts : List Expr} {kx} {tpos : Pos} {a b : Expr} {ta : TA} {p pos : Pos} (hg : Gl X "zip") (hm : X.mg "zip" = none) (ha : PA X [a, b] ta) (hs : starEach [a, b] X.env = [(false, eval a X.env), (false, eval b X.env)] := by rfl) (hs2 : starEach [b] X.env = [(false, eval b X.env)] := by rfl) :
    PI X (.Tuple elts kx tpos) (.Call (.Name "zip" p) [a, b] [] pos) (iZip q1 q2 X.K ta) := by
  intro pins s σ H R I h
  refine Call_ (ld_blt I hg hm bt_zip (PyProof.Rows.callWith_type1 (thn (ha pos pins s σ H _ I h) fun us s1 ⟨vs, H1, I1, r1, q1⟩ => ?_) (by rw [hs, hs2]) (by rw [hs2]; rfl)))
  obtain ⟨l1, l2, xs, ys, rfl, s1', s2', q⟩ := q1
  obtain ⟨u1, u2, rfl, ru1, ru2⟩ := vals2 r1
  cases ru1
  cases ru2
  obtain ⟨us1, r1, p1⟩ := s1'.heap I1
  obtain ⟨vs1, r2, p2⟩ := s2'.heap I1
  have n1 := p1.lt
  have n2 := p2.lt
  refine call_zipQ p1 p2 fun h' hz hTI hTO h1 h2 kk => ?_
  refine wpAny_pyIter_zip hz ?_
  refine ⟨s1.heap.objs.size + 4, [s1.heap.objs.size + 4, s1.heap.objs.size + 2, s1.heap.objs.size + 3, s1.heap.objs.size, s1.heap.objs.size + 1], _, _, H1, rfl, I1.kept (t' := s1.toks) kk, turn_zip xs ys ⟨?_, ?_, ?_, ?_, ?_, ?_, ?_, ?_, ?_, ?_, ?_, ?_, ?_, ?_, ?_, ?_, ?_, ?_⟩, ⟨hz, hTI, ⟨_, _, hTO⟩, h1, h2⟩, ?_, q⟩
  all_goals first | exact Nat.ne_of_lt (Nat.add_lt_add_left (by decide) _) | exact Nat.ne_of_gt (Nat.add_lt_add_left (by decide) _) | exact Nat.ne_of_lt (Nat.lt_add_of_pos_right (by decide)) | exact Nat.ne_of_gt (Nat.lt_add_of_pos_right (by decide)) | exact Nat.ne_of_lt (Nat.lt_of_lt_of_le n1 (Nat.le_add_right _ _)) | exact Nat.ne_of_lt (Nat.lt_of_lt_of_le n2 (Nat.le_add_right _ _)) | exact Nat.ne_of_lt n1 | exact Nat.ne_of_lt n2 | skip
  intro c hb
  have hb' : s1.heap.objs.size ≤ c := by
    simp at hb
    rcases hb with e | e | e | e | e <;> (rw [e]; first | exact Nat.le_refl _ | exact Nat.le_add_right _ _)
  exact I1.fpOk hb' (I1.hok.fresh hb')
end
/-- the forms one uses: a loop or a comprehension over pairs -/
theorem lc_zip {own : Nat} {ix : List Nat} {σ : St} {q1 q2 : Bool} {K : PySem.W.Frag} {l1 l2 : Addr} {xs ys : List V} {g : TG} {tt : TT} {te : TE} {H1 : Hp} {Q : VK} {D : Addr} (n : Nat) (Pv : Nat → List V → Hp → Prop) (hn : n ≤ sizeLine) (hx : n ≤ xs.length) (hy : n ≤ ys.length) (he : xs.length ≤ n ∨ ys.length ≤ n)
    (h0 : Pv 0 [] (upd H1 D (.lst []))) (hD : ∀ i zs H, i ≤ n → Pv i zs H → H D = some (.lst zs) ∧ zs.length ≤ i ∧ sqV q1 K H l1 xs ∧ sqV q2 K H l2 ys)
    (hs : ∀ i u v zs H2 T, xs[i]? = some u → ys[i]? = some v → i < n → Pv i zs H2 → H2 T = none → g (.ref T) (blkSt own ix σ) (upd H2 T (.tup [u, v])) fun σ2 H4 => σ2.drop own = (ix.map fun i => (σ[i]?).getD none) ∧ tt σ2 H4 fun b H5 => if b = true then te σ2 H5 fun v H6 => H6 D = some (.lst zs) ∧ Pv (i + 1) (zs ++ [v]) (upd H6 D (.lst (zs ++ [v]))) else Pv (i + 1) zs H5)
    (hd : ∀ zs H2, Pv n zs H2 → Q (.ref D) H2) :
    LcW (Itz q1 q2 K l1 l2 xs ys) own ix σ g tt te D H1 Q := by
  refine ⟨fun i m zs H => m = n - i ∧ i ≤ n ∧ Pv i zs H, ⟨n, by simp, Nat.zero_le _, h0⟩, ?_⟩
  rintro i m zs H2 ⟨rfl, hi, p⟩
  obtain ⟨p1, p2, p3, p4⟩ := hD i zs H2 hi p
  refine ⟨p1, ?_⟩
  by_cases hlt : i < n
  · refine .inr ⟨⟨by omega, by omega, p3, p4⟩, by omega, Pv (i + 1), fun ys' H' p' => ⟨n - (i + 1), by omega, rfl, hlt, p'⟩, fun x H3 y => ?_⟩
    obtain ⟨T, u, v, t1, e1, e2, t2, t3⟩ := y
    subst e1 e2
    exact hs i u v zs _ T t2 t3 hlt p t1
  · have e : i = n := by omega
    subst e
    exact .inl ⟨⟨he, p3, p4⟩, hd zs H2 p⟩
theorem for_zip {q1 q2 : Bool} {K : PySem.W.Frag} {l1 l2 : Addr} {xs ys : List V} {g : TG} {tb : TS} {D : Ends} {σ : St} {H : Hp} (n : Nat) (Pv : Nat → St → Hp → Prop) (hx : n ≤ xs.length) (hy : n ≤ ys.length) (he : xs.length ≤ n ∨ ys.length ≤ n)
    (h0 : Pv 0 σ H) (hl : ∀ i σ H, i ≤ n → Pv i σ H → sqV q1 K H l1 xs ∧ sqV q2 K H l2 ys)
    (hs : ∀ i u v σ H T, xs[i]? = some u → ys[i]? = some v → i < n → Pv i σ H → H T = none → g (.ref T) σ (upd H T (.tup [u, v])) fun σ2 H2 => tb { D with nx := Pv (i + 1), ct := Pv (i + 1), bk := D.nx } σ2 H2) (hd : ∀ σ H, Pv n σ H → D.nx σ H) :
    ∃ W : Nat → Nat → St → Hp → Prop, (∃ m, W 0 m σ H) ∧ ∀ i m σ H, W i m σ H →
      ((Itz q1 q2 K l1 l2 xs ys).stop i H ∧ D.nx σ H) ∨ ((Itz q1 q2 K l1 l2 xs ys).go i H ∧ ∃ N : St → Hp → Prop, (∀ σ' H', N σ' H' → ∃ m', m' < m ∧ W (i + 1) m' σ' H') ∧ ∀ x H', (Itz q1 q2 K l1 l2 xs ys).yld i H x H' → g x σ H' fun σ2 H2 => tb { D with nx := N, ct := N, bk := D.nx } σ2 H2) := by
  refine ⟨fun i m σ H => m = n - i ∧ i ≤ n ∧ Pv i σ H, ⟨n, by simp, Nat.zero_le _, h0⟩, ?_⟩
  rintro i m σ H ⟨rfl, hi, p⟩
  obtain ⟨p3, p4⟩ := hl i σ H hi p
  by_cases hlt : i < n
  · refine .inr ⟨⟨by omega, by omega, p3, p4⟩, Pv (i + 1), fun σ' H' p' => ⟨n - (i + 1), by omega, rfl, hlt, p'⟩, fun x H' y => ?_⟩
    obtain ⟨T, u, v, t1, e1, e2, t2, t3⟩ := y
    subst e1 e2
    exact hs i u v σ _ T t2 t3 hlt p t1
  · have e : i = n := by omega
    subst e
    exact .inl ⟨⟨he, p3, p4⟩, hd σ H p⟩
end L2

/-! ### own additions to the layer, 7: any cut of a tuple, any two tuples joined -/
namespace L2
open PySem PySem.Spec PyProof.Rows
theorem same_fresh {H : Hp} {p : Addr} (h : H p = none) (o : HO) : Same H (upd H p o) := fun b u q => by rw [upd_ne (ne_of_none q h)]; exact q
section
variable {prog : Program} {w : World} {A : Around} {E : Value → Shared → Prop} {s : Shared}
theorem cut_whole {t sl : Addr} {items : Array Value} {vl vu : Value} {lo hi : Option Int} {Q : Value → Shared → Prop} (ht : IsTup s.heap t items) (hs : s.heap.IsSliceOf sl vl vu .none) (pl : IsPart vl lo) (pu : IsPart vu hi)
    (hw : HT.sIx items.size 0 lo = 0 ∧ HT.sIx items.size items.size hi = items.size) (h : Q (.ref t) s) : wpAny (model prog w) A (getItem (.ref t) (.ref sl)) Q E s := by
  obtain ⟨os, hos, hcs, hds⟩ := id hs
  have hTs : s.TypeIs (.ref sl) "slice" := ⟨os, hos, hcs⟩
  unfold getItem
  try with_reducible refine wpAny_holding ?_
  first | refine wpAny_bind (wpAny_pure ?_) | skip
  refine wpAny_bind (wpAny_sequenceKey ht.typeIs (by decide) ?_)
  refine wpAny_bind (wpAny_callSpecial?_slot (name := Str.ofString "__getitem__") ht.typeIs PyProof.Rows.slot_tuple_getitem (wpAny_call_entry PyProof.Rows.slot_tuple_getitem ht.typeIs entry_tuple_getitem ?_ (args_tuple_getitem _ _)))
  show wpAny _ _ (Builtin.Tuple.tupleItemsOf (.ref t) >>= _) _ _ s
  refine wpAny_bind (tupleItemsOf_ ht (wpAny_bind (wpAny_typeOf hTs ?_)))
  rw [if_pos (by decide)]
  refine wpAny_bind (HT.sliceApplied_gen hs pl pu ?_)
  show wpAny _ _ (if (((HT.sIx items.size 0 lo : Nat) : Int) == 0 && (1 : Int) == 1 && (HT.sIx items.size items.size hi - HT.sIx items.size 0 lo) == items.size) = true then _ else _) _ _ s
  rw [if_pos (by rw [hw.1, hw.2]; simp)]
  unfold Builtin.Tuple.tupleIsExact
  refine wpAny_bind (wpAny_bind (wpAny_typeOf ht.typeIs (wpAny_pure ?_)))
  rw [if_pos (by decide)]
  exact wpAny_bind (wpAny_rule (wpAny_pure ⟨_, rfl, wpAny_pure h⟩))
end
section
variable {X : Cx}
def rSlG (K : PySem.W.Frag) : V → Option Int → Option Int → Hp → VK → Prop := fun x lo hi H Q => ∃ a xs, x = .ref a ∧ SqT K H a xs ∧ ∀ p H', Same H H' → SqT K H' p (cutV xs lo hi) → Q (.ref p) H'
theorem sl_tupG : SlR X (rSlG X.K) := by
  intro pins s σ H x v vl vu lo hi sl Q I rx hs pl pu h
  obtain ⟨a, xs, rfl, hx, q⟩ := h
  by_cases hw : HT.sIx xs.length 0 lo = 0 ∧ HT.sIx xs.length xs.length hi = xs.length
  · cases rx
    obtain ⟨its, r, ht, hz⟩ := I.tuple hx
    have hlen : its.toArray.size = xs.length := by rw [List.size_toArray]; exact r.length.symm
    refine ⟨"tuple", _, PyProof.Rows.slot_tuple_getitem.lookup, ht.typeIs, cut_whole ht hs pl pu (by rw [hlen]; exact hw) ⟨.ref a, H, I, rfl, q a H (Same.refl _) ?_⟩⟩
    have e : cutV xs lo hi = xs := by unfold cutV; rw [hw.1, hw.2]; simp
    rw [e]; exact hx
  · exact sl_tup pins s σ H _ v vl vu lo hi sl Q I rx hs pl pu ⟨a, xs, rfl, hx, hw, fun p hp => q p _ (same_fresh hp _) (SqT.of upd_same)⟩
def rCatG (K : PySem.W.Frag) : R2 := fun x y H Q => ∃ a b xs ys, x = .ref a ∧ y = .ref b ∧ SqT K H a xs ∧ SqT K H b ys ∧ xs.length + ys.length ≤ sizeLine ∧ ∀ p H', Same H H' → SqT K H' p (xs ++ ys) → Q (.ref p) H'
theorem op_catG : OpR X (binaryOp .Add) (rCatG X.K) := by
  intro pins s σ H x y v u Q I rx ry h
  obtain ⟨a, b, xs, ys, rfl, rfl, ha, hb, hz, q⟩ := h
  by_cases hx : xs = []
  · subst hx
    cases rx
    cases ry
    obtain ⟨its, r1, p1, _⟩ := I.tuple ha
    obtain ⟨its2, r2, p2, _⟩ := I.tuple hb
    cases r1
    obtain ⟨⟨c1, d1, e1, sl1⟩, ho, hc, n, hd⟩ := id p1
    obtain ⟨⟨c2, d2, e2, sl2⟩, ho2, hc2, n2, hd2⟩ := id p2
    simp only at hc hd hc2 hd2
    subst hc hd hc2 hd2
    exact concat_meets ⟨_, ho, rfl⟩ ⟨_, ho2, rfl⟩ noFill_tuple_add seq_tuple_add PySem.F.slot_tuple_add PySem.F.entry_tuple_add (PySem.F.args_tuple_add_2 _ _)
      (tuple_addW0 a b _ its2.toArray n n2 d1 d2 sl1 sl2 (by simp)) ⟨ho, ho2, ⟨.ref b, H, I, rfl, q b H (Same.refl _) hb⟩⟩
  · exact op_catT pins s σ H _ _ v u Q I rx ry ⟨a, b, xs, ys, rfl, rfl, ha, hb, hx, hz, fun e => q a H (Same.refl _) (by rw [e, List.append_nil]; exact ha), fun _ p hp => q p _ (same_fresh hp _) (SqT.of upd_same)⟩
end
end L2

/-! ### own additions to the layer, 8: exceptions of own classes: raised, passed on, caught -/
namespace L2
open PySem PySem.Spec PyProof.Rows
/-- an exception flies out of a call: h0, H ahead of the call, H' behind it, B all objects that rest -/
structure Fly (P : Program) (w : World) (fs : List Env) (H H' : Hp) (h0 B : Heap) (a : Addr) (cls a0 : Value) (h : Heap) : Prop where
  keep : ∀ b o, h0.get? b = some o → H b = none → b ∉ frs fs → B.get? b = some o
  there : ∀ b o, h0.get? b = some o → b ∉ frs fs → ∃ o', B.get? b = some o'
  slot : ∀ b o, h0.get? b = some o → b ∈ frs fs → ∃ sl, h.get? b = some { o with slots := sl }
  free : ∀ b o, h0.get? b = some o → H b = none → H' b = none
  tups : ∀ b xs, H b = some (.tup xs) → H' b = some (.tup xs)
  frzs : ∀ b o u, H b = some (.frz o u) → H' b = some (.frz o u)
  tbls : ∀ b ps, H b = some (.tbl ps) → ∃ more, H' b = some (.tbl (ps ++ more))
  hok : HOk P w H' B
  fly : Heap.FlyingW B fs a cls a0 h
section
variable {P : Program} {w : World} {fs : List Env} {H H' : Hp} {h0 B h h' : Heap} {a : Addr} {cls a0 : Value}
theorem Fly.un (F : Fly P w fs H H' h0 B a cls a0 h) : Un (frs fs) [] H H' h0 h where
  keep := fun b o e n hb _ => F.fly.1 b o (F.keep b o e n hb)
  slot := fun b o e _ hb _ => F.slot b o e hb
  free := fun b o e n _ => F.free b o e n
  there := fun b o e _ => by
    by_cases hb : b ∈ frs fs
    · obtain ⟨sl, q⟩ := F.slot b o e hb
      exact ⟨_, q⟩
    · obtain ⟨o', q⟩ := F.there b o e hb
      exact ⟨o', F.fly.1 b o' q⟩
  tups := F.tups
  frzs := F.frzs
  tbls := F.tbls
theorem Fly.hokh (F : Fly P w fs H H' h0 B a cls a0 h) : HOk P w H' h := F.hok.kept F.fly.1
theorem Fly.new (F : Fly P w fs H H' h0 B a cls a0 h) : H' a = none := by
  cases q : H' a with
  | none => rfl
  | some u =>
    have := (F.hok a u q).lt
    have z := F.fly.2.1
    exact absurd z (by
      intro z
      have e : ∃ o, B.get? a = some o := by
        have ok := F.hok a u q
        cases u with
        | lst xs => obtain ⟨_, _, _, _, e⟩ := ok; exact ⟨_, e⟩
        | tup xs => obtain ⟨_, _, _, o, e, _⟩ := ok; exact ⟨_, e⟩
        | dK kvs => obtain ⟨_, _, _, _, o, _, _, e, _⟩ := ok; exact ⟨_, e⟩
        | dT kvs => obtain ⟨_, _, _, _, o, _, _, e, _⟩ := ok; exact ⟨_, e⟩
        | set S n => obtain ⟨o, _, _, _, e, _⟩ := ok; exact ⟨_, e⟩
        | ins C dx fs => obtain ⟨_, _, _, e, _⟩ := ok; exact ⟨_, e⟩
        | own y => exact ok
        | xd fs => obtain ⟨_, ⟨o, _, _, e, _⟩, _⟩ := ok; exact ⟨_, e⟩
        | rng lo hi => obtain ⟨_, _, _, e⟩ := ok; exact ⟨_, e⟩
        | frz ob u => obtain ⟨e, _⟩ := ok; exact ⟨_, e⟩
        | tbl ps => exact ⟨_, ok⟩
        | met f y => exact ⟨_, ok⟩
        | ext φ => obtain ⟨_, e, _⟩ := ok; exact e
      obtain ⟨o, e⟩ := e
      rw [z] at e
      cases e)
/-- it flies on in the same frames -/
theorem Fly.on (F : Fly P w fs H H' h0 B a cls a0 h) (fl : Heap.FlyingW B fs a cls a0 h') (u : h.UpToSlots h') : Fly P w fs H H' h0 B a cls a0 h' :=
  ⟨F.keep, F.there, fun b o e hb => by
    obtain ⟨sl, q⟩ := F.slot b o e hb
    obtain ⟨_, o', ho', hn⟩ := F.fly.2.2.1.mem hb
    rw [q] at ho'
    have e1 := Option.some.inj ho'
    obtain ⟨sl', q'⟩ := u b _ q (by rw [e1]; exact hn)
    exact ⟨sl', q'⟩, F.free, F.tups, F.frzs, F.tbls, F.hok, fl⟩
end
/-- how an exception of an own class lies behind a call -/
def CX1 (P : Program) (w : World) : CXT := fun outer H s E e s' => ∃ (a C t : Addr) (H' : Hp) (B : Heap), e = .ref a ∧ s'.os = s.os ∧ AllBare s'.gens ∧ Fly P w outer H H' s.heap B a (.ref C) (.ref t) s'.heap ∧ E (.ref C) none H'
/-- what a body wants of an exception that is made here -/
def Rz (X : Cx) (E : XK) : Prop := ∀ (pins : List (Addr × Obj)) (σ : St) (H : Hp) (s : Shared) (h' : Heap) (e C : Addr) (vs : List Value), Inv X pins σ H s → Heap.MadeExcOf s.heap h' e (.ref C) vs → E (.ref C) none H → X.xe (.ref e) { s with heap := h' }
section
variable {P : Program} {w : World} {K : PySem.W.Frag} {mg : Str → Option Value} {base : Heap} {N : List Str} {qual : Str} {scope : Scope} {f : Addr} {cd : Value} {A : Around} {outer : List Env} {s₀ : Shared} {H₀ : Hp} {E : XK}
theorem mem_frs_cons {env : Env} {l : List Env} {L b : Addr} (hf : env.frame = some L) : b ∈ frs (env :: l) ↔ b = L ∨ b ∈ frs l := by
  unfold frs
  rw [List.filterMap_cons, hf]
  exact List.mem_cons
theorem rz_cx : Rz (cxOf (CX1 P w) P w K mg base N qual scope f cd A outer s₀ H₀ E) E := by
  intro pins σ H s h' e C vs I hx hE
  let env := envOfC qual scope s₀.heap.objs.size f cd
  have hf : env.frame = some s₀.heap.objs.size := rfl
  have hst := I.stack
  have hin : ∀ v ∈ (env :: outer), ∀ b, v.frame = some b → b ∈ frs (env :: outer) := fun v hv b hb => List.mem_filterMap.mpr ⟨v, hv, hb⟩
  have hBs : (PySem.W.hideAll s.heap (frs (env :: outer))).StaysIn s.heap := fun b o q => PySem.W.of_hideAll _ q
  have hFF : s.heap.FunFrames (PySem.W.hideAll s.heap (frs (env :: outer))) (env :: outer) := PySem.W.funFrames_hide hst hin
  show wpAny _ _ (leaving env (.ref e)) _ _ _
  refine wpAny_leaves_madeW (s := { s with heap := h' }) (I.ok.frames) hf hBs hFF hx fun h2 t x1 _ _ x4 => ?_
  have ni : ∀ b o, s₀.heap.get? b = some o → b ∉ frs outer → b ∉ frs (env :: outer) := fun b o q nb hb => by
    rcases (mem_frs_cons hf).mp hb with z | z
    · exact absurd (Heap.lt_size q) (by rw [z]; exact Nat.lt_irrefl _)
    · exact nb z
  refine ⟨e, C, t, H, _, rfl, I.os, I.bare, ⟨fun b o q n nb => ?_, fun b o q nb => ?_, fun b o q hb => ?_, fun b o q n => I.base.free b o q n (by intro z; cases z), I.base.tups, I.base.frzs, I.base.tbls, fun b u q => ?_, x1⟩, hE⟩
  · exact PySem.W.hideAll_get _ (I.base.keep b o q n nb (by intro z; cases z)) (ni b o q nb)
  · obtain ⟨o', q'⟩ := I.base.there b o q (by intro z; cases z)
    exact ⟨o', PySem.W.hideAll_get _ q' (ni b o q nb)⟩
  · obtain ⟨sl, q'⟩ := I.base.slot b o q (I.ok.frf b hb) hb (by intro z; cases z)
    obtain ⟨_, o', ho', hn⟩ := hst.mem ((mem_frs_cons hf).mpr (.inr hb))
    rw [q'] at ho'
    have e1 := Option.some.inj ho'
    obtain ⟨sl', q2⟩ := x4 b _ (hx.keeps b _ q') (by rw [e1]; exact hn)
    exact ⟨sl', q2⟩
  · have nf : ∀ c v, H c = some v → c ∉ frs (env :: outer) := fun c v q hb => by
      have := I.stkFree c hb
      rw [this] at q
      cases q
    refine (I.hok b u q).stay (fun c v hc q' => PySem.W.hideAll_get _ q' ?_) (fun _ q' => q') fun _ _ q' => q'
    rcases hc with z | z
    · rw [z]; exact nf b u q
    · exact nf c _ z
theorem passes1 : Passes (CX1 P w) (cxOf (CX1 P w) P w K mg base N qual scope f cd A outer s₀ H₀ E) E := by
  intro pins σ H s e s' I hc
  obtain ⟨a, C, t, H', B, rfl, ho, hb, F, hE⟩ := hc
  let env := envOfC qual scope s₀.heap.objs.size f cd
  have hf : env.frame = some s₀.heap.objs.size := rfl
  have F' : Fly P w (env :: outer) H H' s.heap B a (.ref C) (.ref t) s'.heap := F
  show wpAny _ _ (leaving env (.ref a)) _ _ _
  refine wpAny_leaves_onW (I.ok.frames) hf F'.fly fun h2 x1 x4 => ?_
  have ni : ∀ b o, s₀.heap.get? b = some o → b ∉ frs outer → b ∉ frs (env :: outer) := fun b o q nb hb => by
    rcases (mem_frs_cons hf).mp hb with z | z
    · exact absurd (Heap.lt_size q) (by rw [z]; exact Nat.lt_irrefl _)
    · exact nb z
  refine ⟨a, C, t, H', B, rfl, ho.trans I.os, hb, ⟨fun b o q n nb => ?_, fun b o q nb => ?_, fun b o q hb => ?_, fun b o q n => ?_, fun b xs q => F'.tups b xs (I.base.tups b xs q), fun b o u q => F'.frzs b o u (I.base.frzs b o u q), fun b ps q => ?_, F'.hok, x1⟩, hE⟩
  · exact F'.keep b o (I.base.keep b o q n nb (by intro z; cases z)) (I.base.free b o q n (by intro z; cases z)) (ni b o q nb)
  · obtain ⟨o', q'⟩ := I.base.there b o q (by intro z; cases z)
    exact F'.there b o' q' (ni b o q nb)
  · obtain ⟨sl, q'⟩ := I.base.slot b o q (I.ok.frf b hb) hb (by intro z; cases z)
    obtain ⟨sl2, q2⟩ := F'.slot b _ q' ((mem_frs_cons hf).mpr (.inr hb))
    obtain ⟨_, o', ho', hn⟩ := F'.fly.2.2.1.mem ((mem_frs_cons hf).mpr (.inr hb))
    rw [q2] at ho'
    have e1 := Option.some.inj ho'
    obtain ⟨sl', q3⟩ := x4 b _ q2 (by rw [e1]; exact hn)
    exact ⟨sl', q3⟩
  · obtain ⟨o', q'⟩ := I.base.there b o q (by intro z; cases z)
    exact F'.free b o' q' (I.base.free b o q n (by intro z; cases z))
  · obtain ⟨m1, e1⟩ := I.base.tbls b ps q
    obtain ⟨m2, e2⟩ := F'.tbls b _ e1
    exact ⟨m1 ++ m2, by rw [e2, Array.append_assoc]⟩
/-- a def that may raise: its body as a term of rules -/
theorem Fun.okX {x qual : Str} {st : Stmt} {f : Addr} {fd : FuncData} {N ps : List Str} {k : Nat} {sp : Sp} (F : Fun K x qual st f fd) (S : FnScope N ps (defScope st)) (len : ∀ vs H Q E, sp vs H Q E → vs.length = ps.length)
    (hbody : ∀ (cdv : Value) (A : Around) (outer : List Env) (s : Shared) (H : Hp) (vs : List V) (Q : VK) (E : XK), Room k (A.deeper (envOfC qual (defScope st) s.heap.objs.size f cdv)) → sp vs H Q E →
      ∃ t, PSs (cxOf (CX1 P w) P w K mg base N qual (defScope st) f cdv A outer s H E) (defBody st) t ∧ t { nx := fun _ H' => Q .non H', rt := Q } (start N vs) H) : FnOk P w K mg base (CX1 P w) (k + 1) f fd ps sp := by
  obtain ⟨oc, od, kV, doc, pm, an, cdv, ct, osl, rfl, lk, hcd⟩ := F.ex
  exact fn_of lk hcd S len fun A outer s H vs Q E hr hsp => hbody cdv A outer s H vs Q E hr hsp
end
/-- a def that may raise, called: what it raises is what is wanted here -/
theorem pe_chX {X : Cx} {x : Str} {k : Nat} {ps : List Str} {sp : Sp} {e : Expr} {es : List Expr} {t : TA} {p pos : Pos} {E : XK} (h : Has X.prog X.w X.K X.mg X.base (CX1 X.prog X.w) x k ps sp) (hx : Passes (CX1 X.prog X.w) X E) (hr : Room k X.A) (hg : Gl X x) (ha : PA X (e :: es) t) (hdb : (x == ("__debug__" : Str)) = false := by decide)
    (he : starEach (e :: es) X.env = (false, eval e X.env) :: starEach es X.env := by rfl) (hpl : (backTo pos (starEach es X.env)).any (·.1) = false := by rfl) :
    PE X (.Call (.Name x p) (e :: es) [] pos) (tCall sp [] E t) := by
  obtain ⟨f, fd, F, b, kp, m⟩ := h.ex
  exact pe_call F hr hg m kp b .nil hx ha hdb he hpl
/-- .. where nothing is raised -/
theorem passN {P : Program} {w : World} {X : Cx} : Passes (CX1 P w) X E0 := fun _ _ _ _ _ _ _ ⟨_, _, _, _, _, _, _, _, _, h⟩ => h.elim
/-- the facts of an own class of exceptions -/
theorem exc_of_in {K : PySem.W.Frag} {h : Heap} {C : Addr} {bmB : List Value} {newId : String} (X : K.In h) (q : PySem.W.excIn K C bmB newId = true) :
    ∃ bm N nm qn bs hd sn sub ab col dd k0 k1 k2 k3 k5 mN, h.get? C = some (excClassObj nm qn C N bs bm hd sn sub ab col dd k0 k1 k2 k3 k5 newId) ∧ h.Ns N mN ∧ mN "__init__" = none ∧ OwnTail h bmB bm := by
  unfold PySem.W.excIn at q
  split at q
  · rename_i dd cd sl ho
    split at q
    · rename_i C' bm k0 k1 k2 k3 n k5 hm hs
      simp only [Bool.and_eq_true, beq_iff_eq, Bool.not_eq_true'] at q
      obtain ⟨⟨⟨⟨⟨rfl, rfl⟩, hdel⟩, ht⟩, hok⟩, hni⟩ := q
      obtain ⟨nm, bs, mro, ns, qn, hd, sn, sub, ab, col, del⟩ := cd
      dsimp only at hm hdel hok hni
      subst hm hdel
      have hsl : sl = #[k0, k1, k2, k3, some (.builtin n), k5] := by
        obtain ⟨l⟩ := sl
        simp only at hs
        rw [hs]
      subst hsl
      exact ⟨bm, ns, nm, qn, bs, hd, sn, sub, ab, col, dd, k0, k1, k2, k3, k5, _, X _ _ ho, .of_isNs (PySem.W.isNs_of_in X hok), PySem.W.nsMap_none_of_in X hok hni, PySem.W.tail_of_in X ht⟩
    · cases q
  · cases q
def bmVE : List Value := [.type "ValueError", .type "Exception", .type "BaseException", .type "object"]
section
variable {X : Cx} {x : Str} {C : Addr} {E : XK} {np cpos pos : Pos}
/-- raise C() -/
def tRaise (C : Addr) (E : XK) : TS := fun _ _ H => E (.ref C) none H
theorem ps_raise0 (hz : Rz X E) (hg : Gl X x) (hm : X.mg x = some (.ref C)) (q : PySem.W.excIn X.K C bmVE "ValueError.__new__" = true) (hc : X.calm = true) (hd : (x == ("__debug__" : Str)) = false := by decide) (hpl : backTo cpos (starEach [] X.env) = [] := by rfl) :
    PS X (.Raise (some (.Call (.Name x np) [] [] cpos)) none pos) (tRaise C E) := by
  intro pins s σ H D I h
  obtain ⟨bm, N, nm, qn, bs, hd', sn, sub, ab, col, dd, k0, k1, k2, k3, k5, mN, hC, hn, hi, T⟩ := exc_of_in I.kIn q
  refine wpAny_Raise_call_subU (C := C) (mN := mN) (nm := nm) (q := qn) (N := N) (bs := bs) (bm := bm) (hdct := hd') (sn := sn) (sub := sub) (ab := ab) (col := col) (dd := dd) (k0 := k0) (k1 := k1) (k2 := k2) (k3 := k3) (k5 := k5) F.excBase_ValueError (bmB := bmVE) (by decide) F.excBase_ValueError (T.hasType (X := "BaseException") (b := true) (by decide)) (I.ok.hd hc) (by rw [hpl]; rfl) hi ?_
  refine ld_glob I hg hm ⟨rfl, ?_⟩ hd
  rw [hpl]
  refine PyProof.Rows.evalArgs_none ⟨rfl, by decide, hC, hn, T, fun h' e hx => ?_⟩
  exact hz pins σ H s h' e C [] I hx h
end
end L2

/-! ### own additions to the layer, 9: try: f(..) except C as n: -/
namespace L2
open PySem PySem.Spec PyProof.Rows
/-- a caught exception, as an object that is read -/
def ExcAt (C a : Addr) : Heap → Prop := fun h => ∃ o vs, h.get? a = some o ∧ o.cls = .ref C ∧ o.data = .fields vs
theorem excMatches_K {K : PySem.W.Frag} {M : Model} {A : Around} {E : Value → Shared → Prop} {h : Heap} {g : Array GenState} {d : Drawn} {t : Nat} {os : OsState} {a C CW : Addr} {oe : Obj} {Q : Bool → Shared → Prop} (X : K.In h) (he : h.get? a = some oe) (hcls : oe.cls = .ref C)
    (q : PySem.W.ktsIn K CW "BaseException" = true) (m : PySem.W.mroIn K C (.ref CW) = some true) (hq : Q true ⟨h, g, d, t, os⟩) : wpAny M A (excMatches (.ref a) (.ref CW)) Q E ⟨h, g, d, t, os⟩ := by
  obtain ⟨nm, qn, N, bs, bm, hdct, sn, sub, ab, col, dd, k0, k1, k2, k3, k5, newId, hC, hbase, _⟩ := PySem.W.kts_cls X q
  have hcB : (Value.ref CW :: bm).contains (.type "BaseException") = true := by rw [List.contains_cons, hbase, Bool.or_true]
  have f := tc_notTuple
  have L := PySem.W.looks_mroIn (M := M) X m
  unfold excMatches
  repeat (first | (with_reducible refine wpAny_loadPart_at he ?_; rw [hcls]) | with_reducible refine wpAny_loadPart_at hC ?_ | (with_reducible refine wpAny_isSubtype_exc hC ?_; rw [hcB]) | with_reducible refine L.at ?_ | wp_step)
  exact hq
/-- within an except suite -/
abbrev Cx.hand (X : Cx) (a : Addr) (E : Value → Shared → Prop) : Cx := { X with A := X.A.mark (some (.ref a)), calm := false, xe := E }
section
variable {X : Cx} {pins : List (Addr × Obj)} {σ : St} {H : Hp} {s : Shared}
theorem Inv.hand (I : Inv X pins σ H s) (a : Addr) (E : Value → Shared → Prop) : Inv (X.hand a E) pins σ H s :=
  ⟨⟨I.ok.mod, I.ok.kind, I.ok.glob, I.ok.blt, I.ok.above, I.ok.inj, I.ok.has, I.ok.cab, (fun z => nomatch (show false = true from z)), I.ok.frames, I.ok.stk, I.ok.exf, I.ok.bs, I.ok.bsz, I.ok.noex, I.ok.exfs, I.ok.funs, I.ok.frf⟩, I.os, I.bare, I.base, I.loc, I.cell, I.free, I.freeC, I.pin, I.hok, I.len⟩
theorem Inv.unhand {a : Addr} {E : Value → Shared → Prop} (ok : X.Ok) (I : Inv (X.hand a E) pins σ H s) : Inv X pins σ H s := ⟨ok, I.os, I.bare, I.base, I.loc, I.cell, I.free, I.freeC, I.pin, I.hok, I.len⟩
/-- an untracked object of ours is tracked from now on -/
theorem Inv.adopt {a : Addr} {φ : Heap → Prop} (I : Inv X pins σ H s) (hn : H a = none) (h1 : X.s₀.heap.get? a = none) (hL : a ≠ X.env.locals) (hfs : a ∉ X.fs) (hc : ∀ x c, X.env.cells.lookup x = some c → c ≠ a) (hp : ∀ p ∈ X.pn ++ pins, p.1 ≠ a)
    (ok : φ s.heap ∧ (∃ o, s.heap.get? a = some o) ∧ ∀ u v : Heap, φ u → (∀ o, u.get? a = some o → v.get? a = some o) → φ v) : Inv X pins σ (upd H a (.ext φ)) s := by
  refine ⟨I.ok, I.os, I.bare, ⟨I.base.keep, I.base.slot, fun b o e n hx => ?_, I.base.there, fun b xs e => ?_, fun b o u e => ?_, fun b ps e => ?_⟩, I.loc, I.cell, ?_, fun x c e => ?_, fun p hq => ?_, fun b u e => ?_, I.len⟩
  · rw [upd_ne (fun z => by rw [z, h1] at e; cases e)]
    exact I.base.free b o e n hx
  · have e' := I.base.tups b xs e
    rw [upd_ne (ne_of_none e' hn)]
    exact e'
  · have e' := I.base.frzs b o u e
    rw [upd_ne (ne_of_none e' hn)]
    exact e'
  · obtain ⟨m, e'⟩ := I.base.tbls b ps e
    exact ⟨m, by rw [upd_ne (ne_of_none e' hn)]; exact e'⟩
  · rw [upd_ne (Ne.symm hL)]
    exact I.free
  · rw [upd_ne (hc x c e)]
    exact I.freeC x c e
  · obtain ⟨q1, q2, q3⟩ := I.pin p hq
    exact ⟨q1, by rw [upd_ne (hp p hq)]; exact q2, q3⟩
  · by_cases hb : b = a
    · subst hb; rw [upd_same] at e; cases e; exact ok
    · rw [upd_ne hb] at e
      exact (I.hok b u e).stay (fun _ _ _ q => q) (fun c q => by rw [upd_ne (ne_of_none q hn)]; exact q) fun c xs q => by rw [upd_ne (ne_of_none q hn)]; exact q
/-- the name behind an except suite goes -/
theorem go_ok {M : Model} {A : Around} {E : Value → Shared → Prop} {i : Nat} {n : Str} {pos : Pos} {Q : Unit → Shared → Prop} (I : Inv X pins σ H s) (hN : X.N.Nodup) (hi : X.N[i]? = some n) (hk : X.env.kindOf n = some .local)
    (h : ∀ s', Inv X pins (σ.set i none) H s' → Q () s') : wpAny M A (do bindName X.env n .none; unbindBehindTheSuite X.env n pos) Q E s := by
  obtain ⟨m, hn, hl⟩ := id I.loc
  have hcls : (X.env.scope.kind == .class || (X.env.scope.kind == .module && X.env.locals != X.env.globals)) = false := by rw [I.ok.kind]; rfl
  have hiσ : i < σ.length := by rw [I.len]; exact (List.getElem?_eq_some_iff.mp hi).1
  obtain ⟨oL, _, _, hoL, _⟩ := id hn
  refine wpAny_nameGoes_keeps hk hn hcls fun h' v hn' hs => ?_
  refine h _ ⟨I.ok, I.os, I.bare, ⟨fun b o e n hb hx => ?_, fun b o e n hb hx => ?_, I.base.free, fun b o e hx => ?_, I.base.tups, I.base.frzs, I.base.tbls⟩, ⟨_, hn', fun j y v' e1 e2 e3 => ?_⟩, fun y c e => ?_, I.free, I.freeC, fun p hp => ?_, fun b ob e => ?_, by simpa using I.len⟩
  · exact (hs.2 b (Nat.ne_of_lt (Nat.lt_of_lt_of_le (Heap.lt_size e) I.ok.above))).trans (I.base.keep b o e n hb hx)
  · obtain ⟨sl, e1⟩ := I.base.slot b o e n hb hx
    exact ⟨sl, (hs.2 b (Nat.ne_of_lt (Nat.lt_of_lt_of_le (Heap.lt_size e) I.ok.above))).trans e1⟩
  · obtain ⟨o', e1⟩ := I.base.there b o e hx
    exact ⟨o', (hs.2 b (Nat.ne_of_lt (Nat.lt_of_lt_of_le (Heap.lt_size e) I.ok.above))).trans e1⟩
  · by_cases hj : j = i
    · subst hj
      rw [List.getElem?_set_self hiσ] at e2
      cases e2
    · rw [List.getElem?_set_ne (Ne.symm hj)] at e2
      obtain ⟨u', r', q⟩ := hl j y v' e1 e2 e3
      refine ⟨u', r', ?_⟩
      rcases q with ⟨k, e⟩ | ⟨k, c, e, z⟩
      · refine .inl ⟨k, ?_⟩
        have : y ≠ n := fun e => hj (nodup_ix hN e1 (e ▸ hi))
        simp [this, e]
      · exact .inr ⟨k, c, e, z.sameBut hs (I.cne y c e)⟩
  · obtain ⟨w', z⟩ := I.cell y c e
    exact ⟨w', z.sameBut hs (I.cne y c e)⟩
  · obtain ⟨e, n, ne, nf, d⟩ := I.pin p hp
    exact ⟨(hs.2 p.1 ne).trans e, n, ne, nf, d⟩
  · refine (I.hok b ob e).stay (fun c w' hc q => (hs.2 c ?_).trans q) (fun _ q => q) fun _ _ q => q
    rintro rfl
    rcases hc with rfl | hc
    · rw [I.free] at e; cases e
    · rw [I.free] at hc; cases hc
end
/-- what the suite is given: the exception, its class of own classes under CW -/
def handW (K : PySem.W.Frag) (CW : Addr) (i : Nat) (tb : TS) (D : Ends) (σ : St) : XK := fun cls _ H2 => ∃ C, cls = .ref C ∧ PySem.W.mroIn K C (.ref CW) = some true ∧
  ∀ a, H2 a = none → tb { nx := fun σ' H' => D.nx (σ'.set i none) H', rt := D.rt, bk := fun σ' H' => D.bk (σ'.set i none) H', ct := fun σ' H' => D.ct (σ'.set i none) H' } (σ.set i (some (.ref a))) (upd H2 a (.ext (ExcAt C a)))
section
variable {X : Cx} {CW : Addr} {cx n : Str} {i : Nat} {b₀ : Stmt} {suite : List Stmt} {np hpos pos : Pos} {tb : TS}
/-- the exception is caught here -/
theorem caught1 {pins : List (Addr × Obj)} {σ : St} {H : Hp} {s s1 : Shared} {D : Ends} {e : Value} (hst : X.stack = X.env :: X.outer) (hf : X.env.frame = some X.env.locals) (hg : Gl X cx) (hm : X.mg cx = some (.ref CW)) (q : PySem.W.ktsIn X.K CW "BaseException" = true)
    (hN : X.N.Nodup) (hi : X.N[i]? = some n) (hk : X.env.kindOf n = some .local) (hs : ∀ a E, PSs (X.hand a E) (b₀ :: suite) tb) (hd : (cx == ("__debug__" : Str)) = false) (hex : X.ex = [])
    (I : Inv X pins σ H s) (hc : CX1 X.prog X.w X.stack H s (handW X.K CW i tb D σ) e s1) :
    wpAny (model X.prog X.w) X.A (noteFrame e X.env) (fun _ s₂ => wpAny (model X.prog X.w) X.A (setFlight e none) (fun _ s₃ =>
      wpAny (model X.prog X.w) X.A (handleBy e X.env [.ExceptHandler (some (.Name cx np)) (some n) (b₀ :: suite) hpos]) (SP X pins D) X.xe s₃) X.xe s₂) X.xe s1 := by
  obtain ⟨a, C, t, H', B, rfl, ho, hb, F, C', hC', hsub, hE⟩ := hc
  cases hC'
  have hfr : X.A.frames = some (X.env :: X.outer) := by rw [← hst]; exact I.ok.frames
  have F0 : Fly X.prog X.w (X.env :: X.outer) H H' s.heap B a (.ref C) (.ref t) s1.heap := by rw [← hst]; exact F
  refine wpAny_looks_onW hfr hf F0.fly fun h4 held4 sm4 => wpAny_landsW held4 fun h5 fl5 sm5 => ?_
  have inv : ∀ (h : Heap) (tk : Nat), Heap.FlyingW B (X.env :: X.outer) a (.ref C) (.ref t) h → s1.heap.UpToSlots h → Inv X pins σ H' { s1 with heap := h, toks := tk } := fun h tk fl sm => by
    have Fh := F0.on fl sm
    refine I.call' (ch := []) ho (by rw [hst]; exact Fh.un) Fh.hokh hb (fun b z => nomatch z)
  have I5 := inv h5 s1.toks fl5 (sm4.trans sm5)
  obtain ⟨oe, vs, g1, g2, g3, g4⟩ := fl5.first
  refine wpAny_handleBy_cons (codeAny_handlers_test ?_) (by intro q; cases q)
  refine ld_glob (X := X.hand a fun _ _ => False) (I5.hand a _) hg hm ?_ hd
  refine excMatches_K I5.kIn g1 g2 q hsub (codeAny_handlers_suite_as ?_)
  refine lands_againW fl5 fun h6 fl6 sm6 => ?_
  have I6 := inv h6 s1.toks fl6 ((sm4.trans sm5).trans sm6)
  obtain ⟨oe, vs, g1, g2, g3, g4⟩ := fl6.first
  have nH : H' a = none := F0.new
  have nB : B.get? a = none := fl6.2.1
  have nf : a ∉ frs (X.env :: X.outer) := fun hm => by
    obtain ⟨_, o, ho', hn'⟩ := fl6.2.2.1.mem hm
    rw [g1] at ho'
    cases ho'
    exact hn' _ g3
  have hL : a ≠ X.env.locals := fun z => nf ((mem_frs_cons hf).mpr (.inl z))
  have hfs : a ∉ X.fs := fun z => nf ((mem_frs_cons hf).mpr (.inr z))
  have old : ∀ b o, s.heap.get? b = some o → b ≠ a := fun b o e z => by
    subst z
    obtain ⟨o', e'⟩ := F0.there b o e nf
    rw [nB] at e'
    cases e'
  have h1 : X.s₀.heap.get? a = none := by
    cases e : X.s₀.heap.get? a with
    | none => rfl
    | some o =>
      obtain ⟨o', e'⟩ := I.base.there a o e (by rw [hex]; exact fun z => nomatch z)
      exact absurd rfl (old a o' e')
  have hcc : ∀ x c, X.env.cells.lookup x = some c → c ≠ a := fun x c e z => by
    obtain ⟨v, o, ho', hd'⟩ := I6.cell x c e
    have ho2 : h6.get? c = some o := ho'
    rw [z, g1] at ho2
    cases ho2
    rw [g3] at hd'
    cases hd'
  have hpp : ∀ p ∈ X.pn ++ pins, p.1 ≠ a := fun p hp z => by
    have := (I.pin p hp).1
    exact old _ _ this z
  have I7 := I6.adopt (φ := ExcAt C a) nH h1 hL hfs hcc hpp ⟨⟨oe, vs, g1, g2, g3⟩, ⟨oe, g1⟩, fun u v ⟨o, ws, q1, q2, q3⟩ k => ⟨o, ws, k o q1, q2, q3⟩⟩
  refine store_ok2 I7 hN hi (.inl hk) (v := .ref a) rfl (fun s8 I8 _ => ?_) (.inr hk)
  refine wpAny_mono (hs a _ pins s8 _ _ _ (I8.hand a _) (hE a nH)) (fun fl s9 h9 => ?_) (fun _ _ z => z)
  cases fl with
  | next =>
    obtain ⟨σ', H9, I9, q9⟩ := h9
    exact go_ok (I9.unhand I.ok) hN hi hk fun s' I' => ⟨_, H9, I', q9⟩
  | brk =>
    obtain ⟨σ', H9, I9, q9⟩ := h9
    exact go_ok (I9.unhand I.ok) hN hi hk fun s' I' => ⟨_, H9, I', q9⟩
  | cont =>
    obtain ⟨σ', H9, I9, q9⟩ := h9
    exact go_ok (I9.unhand I.ok) hN hi hk fun s' I' => ⟨_, H9, I', q9⟩
  | ret u =>
    obtain ⟨v, σ', H9, I9, r9, q9⟩ := h9
    exact go_ok (I9.unhand I.ok) hN hi hk fun s' I' => ⟨v, _, H9, I', r9, q9⟩
/-- try: f(e, ..) except C as n: suite -/
def tTryE (K : PySem.W.Frag) (CW : Addr) (i : Nat) (sp : Sp) (t : TA) (tb : TS) : TS := fun D σ H => t σ H fun vs H1 => sp (vs ++ []) H1 (fun _ H2 => D.nx σ H2) (handW K CW i tb D σ)
theorem ps_tryE {x : Str} {k : Nat} {ps : List Str} {sp : Sp} {e : Expr} {es : List Expr} {t : TA} {p cpos epos : Pos} (h : Has X.prog X.w X.K X.mg X.base (CX1 X.prog X.w) x k ps sp) (hr : Room k X.A) (hgf : Gl X x) (ha : ∀ E, PA (X.wish E) (e :: es) t)
    (hg : Gl X cx) (hm : X.mg cx = some (.ref CW)) (q : PySem.W.ktsIn X.K CW "BaseException" = true) (hN : X.N.Nodup) (hi : X.N[i]? = some n) (hk : X.env.kindOf n = some .local) (hs : ∀ a E, PSs (X.hand a E) (b₀ :: suite) tb)
    (hst : X.stack = X.env :: X.outer := by rfl) (hf : X.env.frame = some X.env.locals := by rfl) (hex : X.ex = [] := by rfl) (hd : (cx == ("__debug__" : Str)) = false := by decide) (hdb : (x == ("__debug__" : Str)) = false := by decide)
    (he : starEach (e :: es) X.env = (false, eval e X.env) :: starEach es X.env := by rfl) (hpl : (backTo cpos (starEach es X.env)).any (·.1) = false := by rfl) (hsw : swapsWith (.Call (.Name x p) (e :: es) [] cpos) none epos.line X.env = pure false := by rfl) :
    PS X (.Try [.Expr (.Call (.Name x p) (e :: es) [] cpos) epos] [.ExceptHandler (some (.Name cx np)) (some n) (b₀ :: suite) hpos] [] [] pos) (tTryE X.K CW i sp t tb) := by
  intro pins s σ H D I hw
  obtain ⟨f, fd, F, b, kp, m⟩ := h.ex
  refine wpAny_Try_except ?_
  let Et : Value → Shared → Prop := fun e s₁ => wpAny (model X.prog X.w) X.A (noteFrame e X.env) (fun _ s₂ => wpAny (model X.prog X.w) X.A (setFlight e none) (fun _ s₃ => wpAny (model X.prog X.w) X.A (handleBy e X.env [.ExceptHandler (some (.Name cx np)) (some n) (b₀ :: suite) hpos]) (SP X pins D) X.xe s₃) X.xe s₂) X.xe s₁
  have ev : wpAny (model X.prog X.w) X.A (eval (.Call (.Name x p) (e :: es) [] cpos) X.env) (EP X pins σ fun _ H2 => D.nx σ H2) Et s := by
    refine wpAny_Call_Name_kw (ld_glob I hgf m ?_ hdb)
    refine PySem.W.callWith_K (h₀ := X.base) I.ok.mod.kin kp (thn (ha Et cpos pins s σ H _ (I.wish Et) hw) fun us s1 ⟨vs, H1, I1, r, q1⟩ => ⟨I1.kIn, ?_⟩) he hpl
    have I1' := I1.unwish
    have hl : (us ++ []).length = ps.length := by rw [← (r.append (show Vals [] [] from .nil)).length]; exact F.len _ _ _ _ q1
    refine wpAny_call (codeAny_mono (F.run X.A X.stack s1 H1 ⟨us, []⟩ (us ++ []) (vs ++ []) _ _ hr I1'.env0 (b s1 us I1'.kIn hl) (r.append .nil) q1) fun r s' hq => ?_)
    cases r with
    | error e => exact caught1 hst hf hg hm q hN hi hk hs hd hex I1' hq
    | ok fl =>
      cases fl with
      | ret u => exact I1'.after hq
      | next => exact False.elim hq
      | brk => exact False.elim hq
      | cont => exact False.elim hq
  have st : wpAny (model X.prog X.w) X.A (execs [.Expr (.Call (.Name x p) (e :: es) [] cpos) epos] X.env) (SP X pins D) Et s := by
    refine wpAny_execs_cons (thn (wpAny_Expr_any (Q := SP X pins D) (thn ev fun v s1 ⟨x, H1, I1, r1, q1⟩ => ⟨σ, H1, I1, q1⟩) I.quiet hsw) fun fl s1 h1 => ?_)
    cases fl with
    | next => exact wpAny_execs_nil h1
    | brk => exact h1
    | cont => exact h1
    | ret u => exact h1
  refine wpAny_mono st (fun fl s1 h1 => ?_) fun _ _ z => z
  cases fl with
  | next => exact wpAny_execs_nil h1
  | brk => exact h1
  | cont => exact h1
  | ret u => exact h1
end
end L2

/-! ### own additions to the layer, 9b: isinstance of a caught exception -/
namespace L2
open PySem PySem.Spec PyProof.Rows PySem.W Builtin.Getset_descriptor
structure KX (K : Frag) (C : Addr) : Prop where
  ga : findIn K (.ref C) "__getattribute__" = some (some (.builtin "BaseException.__getattribute__"))
  gh : findIn K (.ref C) "__getattr__" = some none
  cl : findIn K (.ref C) "__class__" = some (some (.builtin "object.__class__"))
  mb : mroIn K C (.type "BaseException") = some true
  mo : mroIn K C (.type "object") = some true
section
variable {prog : Program} {w : World} {A : Around} {E : Value → Shared → Prop} {K : Frag} {a C : Addr} {o : Obj} {h : Heap} {g : Array GenState} {d : Drawn} {t : Nat} {os : OsState}
theorem cget_exc {R : Result → Shared → Prop} (X : K.In h) (k : KX K C) (hx : h.get? a = some o) (hc : o.cls = .ref C) (hq : R (.ok (.ret (.ref C))) ⟨h, g, d, t, os⟩) :
    codeAny (model prog w) A (.call (.builtin "getset_descriptor.__get__") ⟨[.builtin "object.__class__", .ref a, .ref C], []⟩) R ⟨h, g, d, t, os⟩ := by
  have L0 : Looks (model prog w) h (typeOf (.ref a)) (.ref C) := hc ▸ (Looks.ld hx).andThen .now
  have L1 := looks_mroIn (M := model prog w) X k.mo
  refine codeAny_call_builtin KF.slot_gs.plain KF.entry_gs (KF.slot_gs.check _ _ _ _ _ _ _ _ KF.type_class (KF.args_gs _ _ _) ?_)
  unfold Builtin.«getset_descriptor.__get__» descrGet
  rw [dga_obj]
  refine wpAny_bind (wpAny_pure ?_)
  unfold descrGetter descrCheckInstance descrNameAndClass isInstance
  simp only [KF.owner_class]
  repeat lk
  refine ⟨Code.quiet_builtin _ (by decide +kernel), codeAny_builtin KF.entry_class ?_⟩
  unfold Builtin.«object.__class__» shownTypeOf
  repeat lk
  exact hq
theorem cent_exc {tk : Tok} {Q : Fin → Shared → Prop} (X : K.In h) (k : KX K C) (hx : h.get? a = some o) (hc : o.cls = .ref C) (hq : Q (.done (.ret (.ref C))) ⟨h, g, d, t, os⟩) :
    wpAny (model prog w) A (Builtin.«object.__getattribute__» ⟨[.ref a, .str "__class__" tk], []⟩) Q E ⟨h, g, d, t, os⟩ := by
  have L0 : Looks (model prog w) h (typeOf (.ref a)) (.ref C) := hc ▸ (Looks.ld hx).andThen .now
  have L1 := looks_findIn (M := model prog w) X k.cl
  have hT5 : (⟨h, g, d, t, os⟩ : Shared).TypeIs (.builtin "object.__class__") "getset_descriptor" := F.typeOf_object_class
  have f5 := F.typeOf_object_class
  have f6 := F.slot_gs_get.lookup
  have f7 := F.slot_gs_set.lookup
  repeat (any_goals (first | assumption | with_reducible refine L1.at ?_ | (with_reducible refine wpAny_loadPart_at hx ?_; rw [hc]) | wp_step))
  refine cget_exc X k hx hc ?_
  repeat (any_goals (first | assumption | wp_step))
theorem cchk_exc {M : Model} {nameV : Value} {Q : Unit → Shared → Prop} (X : K.In h) (k : KX K C) (hx : h.get? a = some o) (hc : o.cls = .ref C) (hq : Q () ⟨h, g, d, t, os⟩) : wpAny M A (checkBuiltinCall "BaseException.__getattribute__" ⟨[.ref a, nameV], []⟩) Q E ⟨h, g, d, t, os⟩ := by
  have L1 := looks_mroIn (M := M) X k.mb
  have hk : builtinKind "BaseException.__getattribute__" = some .slot := by decide +kernel
  have hsplit : splitId "BaseException.__getattribute__" = some ("BaseException", "__getattribute__") := by decide +kernel
  have ha := F.args_bexc_ga (.ref a) nameV
  simp only [checkBuiltinCall, hk, hsplit]
  refine wpAny_bind ?_
  unfold isInstance
  repeat (first | (with_reducible refine wpAny_loadPart_at hx ?_; rw [hc]) | with_reducible refine L1.at ?_ | wp_step)
  exact hq
theorem cby_exc {tk : Tok} {Q : Value → Shared → Prop} (X : K.In h) (k : KX K C) (hx : h.get? a = some o) (hc : o.cls = .ref C) (hq : Q (.ref C) ⟨h, g, d, t, os⟩) :
    wpAny (model prog w) A (getAttrBy (.ref a) (.str "__class__" tk) false false) Q E ⟨h, g, d, t, os⟩ := by
  have L1 := looks_findIn (M := model prog w) X k.ga
  have L2 := looks_findIn (M := model prog w) X k.gh
  have f3 := F.excAttr_ValueError.ga.bind (.ref a)
  have hx0 : (false && onTheHeap (Value.builtin "BaseException.__getattribute__")) = false := rfl
  have hx2 : (Value.builtin "BaseException.__getattribute__" == Value.builtin "object.__getattribute__") = false := by decide +kernel
  have hx1 : (onTheHeap (Value.ref C) && Value.builtin "BaseException.__getattribute__" == Value.builtin "object.__getattribute__") = false := by rw [hx2]; rfl
  repeat (any_goals (first | assumption | (with_reducible refine wpAny_loadPart_at hx ?_; rw [hc]) | with_reducible refine L1.at ?_ | with_reducible refine L2.at ?_ | wp_step))
  refine codeAny_call_builtin F.excAttr_ValueError.ga.plain F.entry_bexc_ga (cchk_exc X k hx hc (cent_exc X k hx hc ?_))
  repeat (any_goals (first | assumption | wp_step))
theorem cattr_exc {Q : Option Value → Shared → Prop} (X : K.In h) (k : KX K C) (hx : h.get? a = some o) (hc : o.cls = .ref C) (hq : Q (some (.ref C)) ⟨h, g, d, t + 1, os⟩) : wpAny (model prog w) A (getAttr? (.ref a) "__class__") Q E ⟨h, g, d, t, os⟩ := by
  unfold getAttr? getAttrBy?
  repeat (any_goals (first | assumption | with_reducible apply cby_exc X k hx hc | wp_step))
end
theorem kitx_exc {K : Frag} {a C : Addr} {cd : ClassData} (k : KX K C) (hC : clsIn K C = some cd) : KitX K (.ref a) (.ref C) (ExcAt C a) where
  ty := fun _ _ _ ⟨o, _, h1, h2, _⟩ => h2 ▸ (Looks.ld h1).andThen .now
  it := fun _ _ X _ => by
    unfold clsIn at hC
    split at hC
    · rename_i c' d' cd' sl' ho
      intro A' Q' E' s' kk q
      unfold isType loadHead
      exact wpAny_bind (wpAny_loadPart (kk _ _ (X _ _ ho)) (wpAny_pure q))
    · cases hC
  ne := fun h tp dd its n sl X e => by
    refine Bool.eq_false_iff.mpr fun q => ?_
    have z := beq_iff_eq.mp q
    cases z
    unfold clsIn at hC
    split at hC
    · rename_i c' d' cd' sl' ho
      have := X _ _ ho
      rw [e] at this
      cases this
    · cases hC
  ca := fun {_ _ _ _ _ s} X p q => by
    obtain ⟨o, vs, h1, h2, _⟩ := p
    obtain ⟨h, g, d, t, os⟩ := s
    exact cattr_exc X k h1 h2 q
section
variable {X : Cx}
/-- isinstance(e, D) of a caught exception of the class C, D an own class or one of Python's own -/
def rIsiX (K : Frag) : List V → Hp → VK → Prop := fun vs H Q => ∃ a C c D b, vs = [.ref a, c] ∧ H a = some (.ext (ExcAt C a)) ∧ KX K C ∧ hasDictIn K C = true ∧ RelV c D ∧ kitOne K (.ref C) D = some b ∧ Q (.bl b) H
theorem call_isiX : CallR X (.builtin "isinstance") (rIsiX X.K) := by
  intro pins s σ H xs us Q I r h
  obtain ⟨a, C, c, D, b, rfl, hH, hk, hcl, rc, e, q⟩ := h
  obtain ⟨u, w', rfl, rx, rw'⟩ := vals2 r
  cases rx
  have hD : w' = D := by
    cases c <;> simp [RelV] at rc rw' <;> first | (rw [rw', rc]) | (obtain ⟨t1, e1⟩ := rc; obtain ⟨t2, e2⟩ := rw'; subst e1; subst e2; exact absurd e (by simp [kitOne, kitCls]))
  subst hD
  obtain ⟨cd, hcd, _⟩ := any_some hcl
  obtain ⟨p, _, _⟩ := I.hok a _ hH
  exact PySem.W.kia_one (kitx_exc hk hcd) I.kIn p e (fun z => nomatch z) fun tk => ⟨.bl b, H, I.tok tk, rfl, q⟩
end
end L2

/-! ### own additions to the layer, 9c: division by any number of few bits -/
namespace L2
open PySem PySem.Spec PyProof.Rows
def CDivL (_i j : Int) : Prop := j ≠ 0 ∧ j.natAbs < 18446744073709551616
theorem CDivL.ok {i j : Int} (hc : CDivL i j) : Builtin.divisionGoesByPylong i j = false := by
  refine PyProof.noPylong_of_log2 ?_
  have z : j.natAbs ≠ 0 := fun z => hc.1 (Int.natAbs_eq_zero.mp z)
  exact Nat.lt_of_lt_of_le ((Nat.log2_lt z).mpr (show j.natAbs < 2 ^ 64 from hc.2)) (by decide)
theorem op_fdivL {X : Cx} : OpR X (binaryOp .FloorDiv) (rI CDivL fun i j => .int (i.fdiv j)) := opI fun _ _ _ _ _ _ _ hc q => floordiv_int hc.1 q (.inl hc.ok)
end L2

/-! ### own additions to the layer, 9d: what stands behind several ways is shown once -/
namespace L2
theorem cutW {G : Prop} {R : St → Hp → Prop} (P : St → Hp → Prop) (main : (∀ σ' H', P σ' H' → R σ' H') → G) (k : ∀ σ' H', P σ' H' → R σ' H') : G := main k
end L2

/-! ### own additions to the layer, 9e: set([texts]) and its len -/
namespace L2
open PySem PySem.Spec PyProof.Rows
def stepS (σ : List Str) (v : Str) : List Str := if σ.any (· == v) then σ else σ ++ [v]
def metS (val : Nat → Str) (i : Nat) : List Str := ((List.range i).map val).foldl stepS []
theorem metS_succ (val : Nat → Str) (i : Nat) : metS val (i + 1) = stepS (metS val i) (val i) := by
  unfold metS; rw [List.range_succ, List.map_append, List.foldl_append]; rfl
theorem metS_le (val : Nat → Str) : ∀ i, (metS val i).length ≤ i
  | 0 => Nat.le_refl _
  | i + 1 => by
    rw [metS_succ]; unfold stepS
    have ih := metS_le val i
    split
    · omega
    · rw [List.length_append, List.length_singleton]; omega
theorem stepS_any (σ : List Str) (v k : Str) : (stepS σ v).any (· == k) = (σ.any (· == k) || decide (k = v)) := by
  unfold stepS
  by_cases h : σ.any (· == v) = true
  · rw [if_pos h]
    by_cases e : k = v
    · subst e; rw [h]; simp
    · simp [e]
  · rw [if_neg h, List.any_append]
    by_cases e : k = v
    · subst e; simp
    · have hb : (v == k) = false := by simpa [beq_iff_eq] using (fun h' : v = k => e h'.symm)
      simp [hb, e]
theorem stepS_len (σ : List Str) (v : Str) : (stepS σ v).length = if σ.any (· == v) then σ.length else σ.length + 1 := by
  unfold stepS; split <;> simp
section
variable {prog : Program} {w : World} {A : Around} {R : Result → Shared → Prop} {I : Addr} {fp wr : List Addr} {G : Array GenState → Array GenState → Prop} {n : Nat} {P : Nat → Value → Prop} {St : Nat → Shared → Prop}
theorem set_loopS (W : WalksS prog w A.in1 I fp wr G n P St) (S : Addr) (hSf : S ∉ fp)
    (val : Nat → Str) (hval : ∀ i v, P i v → ∃ t, v = .str (val i) t) (hb : n + 1 < scanBound) :
    ∀ (k i : Nat) (s : Shared), n - i = k → i ≤ n → St i s →
      s.heap.SetOf (PySem.strKind prog w) S (fun k' => (metS val i).any (· == k')) (metS val i).length →
      (∀ s', Moved (S :: wr) G s s' → s'.heap.SetOf (PySem.strKind prog w) S (fun k' => (metS val n).any (· == k')) (metS val n).length → R (.ok (.ret .none)) s') →
      codeAny (model prog w) A (.builtin "set.update.loop" ⟨[.ref S, .ref I], []⟩) R s := by
  have hSw : S ∉ wr := fun h => hSf (W.sub _ h)
  have hsub : ∀ b ∈ wr, b ∈ S :: wr := fun b hb => List.mem_cons_of_mem _ hb
  intro k
  induction k with
  | zero =>
    intro i s hk hi hst hS hR
    have hin : i = n := by omega
    subst hin
    refine codeAny_builtin PyProof.Rows.F.entry_set_update_loop ?_
    rw [Around.under_plainId PyProof.Rows.F.plain_set_update_loop _]
    show wpAny _ A.in1 (pyNext (.ref I) >>= _) _ _ s
    refine wpAny_bind (W.done s _ _ hst fun s' hm => ?_)
    show wpAny _ A.in1 (ret Value.none) _ _ s'
    exact wpAny_pure (hR s' (hm.mono hsub) (by
      obtain ⟨o, es, ep, t, ho, rest⟩ := hS
      exact ⟨o, es, ep, t, hm.heap S _ hSw ho, rest⟩))
  | succ k ih =>
    intro i s hk hi hst hS hR
    have hlt : i < n := by omega
    refine codeAny_builtin PyProof.Rows.F.entry_set_update_loop ?_
    rw [Around.under_plainId PyProof.Rows.F.plain_set_update_loop _]
    show wpAny _ A.in1 (pyNext (.ref I) >>= _) _ _ s
    refine wpAny_bind (W.item i s _ _ hlt hst fun v s' hP hst' hm => ?_)
    obtain ⟨t, rfl⟩ := hval i v hP
    have hS' : s'.heap.SetOf (PySem.strKind prog w) S (fun k' => (metS val i).any (· == k')) (metS val i).length := by
      obtain ⟨o, es, ep, tb, ho, rest⟩ := hS
      exact ⟨o, es, ep, tb, hm.heap S _ hSw ho, rest⟩
    show wpAny _ A.in1 (holding [Value.str (val i) t] (setAdd S (.str (val i) t)) >>= _) _ _ s'
    refine wpAny_bind (wpAny_holding ?_)
    unfold setAdd
    refine wpAny_holding ?_
    refine wpAny_bind ((PySem.strKind prog w).pyHash (k := val i) (strKind_is _ _ _ _) ?_)
    have hroom : (metS val i).length + 1 < scanBound := by have := metS_le val i; omega
    refine wpAny_setAddHashed_of (knd := PySem.strKind prog w) (s := { s' with toks := s'.toks + 1 }) (strKind_is _ _ _ _) rfl hS' hroom fun h' hsb hS2 => ?_
    have hSi : h'.SetOf (PySem.strKind prog w) S (fun k' => (metS val (i + 1)).any (· == k')) (metS val (i + 1)).length :=
      PyProof.Rows.SetOf_congr hS2 (fun k' => by rw [metS_succ, stepS_any]) (by rw [metS_succ, stepS_len])
    refine wpAny_pure ⟨plainId_quiet PyProof.Rows.F.plain_set_update_loop _, ih (i + 1) _ (by omega) hlt (W.frame _ s' _ _ hst' (Nat.le_succ _) fun b hb o e => ?_) hSi fun s'' hm'' hS'' => ?_⟩
    · rw [hsb.2 b (fun h : b = S => hSf (by rw [← h]; exact hb))]; exact e
    · refine hR s'' (Moved.trans W.gtrans ((hm.mono hsub).then_heap (Nat.le_succ _) fun b o hb e => ?_) hm'') hS''
      rw [hsb.2 b (fun h : b = S => hb (by rw [h]; exact List.mem_cons_self))]; exact e
end
section
variable {prog : Program} {w : World} {A : Around} {E : Value → Shared → Prop} {s : Shared}
set_option maxHeartbeats 3200000 in
theorem call_set_texts {l : Addr} {items : Array Value} {val : Nat → Str} {Q : Value → Shared → Prop}
    (hh : A.handled = none) (hl : s.heap.IsList l items) (hval : ∀ (i : Nat) (v : Value), items[i]? = some v → ∃ t, v = .str (val i) t) (hb : items.size + 1 < scanBound)
    (h : ∀ (h' : Heap) (tk : Nat), h'.SetOf (PySem.strKind prog w) s.heap.objs.size (fun k' => (metS val items.size).any (· == k')) (metS val items.size).length →
      (∀ b o, b < s.heap.objs.size → s.heap.get? b = some o → h'.get? b = some o) → Q (.ref s.heap.objs.size) { s with heap := h', toks := tk }) :
    wpAny (model prog w) A (call (.type "set") [.ref l]) Q E s := by
  obtain ⟨c, tl, hmro⟩ := PySem.F.called_set.mro
  have hmade := PySem.F.called_set.made
  have hsub := PySem.F.called_set.sub
  refine wpAny_call (codeAny_of_tree ?_)
  show wpAny _ _ (callAny (.type "set") _) _ _ _
  refine wpAny_pure ⟨Code.quiet_builtin _ (by decide +kernel), codeAny_builtin PySem.F.entry_type_call ?_⟩
  rw [Around.under_plain (weight_type_call_type "set" [.ref l] []) rfl]
  have h1 := PySem.F.called_set.notType
  have h2 := PySem.F.called_set.canCreate
  have hct := PySem.F.typeCall_set_1 (.ref l)
  repeat (any_goals (first | assumption | wp_step))
  refine codeAny_mono (code_set_new_1 (.ref l) (E := E) (Q₁ := fun obj s₁ => ∃ led : Bool, obj = .ref s.heap.objs.size ∧ s₁ = { s with heap := s.heap.push { cls := .type "set", dict := none, data := .set #[] 0 (.fresh 0 0 led) } }) fun led => ⟨led, rfl, rfl⟩) fun r s₁ hr => ?_
  cases r with
  | error e => exact hr
  | ok fl =>
    cases fl with
    | ret obj =>
      obtain ⟨led, rfl, rfl⟩ := hr
      have hS : (s.heap.push { cls := .type "set", dict := none, data := .set #[] 0 (.fresh 0 0 led) }).get? s.heap.objs.size = some { cls := .type "set", dict := none, data := .set #[] 0 (.fresh 0 0 led) } := Heap.get?_push_size _ rfl
      have hT : Shared.TypeIs { s with heap := s.heap.push { cls := .type "set", dict := none, data := .set #[] 0 (.fresh 0 0 led) } } (.ref s.heap.objs.size) "set" := ⟨_, hS, rfl⟩
      have hli := PySem.F.called_set.init.lookup
      have hbi := PySem.F.called_set.init.bind (.ref s.heap.objs.size)
      repeat (any_goals (first | assumption | wp_step))
      refine codeAny_mono (codeAny_call_builtin (R := wants (fun r s₂ => r = .none ∧ ∃ h' tk, s₂ = { s with heap := h', toks := tk } ∧
          h'.SetOf (PySem.strKind prog w) s.heap.objs.size (fun k' => (metS val items.size).any (· == k')) (metS val items.size).length ∧
          (∀ b o, b < s.heap.objs.size → s.heap.get? b = some o → h'.get? b = some o)) E) PySem.F.called_set.init.plain PySem.F.entry_set_init (check_set_init_1 hT ?_)) fun r₂ s₂ hr₂ => ?_
      · obtain ⟨ol, hol, hcl, nl, hdl⟩ := hl
        obtain ⟨ocls, odict, odata, oslots⟩ := ol
        simp only at hcl hdl
        subst hcl; subst hdl
        have hol' : (s.heap.push { cls := .type "set", dict := none, data := .set #[] 0 (.fresh 0 0 led) }).get? l = some { cls := .type "list", dict := odict, data := .seq items nl, slots := oslots } := Heap.get?_push_of_some _ hol
        have hsls := PySem.F.sub_list_set
        have hslf := PySem.F.sub_list_frozenset
        have hne : (Value.type "list" == Value.type "dict") = false := by decide
        have hl1 : (s.heap.push { cls := .type "set", dict := none, data := .set #[] 0 (.fresh 0 0 led) }).IsList l items := ⟨_, hol', rfl, nl, rfl⟩
        unfold Builtin.«set.__init__» noKeywords Builtin.Frozenset.updateFrom
        generalize hPI : pyIter = PI
        wp_walk
        subst hPI
        refine wpAny_pyIter_list hl1 ?_
        refine wpAny_bind (wpAny_runValue ?_)
        have hlS : l < s.heap.objs.size := Heap.lt_size hol
        have hh3 : A.in1.in1.in1.handled = none := by simp [hh]
        have hneI : l ≠ (s.heap.push { cls := .type "set", dict := none, data := .set #[] 0 (.fresh 0 0 led) }).objs.size := by
          rw [Heap.size_push]; exact Nat.ne_of_lt (Nat.lt_succ_of_lt hlS)
        have hSf : s.heap.objs.size ∉ [(s.heap.push { cls := .type "set", dict := none, data := .set #[] 0 (.fresh 0 0 led) }).objs.size, l] := by
          rw [Heap.size_push]; simp only [List.mem_cons, List.mem_singleton, List.not_mem_nil, or_false, not_or]
          exact ⟨Nat.ne_of_lt (Nat.lt_succ_self _), Nat.ne_of_gt hlS⟩
        refine set_loopS ((Walks.list hh3 _ l hneI items).toS) s.heap.objs.size
          hSf val hval hb (items.size - 0) 0 _ (by omega) (Nat.zero_le _)
          ⟨⟨_, Heap.get?_push_size _ rfl, rfl, rfl⟩, (hl1.push _)⟩ ?hS0 ?hR
        case hS0 =>
          have hget : ((s.heap.push { cls := .type "set", dict := none, data := .set #[] 0 (.fresh 0 0 led) }).push { cls := .type "list_iterator", data := .fields #[.ref l, .int 0 0] }).get? s.heap.objs.size
              = some { cls := .type "set", dict := none, data := .set #[] 0 (.fresh 0 0 led) } := Heap.get?_push_of_some _ hS
          exact PyProof.Rows.SetOf_congr ((PyProof.Rows.setObjOf_fresh (knd := PySem.strKind prog w) led).setOf hget (by unfold scanBound; omega)) (fun _ => rfl) rfl
        case hR =>
          intro s' hm hS'
          obtain ⟨h', g', d', tk', os'⟩ := s'
          have eg : g' = s.gens := hm.gens
          have ed : d' = s.drawn := hm.drawn
          have eo : os' = s.os := hm.os
          subst eg; subst ed; subst eo
          show wpAny _ _ _ _ _ _
          refine wpAny_pure ?_
          show wpAny _ _ (ret Value.none) _ _ _
          refine wpAny_pure ⟨rfl, h', tk', rfl, hS', fun b o hb e => ?_⟩
          have hb1 : b ≠ s.heap.objs.size := Nat.ne_of_lt hb
          have hb2 : b ≠ (s.heap.push { cls := .type "set", dict := none, data := .set #[] 0 (.fresh 0 0 led) }).objs.size := by
            rw [Heap.size_push]; exact Nat.ne_of_lt (Nat.lt_succ_of_lt hb)
          exact hm.heap b o (by simp only [List.mem_cons, List.mem_singleton, List.not_mem_nil, or_false, not_or]; exact ⟨hb1, hb2⟩) (Heap.get?_push_of_some _ (Heap.get?_push_of_some _ e))
      · cases r₂ with
        | error e => exact hr₂
        | ok fl₂ =>
          cases fl₂ with
          | ret r =>
            obtain ⟨rfl, h', tk, rfl, hS', hk'⟩ := hr₂
            repeat (any_goals (first | assumption | wp_step))
            exact h _ _ hS' hk'
          | _ => exact hr₂.elim
    | _ => exact hr.elim
end
section
variable {X : Cx}
/-- a set of n -/
def SetN (n : Nat) (a : Addr) : Heap → Prop := fun h => ∃ o es ep t, h.get? a = some o ∧ o.ExactSet ∧ o.data = .set es ep t ∧ t.fits es.size = true ∧ es.size = n
/-- set(xs) of texts: a set of as many as differ -/
def rSetS (K : PySem.W.Frag) : List V → Hp → VK → Prop := fun vs H Q => ∃ (p : Addr) (ss : List Str), vs = [.ref p] ∧ SqL K H p (ss.map V.str) ∧ ss.length + 1 < scanBound ∧ ∀ a, H a = none → Q (.ref a) (upd H a (.ext (SetN (ss.foldl stepS []).length a)))
theorem met_list (ss : List Str) : metS (fun i => (ss[i]?).getD default) ss.length = ss.foldl stepS [] := by
  unfold metS
  congr 1
  apply List.ext_getElem?
  intro j
  by_cases hj : j < ss.length
  · simp [hj]
  · simp [hj]
theorem call_setS (hc : X.calm = true) : CallR X (.type "set") (rSetS X.K) := by
  intro pins s σ H xs us Q I r h
  obtain ⟨p, ss, rfl, hS, hb, q⟩ := h
  obtain ⟨u, rfl, ru⟩ := vals1 r
  cases ru
  obtain ⟨its, rv, pl, hz⟩ := I.list hS
  have hlen : its.toArray.size = ss.length := by
    have := rv.length
    simp at this
    simp [this]
  refine call_set_texts (items := its.toArray) (val := fun i => (ss[i]?).getD default) (show X.A.handled = none from I.ok.hd hc) pl.isList (fun i v hv => ?_) (by rw [hlen]; exact hb) fun h' tk hS' hk => ?_
  · have hi : i < ss.length := by
      rw [← hlen]
      exact (Array.getElem?_eq_some_iff.mp hv).1
    obtain ⟨u', hu', ru'⟩ := rv.get (i := i) (x := .str ss[i]) (by rw [List.getElem?_map, List.getElem?_eq_getElem hi]; rfl)
    have e : its[i]? = some v := by simpa using hv
    rw [hu'] at e
    cases e
    obtain ⟨t, rfl⟩ := ru'
    refine ⟨t, ?_⟩
    rw [List.getElem?_eq_getElem hi]
    rfl
  · rw [hlen, met_list] at hS'
    obtain ⟨o, es, ep, t, ho, hex, hd, _, _, _, hf, hn⟩ := hS'
    refine ⟨.ref s.heap.objs.size, _, I.laid (t' := tk) (fun b o e => hk b o (Heap.lt_size e) e) (Nat.le_refl _) (show ObjOk X.prog X.w _ h' _ (.ext (SetN (ss.foldl stepS []).length s.heap.objs.size)) from ⟨⟨o, es, ep, t, ho, hex, hd, hf, hn⟩, ⟨o, ho⟩, ?_⟩), rfl, q _ (I.hok.fresh (Nat.le_refl _))⟩
    rintro u1 u2 ⟨o, es, ep, t, ho, rest⟩ kp
    exact ⟨o, es, ep, t, kp o ho, rest⟩
/-- len of a set -/
def rLenX : List V → Hp → VK → Prop := fun vs H Q => ∃ (a : Addr) (n : Nat), vs = [.ref a] ∧ H a = some (.ext (SetN n a)) ∧ n ≤ sizeLine ∧ Q (.int (n : Int)) H
theorem call_lenX : CallR X (.builtin "len") rLenX := by
  intro pins s σ H xs us Q I r h
  obtain ⟨a, n, rfl, hH, hn, q⟩ := h
  obtain ⟨u, rfl, ru⟩ := vals1 r
  cases ru
  obtain ⟨⟨o, es, ep, t, ho, hex, hd, hf, hsz⟩, _⟩ := I.hok a _ hH
  have h63 := line63
  refine PySem.call_len_set ho hex hd hf (by rw [hsz]; omega) ?_
  rw [hsz]
  exact ⟨.int n, H, I.tok _, ⟨s.toks + 1, rfl⟩, q⟩
theorem stepS_keep : ∀ (ss : List Str) (σ : List Str), (∀ x ∈ σ, x ∈ ss.foldl stepS σ) ∧ (∀ x ∈ ss, x ∈ ss.foldl stepS σ) ∧ σ.length ≤ (ss.foldl stepS σ).length ∧ (ss.foldl stepS σ).length ≤ σ.length + ss.length
  | [], σ => ⟨fun x h => h, (fun x h => nomatch h), Nat.le_refl _, Nat.le_refl _⟩
  | v :: r, σ => by
    obtain ⟨h1, h2, h3, h4⟩ := stepS_keep r (stepS σ v)
    have hm : v ∈ stepS σ v := by
      unfold stepS
      split
      · rename_i z
        obtain ⟨x, hx, e⟩ := List.any_eq_true.mp z
        rw [beq_iff_eq] at e
        exact e ▸ hx
      · simp
    have hs : ∀ x ∈ σ, x ∈ stepS σ v := fun x hx => by
      unfold stepS
      split
      · exact hx
      · simp [hx]
    have hl := stepS_len σ v
    refine ⟨fun x hx => h1 x (hs x hx), fun x hx => ?_, ?_, ?_⟩
    · rcases List.mem_cons.mp hx with e | e
      · rw [e]; exact h1 v hm
      · exact h2 x e
    · show σ.length ≤ (r.foldl stepS (stepS σ v)).length
      split at hl <;> omega
    · show (r.foldl stepS (stepS σ v)).length ≤ σ.length + (v :: r).length
      rw [List.length_cons]
      split at hl <;> omega
theorem stepS_same (x : Str) : ∀ ss : List Str, (∀ y ∈ ss, y = x) → ss.foldl stepS [x] = [x]
  | [], _ => rfl
  | y :: r, h => by
    have e := h y (List.mem_cons_self ..)
    subst e
    show r.foldl stepS (stepS [y] y) = [y]
    have : stepS [y] y = [y] := by unfold stepS; rw [if_pos (by simp)]
    rw [this]
    exact stepS_same y r fun z hz => h z (List.mem_cons_of_mem _ hz)
/-- more than one in the set: they are not all alike -/
theorem stepS_many (x : Str) (ss : List Str) : 1 < ((x :: ss).foldl stepS []).length ↔ ∃ y ∈ ss, y ≠ x := by
  have e0 : (x :: ss).foldl stepS [] = ss.foldl stepS [x] := rfl
  rw [e0]
  constructor
  · intro h
    by_cases z : ∃ y ∈ ss, y ≠ x
    · exact z
    · rw [stepS_same x ss fun y hy => by by_cases e : y = x; exact e; exact absurd ⟨y, hy, e⟩ z] at h
      simp at h
  · rintro ⟨y, hy, ne⟩
    obtain ⟨h1, h2, _⟩ := stepS_keep ss [x]
    have hx := h1 x (by simp)
    have hy := h2 y hy
    match q : ss.foldl stepS [x] with
    | [] => rw [q] at hx; exact nomatch hx
    | [z] =>
      rw [q] at hx hy
      simp at hx hy
      exact absurd (hy.trans hx.symm) ne
    | _ :: _ :: _ => simp
end
end L2

/-! ### own additions to the layer, 9f: text.split(text), text.join(list of texts) -/
namespace L2
open PySem PySem.Spec PyProof.Rows
theorem vals_texts : ∀ l : List (Str × Tok), Vals ((l.map (·.1)).map V.str) (strValues l)
  | [] => .nil
  | (x, t) :: r => .cons ⟨t, rfl⟩ (vals_texts r)
theorem texts_vals : ∀ {ss : List Str} {its : List Value}, Vals (ss.map V.str) its → ∃ l : List (Str × Tok), its = strValues l ∧ l.map (·.1) = ss
  | [], _, r => by cases r; exact ⟨[], rfl, rfl⟩
  | x :: ss, _, r => by
    cases r with
    | cons h t =>
      obtain ⟨k, rfl⟩ := h
      obtain ⟨l, rfl, e⟩ := texts_vals t
      exact ⟨(x, k) :: l, rfl, by rw [List.map_cons, e]⟩
section
variable {X : Cx}
/-- x.split(y): a new list of texts -/
def rSplit : V → List V → Hp → VK → Prop := fun v vs H Q => ∃ x y : Str, v = .str x ∧ vs = [.str y] ∧ (y.length == 0) = false ∧ x.length ≤ sizeLine ∧ (Builtin.Str.partsBetween x (Builtin.Str.occurrences x y 0 x.length (x.length + 1)) y.length).length ≤ sizeLine ∧ (Txt.split x y).length ≤ sizeLine ∧
  ∀ p, H p = none → Q (.ref p) (upd H p (.lst ((Txt.split x y).map V.str)))
theorem mt_split : MtR X "str.split" rSplit := by
  intro pins s σ H v vs u us Q I rx rv h
  obtain ⟨x, y, rfl, rfl, hy, hx, hp, hl, q⟩ := h
  obtain ⟨t, rfl⟩ := rx
  obtain ⟨u, rfl, k, rfl⟩ := vals1 rv
  have fin : ∀ (l : List (Str × Tok)) (tk : Nat), l.map (·.1) = Txt.split x y → EP X pins σ Q (.ref s.heap.objs.size) { s with toks := tk, heap := s.heap.push { cls := .type "list", data := .seq (strValues l).toArray } } := fun l tk e => by
    refine ⟨.ref s.heap.objs.size, _, I.laid (t' := tk) (fun b o e => Heap.get?_push_of_some _ e) (Nat.le_refl _) (show ObjOk X.prog X.w _ _ _ (.lst ((Txt.split x y).map V.str)) from ⟨by rw [List.length_map]; exact hl, strValues l, _, by rw [← e]; exact vals_texts l, Heap.get?_push_size _ rfl⟩), rfl, q _ (I.hok.fresh (Nat.le_refl _))⟩
  cases h1 : (decide (x.length < y.length) || decide (Builtin.Str.strKind x < Builtin.Str.strKind y))
  · cases hf : (Builtin.Str.occurrences x y 0 x.length (x.length + 1)).isEmpty
    · refine call_meets PySem.F.slot_str_split (typeIs_str _ _ _) PySem.F.entry_str_split (PySem.F.args_str_split_2 _ _) (meets_str_split_sep x y t k h1 hy hf hx hp) ?_
      show wants (EP X pins σ Q) X.xe _ { s with toks := _, heap := s.heap.push { cls := .type "list", data := .seq (strsFrom s.toks (Builtin.Str.partsBetween x (Builtin.Str.occurrences x y 0 x.length (x.length + 1)) y.length)).toArray } }
      rw [strsFrom_eq]
      exact fin (numbered s.toks _) _ ((numbered_texts _ _).trans ((if_neg (ne_true_of_eq_false h1)).trans (if_neg (ne_true_of_eq_false hf))).symm)
    · exact call_meets PySem.F.slot_str_split (typeIs_str _ _ _) PySem.F.entry_str_split (PySem.F.args_str_split_2 _ _) (meets_str_split_not_found x y t k h1 hy hf)
        (fin [(x, t)] _ ((if_neg (ne_true_of_eq_false h1)).trans (if_pos hf)).symm)
  · exact call_meets PySem.F.slot_str_split (typeIs_str _ _ _) PySem.F.entry_str_split (PySem.F.args_str_split_2 _ _) (meets_str_split_cannot_occur x y t k h1)
      (fin [(x, t)] _ (if_pos h1).symm)
/-- x.join(list of texts) -/
def rJoin (K : PySem.W.Frag) : V → List V → Hp → VK → Prop := fun v vs H Q => ∃ (x : Str) (p : Addr) (ss : List Str), v = .str x ∧ vs = [.ref p] ∧ SqL K H p (ss.map V.str) ∧ JoinOk x ss = true ∧ Q (.str (Txt.join x ss)) H
theorem mt_join : MtR X "str.join" (rJoin X.K) := by
  intro pins s σ H v vs u us Q I rx rv h
  obtain ⟨x, p, ss, rfl, rfl, hS, hok, q⟩ := h
  obtain ⟨t, rfl⟩ := rx
  obtain ⟨u, rfl, ru⟩ := vals1 rv
  cases ru
  obtain ⟨its, r, pl, hz⟩ := I.list hS
  obtain ⟨l, rfl, e⟩ := texts_vals r
  exact SC.join pl.isList e hok fun t' k => ⟨.str _, H, I.kept (t' := k) fun _ _ e => e, ⟨t', rfl⟩, q⟩
end
end L2

/-! ### own additions to the layer, 9g: tuple.index of a text -/
namespace L2
open PySem PySem.Spec PyProof.Rows
theorem tup_index (t : Addr) (l : List (Str × Tok)) (y : Str) (u : Tok) (j : Nat) (hj : (l.map (·.1))[j]? = some y) (hno : ∀ m, m < j → (l.map (·.1))[m]? ≠ some y) :
    Meets (Builtin.«tuple.index» ⟨[.ref t, .str y u], []⟩) (fun _ R s => IsTup s.heap t (strValues l).toArray ∧ R (.ok (.ret (.int j s.toks))) { s with toks := s.toks + 1 }) := by
  refine Meets.of_wp fun prog w A R s h => ?_
  obtain ⟨hT, h⟩ := h
  have hjl : j < l.length := by
    have := (List.getElem?_eq_some_iff.mp hj).1
    simpa using this
  have hsz : (strValues l).toArray.size = l.length := by simp [strValues]
  unfold Builtin.«tuple.index»
  refine wpAny_bind (m := selfAndSome _ _ _ _ _) ?_
  unfold selfAndSome
  wp_walk
  obtain ⟨o, ho, hcls, n, hd⟩ := hT
  refine wpAny_load ho ?_
  rw [hd]
  refine wpAny_pure (wpAny_pure ?_)
  show wpAny _ _ (forIn [0:min (strValues l).toArray.size (strValues l).toArray.size] (none, ()) _ >>= _) _ _ _
  rw [Nat.min_self, hsz]
  refine wpAny_bind ?_
  rw [Std.Legacy.Range.forIn_eq_forIn_range']
  simp only [Std.Legacy.Range.size, Nat.sub_zero, Nat.add_sub_cancel, Nat.div_one]
  refine wpAny_forIn_list _ (fun rest b s' => ∃ i, s' = s ∧ b = (none, ()) ∧ rest = List.range' i (l.length - i) ∧ i ≤ j) _ ?_ ?_ _ _ ⟨0, rfl, rfl, by simp, Nat.zero_le _⟩
  · rintro x rest b s' ⟨i, rfl, rfl, hr, hi⟩
    have hlt : i < l.length := by omega
    obtain ⟨rfl, hrest⟩ : x = i ∧ rest = List.range' (i + 1) (l.length - (i + 1)) := by
      have e : l.length - i = (l.length - (i + 1)) + 1 := by omega
      rw [e, List.range'_succ] at hr
      injection hr with h1 h2
      exact ⟨h1, h2⟩
    have hx : (strValues l).toArray[x]? = some (.str l[x].1 l[x].2) := by simp [strValues, hlt]
    rw [hx]
    refine wpAny_bind (eqBool_str ?_)
    by_cases e : x = j
    · subst e
      have : l[x].1 = y := by
        rw [List.getElem?_map, List.getElem?_eq_getElem hlt] at hj
        exact Option.some.inj hj
      rw [this, beq_self_eq_true, if_pos rfl]
      unfold retInt
      refine wpAny_bind (wpAny_bind (wpAny_mkInt (wpAny_pure ?_)))
      refine wpAny_pure ?_
      exact wpAny_pure ⟨_, rfl, h⟩
    · have : ¬ l[x].1 = y := fun z => hno x (by omega) (by rw [List.getElem?_map, List.getElem?_eq_getElem hlt, ← z]; rfl)
      rw [beq_eq_false_iff_ne.mpr this, if_neg Bool.false_ne_true]
      exact wpAny_pure ⟨x + 1, rfl, rfl, hrest, by omega⟩
  · rintro b s' ⟨i, rfl, rfl, hr, hi⟩
    exfalso
    have := congrArg List.length hr
    simp at this
    omega
section
variable {X : Cx}
/-- xs.index(x) of a tuple of texts: where it stands first -/
def rTIndex (K : PySem.W.Frag) : V → List V → Hp → VK → Prop := fun v vs H Q => ∃ (p : Addr) (ss : List Str) (y : Str) (j : Nat), v = .ref p ∧ vs = [.str y] ∧ SqT K H p (ss.map V.str) ∧ ss[j]? = some y ∧ (∀ m, m < j → ss[m]? ≠ some y) ∧ Q (.int (j : Int)) H
theorem mt_tindex : MtR X "tuple.index" (rTIndex X.K) := by
  intro pins s σ H v vs u us Q I rx rv h
  obtain ⟨p, ss, y, j, rfl, rfl, hS, hj, hno, q⟩ := h
  cases rx
  obtain ⟨u, rfl, k, rfl⟩ := vals1 rv
  obtain ⟨its, r, pl, hz⟩ := I.tuple hS
  obtain ⟨l, rfl, e⟩ := texts_vals r
  subst e
  have hT : s.TypeIs (.ref p) "tuple" := by
    obtain ⟨o, ho, hc, _⟩ := pl
    exact ⟨o, ho, hc⟩
  exact call_meets PySem.F.slot_tuple_index hT PySem.F.entry_tuple_index (PySem.F.args_tuple_index_2 _ _) (tup_index p l y k j hj hno) ⟨pl, .int j, H, I.tok _, ⟨_, rfl⟩, q⟩
end
end L2

/-! ### own additions to the layer, 9h: enumerate(list) -/
namespace L2
open PySem PySem.Spec PyProof.Rows
/-- a list walked with its places, it stays: a new pair each turn -/
def Ite (K : PySem.W.Frag) (l : Addr) (xs : List V) : It :=
  ⟨fun i H => i < xs.length ∧ SqL K H l xs,
   fun i H x H' => ∃ T v, H T = none ∧ x = .ref T ∧ H' = upd H T (.tup [.int (i : Int), v]) ∧ xs[i]? = some v,
   fun i H => xs.length ≤ i ∧ SqL K H l xs⟩
theorem turn_enum {P : Program} {w : World} {K : PySem.W.Frag} {elts : List Expr} {kx} {pos : Pos} {e it l : Addr} (xs : List V) (hne : e ≠ it) :
    Turn P w K (.Tuple elts kx pos) (Ite K l xs) [e, it] e (fun i h => (∃ old, IsEnum h e it i old) ∧ h.IsListIter it l i) where
  mem := by simp
  obj := fun i h st b hb => by
    obtain ⟨⟨old, he⟩, h1⟩ := st
    simp at hb
    rcases hb with z | z
    · subst z; exact ⟨_, he, fun v z => by cases z⟩
    · subst z; exact (show itAt true h b l i from h1).obj
  keep := fun i h h' st k => by
    obtain ⟨⟨old, he⟩, h1⟩ := st
    exact ⟨⟨old, k e (by simp) _ he⟩, (show itAt true h it l i from h1).at fun o x => k it (by simp) o x⟩
  item := by
    intro X hP hw hK hc i pins s σ H E I hf st hg
    subst hP hw hK
    obtain ⟨g1, s1⟩ := hg
    obtain ⟨⟨old, he⟩, h1⟩ := st
    obtain ⟨us, r1, p1, hz⟩ := I.list s1
    obtain ⟨u, hu, ru⟩ := r1.get (List.getElem?_eq_getElem g1)
    refine wpAny_pyNext_enum_item (x := u) he h1 p1.isList (by simpa using hu) hne fun h' a1 a2 a3 a4 hk => ?_
    refine ⟨_, rfl, wpAny_letOwnedTupleGo_enum a1 fun h'' b1 sb => ?_⟩
    have nT : ∀ {c o}, s.heap.get? c = some o → c ≠ s.heap.objs.size := fun e => Nat.ne_of_lt (Heap.lt_size e)
    have hT := sb.extBut _ _ (nT he).symm a3
    have kk : ∀ c o, c ∉ [e, it] → s.heap.get? c = some o → h''.get? c = some o := fun c o hc x => by
      simp at hc
      exact sb.extBut _ _ hc.1 (hk c o hc.1 hc.2 x)
    refine ⟨.ref s.heap.objs.size, upd H s.heap.objs.size (.tup [.int (i : Int), xs[i]]), I.turnNew hf kk (Nat.le_refl _) ⟨by show 2 ≤ sizeLine; decide, [.int i s.toks, u], .cons ⟨_, rfl⟩ (.cons ru .nil), _, hT, rfl, _, rfl⟩, rfl, ⟨_, _, I.fresh, rfl, rfl, List.getElem?_eq_getElem g1⟩, ?_, fun b hb => ?_⟩
    · exact ⟨⟨_, b1⟩, (show itAt true h' it l (i + 1) from a2).at fun o x => sb.extBut _ o hne.symm x⟩
    · rw [upd_ne ?_]
      · exact (hf b hb).1
      · simp at hb
        rcases hb with z | z
        · subst z; exact nT he
        · subst z; exact Nat.ne_of_lt (show itAt true s.heap b l i from h1).lt
  done := by
    intro X hP hw hK hc i pins s σ H E I hf st hg
    subst hP hw hK
    obtain ⟨g1, s1⟩ := hg
    obtain ⟨⟨old, he⟩, h1⟩ := st
    obtain ⟨us, r1, p1, hz⟩ := I.list s1
    have e1 := r1.length
    refine wpAny_pyNext_enum_end (I.ok.hd hc) he h1 p1.isList (by simp; omega) fun h' hk => ⟨rfl, I.turnedL (t' := s.toks) hf fun c o hc x => ?_⟩
    simp at hc
    exact hk c o hc.2 x
  self := fun _ _ _ _ _ st h => by
    obtain ⟨⟨old, he⟩, _⟩ := st
    exact wpAny_pyIter_enum he h
section
variable {X : Cx}
/-- enumerate(xs) -/
def iEnum (K : PySem.W.Frag) (ta : TA) : TI := fun σ H R => ta σ H fun vs H1 => ∃ l xs, vs = [.ref l] ∧ SqL K H1 l xs ∧ R (Ite K l xs) H1
theorem pi_enum {elts : List Expr} {kx} {tpos : Pos} {a : Expr} {ta : TA} {p pos : Pos} (hg : Gl X "enumerate") (hm : X.mg "enumerate" = none) (ha : PA X [a] ta) (hs : starEach [a] X.env = [(false, eval a X.env)] := by rfl) :
    PI X (.Tuple elts kx tpos) (.Call (.Name "enumerate" p) [a] [] pos) (iEnum X.K ta) := by
  intro pins s σ H R I h
  refine Call_ (ld_blt I hg hm bt_enumerate (PyProof.Rows.callWith_type1 (thn (ha pos pins s σ H _ I h) fun us s1 ⟨vs, H1, I1, r1, q1⟩ => ?_) hs rfl))
  obtain ⟨l, xs, rfl, s1', q⟩ := q1
  obtain ⟨u1, rfl, ru1⟩ := vals1 r1
  cases ru1
  obtain ⟨us1, r1, p1, hz⟩ := I1.list s1'
  refine call_enumerate_list p1.isList fun h' he h1 hsz kk => ?_
  refine wpAny_pyIter_enum he ?_
  refine ⟨s1.heap.objs.size + 1, [s1.heap.objs.size + 1, s1.heap.objs.size], _, _, H1, rfl, I1.kept (t' := s1.toks) kk, turn_enum xs (Nat.ne_of_gt (Nat.lt_succ_self _)), ⟨⟨_, he⟩, h1⟩, ?_, q⟩
  intro c hb
  have hb' : s1.heap.objs.size ≤ c := by
    simp at hb
    rcases hb with e | e <;> (rw [e]; first | exact Nat.le_refl _ | exact Nat.le_add_right _ _)
  exact I1.fpOk hb' (I1.hok.fresh hb')
end
theorem for_enum {K : PySem.W.Frag} {l : Addr} {xs : List V} {g : TG} {tb : TS} {D : Ends} {σ : St} {H : Hp} (Pv : Nat → St → Hp → Prop)
    (h0 : Pv 0 σ H) (hl : ∀ i σ H, i ≤ xs.length → Pv i σ H → SqL K H l xs)
    (hs : ∀ i v σ H T, xs[i]? = some v → Pv i σ H → H T = none → g (.ref T) σ (upd H T (.tup [.int (i : Int), v])) fun σ2 H2 => tb { D with nx := Pv (i + 1), ct := Pv (i + 1), bk := D.nx } σ2 H2) (hd : ∀ σ H, Pv xs.length σ H → D.nx σ H) :
    ∃ W : Nat → Nat → St → Hp → Prop, (∃ m, W 0 m σ H) ∧ ∀ i m σ H, W i m σ H →
      ((Ite K l xs).stop i H ∧ D.nx σ H) ∨ ((Ite K l xs).go i H ∧ ∃ N : St → Hp → Prop, (∀ σ' H', N σ' H' → ∃ m', m' < m ∧ W (i + 1) m' σ' H') ∧ ∀ x H', (Ite K l xs).yld i H x H' → g x σ H' fun σ2 H2 => tb { D with nx := N, ct := N, bk := D.nx } σ2 H2) := by
  refine ⟨fun i m σ H => m = xs.length - i ∧ i ≤ xs.length ∧ Pv i σ H, ⟨xs.length, by simp, Nat.zero_le _, h0⟩, ?_⟩
  rintro i m σ H ⟨rfl, hi, p⟩
  have p3 := hl i σ H hi p
  by_cases hlt : i < xs.length
  · refine .inr ⟨⟨hlt, p3⟩, Pv (i + 1), fun σ' H' p' => ⟨xs.length - (i + 1), by omega, rfl, hlt, p'⟩, fun x H' y => ?_⟩
    obtain ⟨T, v, t1, e1, e2, t2⟩ := y
    subst e1 e2
    exact hs i v σ H T t2 p t1
  · have e : i = xs.length := by omega
    subst e
    exact .inl ⟨⟨Nat.le_refl _, p3⟩, hd σ H p⟩
end L2

/-! ### own additions to the layer, 9i: the empty dict -/
namespace L2
open PySem PySem.Spec PyProof.Rows
section
variable {X : Cx}
/-- {} : a new dict -/
def tDct0 : TE := fun _ H Q => ∀ p, H p = none → Q (.ref p) (upd H p (.ext (DctAt p)))
theorem pe_dct0 {pos : Pos} : PE X (.Dict [] [] pos) tDct0 := by
  intro pins s σ H Q I h
  refine wpAny_Dict_empty ?_
  have hg : (s.heap.push { cls := .type "dict", data := .dict #[] }).get? s.heap.objs.size = some { cls := .type "dict", data := .dict #[] } := Heap.get?_push_size _ rfl
  refine ⟨.ref s.heap.objs.size, _, I.laid (t' := s.toks) (fun b o e => Heap.get?_push_of_some _ e) (Nat.le_refl _) (show ObjOk X.prog X.w _ _ _ (.ext (DctAt s.heap.objs.size)) from ⟨⟨_, hg, rfl⟩, ⟨_, hg⟩, ?_⟩), rfl, h _ (I.hok.fresh (Nat.le_refl _))⟩
  rintro u1 u2 ⟨o, ho, hc⟩ kp
  exact ⟨o, kp o ho, hc⟩
theorem TyV.same {K : PySem.W.Frag} {H H' : Hp} {v : V} {t : String} (e : Same H H') (h : TyV K H v t) : TyV K H' v t := by
  cases h with
  | non => exact .non
  | bl b => exact .bl b
  | int i => exact .int i
  | str x => exact .str x
  | lst h => exact .lst (e.seq h)
  | tup h => exact .tup (e.tup h)
  | dct h => exact .dct (e _ _ h)
end
end L2

/-! ### own additions to the layer, 9j: a tuple times an int -/
namespace L2
open PySem PySem.Spec PyProof.Rows
theorem noFill_tuple_mul : fillsNumberSlot (.type "tuple") "mul" = pure false :=
  PySem.fillsNumberSlot_seq (id := "tuple.__mul__") (r := some (.builtin "tuple.__rmul__")) F.slot_tuple_mul.lookup (by decide +kernel) F.slot_tuple_rmul.lookup (by decide +kernel)
theorem repeat_tuple : seqRepeat? (.type "tuple") = pure (some (.builtin "tuple.__mul__")) := by
  unfold seqRepeat?
  rw [PySem.seqSlot_of (T := "tuple") (name := "__mul__") (id := "tuple.__mul__") F.slot_tuple_mul.lookup (by decide +kernel), PySem.seqSlot_of (T := "tuple") (name := "__rmul__") (id := "tuple.__rmul__") F.slot_tuple_rmul.lookup (by decide +kernel)]
  rfl
theorem int_rmul_tup (a : Int) (t : Tok) (l : Addr) (items : Array Value) (n : Nat) (d : Option Addr) (sl : Array (Option Value)) :
    Meets (Builtin.«int.__rmul__» ⟨[.int a t, .ref l], []⟩) (fun _ R s => s.heap.get? l = some { cls := .type "tuple", dict := d, data := .seq items n, slots := sl } ∧ R (.ok (.ret Value.notImplemented)) s) :=
  .of_wp fun prog w A R s h => by obtain ⟨hp, g, dd, tk, os⟩ := s; obtain ⟨hl, h⟩ := h; wp_walk; exact ⟨_, rfl, h⟩
theorem tup_mul_one (l : Addr) (items : Array Value) (n : Nat) (x : Int) (u : Tok) (d : Option Addr) (sl : Array (Option Value)) (h1 : x = 1) :
    Meets (Builtin.«tuple.__mul__» ⟨[.ref l, .int x u], []⟩) (fun _ R s => s.heap.get? l = some { cls := .type "tuple", dict := d, data := .seq items n, slots := sl } ∧ R (.ok (.ret (.ref l))) s) :=
  .of_wp fun prog w A R s h => by obtain ⟨hp, g, dd, tk, os⟩ := s; obtain ⟨hl, h⟩ := h; subst h1; wp_walk; exact ⟨_, rfl, h⟩
theorem tup_mul_none (l : Addr) (items : Array Value) (n : Nat) (x : Int) (u : Tok) (d : Option Addr) (sl : Array (Option Value)) (c1 : (decide (x < -(2 ^ 63)) || decide (x ≥ 2 ^ 63)) = false) (c2 : (items.isEmpty || x == 1) = false) (c3 : (decide (x ≤ 0) || items.isEmpty) = true) :
    Meets (Builtin.«tuple.__mul__» ⟨[.ref l, .int x u], []⟩) (fun _ R s => s.heap.get? l = some { cls := .type "tuple", dict := d, data := .seq items n, slots := sl } ∧ R (.ok (.ret (.ref s.heap.objs.size))) { s with heap := s.heap.push { cls := Value.type "tuple", data := Data.seq #[] }, toks := s.toks }) :=
  .of_wp fun prog w A R s h => by
    obtain ⟨hp, g, dd, tk, os⟩ := s; obtain ⟨hl, h⟩ := h
    wp_walk; refine wpAny_ite_false (decide_eq_false (by rw [c1]; decide)) ?_; wp_walk; exact ⟨_, rfl, h⟩
theorem tup_mul_many (l : Addr) (items : Array Value) (n : Nat) (x : Int) (u : Tok) (d : Option Addr) (sl : Array (Option Value)) (c1 : (decide (x < -(2 ^ 63)) || decide (x ≥ 2 ^ 63)) = false) (c2 : (items.isEmpty || x == 1) = false) (c3 : (decide (x ≤ 0) || items.isEmpty) = false) (c4 : ¬ (items.size : Int) * x > (2 ^ 63 - 1) / 8) (c5 : Builtin.Tuple.tupleTooMany ((items.size : Int) * x) = false)
    (hs : (List.foldl (fun x1 x2 => x1 ++ x2) #[] (List.replicate x.toNat items)).size ≤ sizeLine) :
    Meets (Builtin.«tuple.__mul__» ⟨[.ref l, .int x u], []⟩) (fun _ R s => s.heap.get? l = some { cls := .type "tuple", dict := d, data := .seq items n, slots := sl } ∧ R (.ok (.ret (.ref s.heap.objs.size))) { s with heap := s.heap.push { cls := Value.type "tuple", data := Data.seq (List.foldl (fun x1 x2 => x1 ++ x2) #[] (List.replicate x.toNat items)) }, toks := s.toks }) :=
  .of_wp fun prog w A R s h => by
    obtain ⟨hp, g, dd, tk, os⟩ := s; obtain ⟨hl, h⟩ := h
    wp_walk; refine wpAny_ite_false (decide_eq_false (by rw [c1]; decide)) ?_; wp_walk; refine wpAny_ite_false (decide_eq_false c4) ?_; wp_walk; exact ⟨_, rfl, h⟩
section
variable {X : Cx}
/-- a tuple times an int -/
def rRepT (K : PySem.W.Frag) : R2 := fun x y H Q => ∃ a xs k, x = .ref a ∧ y = .int k ∧ SqT K H a xs ∧ xs ≠ [] ∧ -9223372036854775808 ≤ k ∧ k < 9223372036854775808 ∧ xs.length * k.toNat ≤ sizeLine ∧ ∀ p H', Same H H' → SqT K H' p (List.replicate k.toNat xs).flatten → Q (.ref p) H'
theorem op_repT : OpR X (binaryOp .Mult) (rRepT X.K) := by
  intro pins s σ H x y v u Q I rx ry h
  obtain ⟨a, xs, k, rfl, rfl, ha, hx, h1, h2, hz, q⟩ := h
  cases rx
  obtain ⟨t, rfl⟩ := ry
  obtain ⟨its, r1, p1, hsz⟩ := I.tuple ha
  obtain ⟨⟨c1, d1, e1, sl1⟩, ho, hc, n, hd⟩ := id p1
  simp only at hc hd
  subst hc hd
  have hlen : its.toArray.size = xs.length := by rw [List.size_toArray]; exact r1.length.symm
  have b1 : (decide (k < -(2 ^ 63)) || decide (k ≥ 2 ^ 63)) = false := by simp; omega
  have go : wpAny (model X.prog X.w) X.A (call (.builtin "tuple.__mul__") [.ref a, .int k t]) (EP X pins σ Q) X.xe s := by
    by_cases hk1 : k = 1
    · refine call_meets F.slot_tuple_mul ⟨_, ho, rfl⟩ F.entry_tuple_mul (F.args_tuple_mul_2 _ _) (tup_mul_one a its.toArray n k t d1 sl1 hk1) ⟨ho, ?_⟩
      refine ⟨.ref a, H, I, rfl, q a H (Same.refl _) ?_⟩
      subst hk1
      show SqT X.K H a (xs ++ [])
      rw [List.append_nil]
      exact ha
    · have hne : ¬ its.toArray.isEmpty = true := by
        intro z
        apply hx
        rw [Array.isEmpty_iff_size_eq_zero, hlen] at z
        exact List.length_eq_zero_iff.mp z
      have b2 : (its.toArray.isEmpty || k == 1) = false := by
        refine Bool.eq_false_iff.mpr ?_
        show ¬ _
        rw [Bool.or_eq_true]
        rintro (z | z)
        · exact hne z
        · exact hk1 (by simpa using z)
      by_cases hk0 : k ≤ 0
      · refine call_meets F.slot_tuple_mul ⟨_, ho, rfl⟩ F.entry_tuple_mul (F.args_tuple_mul_2 _ _) (tup_mul_none a its.toArray n k t d1 sl1 b1 b2 (by simp [hk0])) ⟨ho, ?_⟩
        refine ⟨.ref s.heap.objs.size, _, I.laid (t' := s.toks) (o := .tup []) (fun b ob q => Heap.get?_push_of_some _ q) (Nat.le_refl _) ⟨by simp, [], .nil, IsTup.new _ _⟩, rfl, q _ _ (same_fresh (I.hok.fresh (Nat.le_refl _)) _) (SqT.of ?_)⟩
        rw [show k.toNat = 0 by omega]
        exact upd_same
      · have b3 : (decide (k ≤ 0) || its.toArray.isEmpty) = false := by
          refine Bool.eq_false_iff.mpr ?_
          show ¬ _
          rw [Bool.or_eq_true]
          rintro (z | z)
          · exact hk0 (of_decide_eq_true z)
          · exact hne z
        have hprod : (its.toArray.size : Int) * k = ((xs.length * k.toNat : Nat) : Int) := by
          rw [hlen, Int.natCast_mul, show ((k.toNat : Nat) : Int) = k by omega]
        have hcap : (sizeLine : Nat) ≤ (2 ^ 63 - 1) / 8 := by decide
        have hfold : List.foldl (fun x1 x2 => x1 ++ x2) #[] (List.replicate k.toNat its.toArray) = (List.replicate k.toNat its).flatten.toArray := by
          have := foldl_rep its k.toNat []
          rw [List.nil_append] at this
          exact this
        have hfl : (List.replicate k.toNat its).flatten.length = k.toNat * its.length := len_rep its k.toNat
        have hitl : its.length = xs.length := by rw [← hlen, List.size_toArray]
        refine call_meets F.slot_tuple_mul ⟨_, ho, rfl⟩ F.entry_tuple_mul (F.args_tuple_mul_2 _ _) (tup_mul_many a its.toArray n k t d1 sl1 b1 b2 b3 (by rw [hprod]; clear hprod; generalize xs.length * k.toNat = N at hz; omega) (by unfold Builtin.Tuple.tupleTooMany; rw [hprod]; clear hprod; generalize xs.length * k.toNat = N at hz; exact decide_eq_false (by omega)) (by rw [hfold, List.size_toArray, hfl, hitl, Nat.mul_comm]; exact hz)) ⟨ho, ?_⟩
        rw [hfold]
        refine ⟨.ref s.heap.objs.size, _, I.laid (t' := s.toks) (o := .tup (List.replicate k.toNat xs).flatten) (fun b ob q => Heap.get?_push_of_some _ q) (Nat.le_refl _) ⟨by rw [len_rep, Nat.mul_comm]; exact hz, _, r1.rep k.toNat, IsTup.new _ _⟩, rfl, q _ _ (same_fresh (I.hok.fresh (Nat.le_refl _)) _) (SqT.of upd_same)⟩
  exact wpAny_binaryOp_repeat_ref (T := "tuple") (U := "int") (by decide) ⟨_, ho, rfl⟩ (fun s' => typeIs_int s' k t) noFill_tuple_mul F.fills_int_mul F.slot_int_rmul repeat_tuple F.slot_int_index.lookup
    (call_meets F.slot_int_rmul (typeIs_int s k t) F.entry_int_rmul (F.args_int_rmul_2 _ _) (int_rmul_tup k t a its.toArray n d1 sl1) ⟨ho, rfl, ⟨_, ho, rfl⟩, go⟩)
end
end L2

/-! ### own additions to the layer, 9k: range with a step above nought -/
namespace L2
open PySem PySem.Spec PyProof.Rows
def Its (lo st : Int) (n : Nat) : It := ⟨fun i _ => i < n, fun i H x H' => H' = H ∧ x = .int (lo + i * st), fun i _ => n ≤ i⟩
theorem turn_rangeS {P : Program} {w : World} {K : PySem.W.Frag} {tg : Expr} (it : Addr) (lo c : Int) (n : Nat) : Turn P w K tg (Its lo c n) [it] it (fun i h => IsRangeIter h it (lo + (i : Nat) * c) ((n : Int) - (i : Nat)) c) where
  mem := by simp
  obj := fun i h st b hb => by
    have e : b = it := by simpa using hb
    subst e
    exact ⟨_, st, fun v z => by
      have z' : Data.fields _ = Data.cell v := z
      cases z'⟩
  keep := fun i h h' st k => k it (by simp) _ st
  item := by
    intro X hP hw hK hc i pins s σ H E I hf st hg
    subst hP hw hK
    obtain ⟨f0, f1, f2, f3, f4, f5⟩ := hf it (by simp)
    have W := Walks.range (prog := X.prog) (w := X.w) (I.ok.hd hc) it lo c n
    refine W.item i s _ _ hg st fun v h' tk hv st' kk => ?_
    obtain ⟨t, rfl⟩ := hv
    have I1 : Inv X pins σ H { s with heap := h', toks := tk } := I.turned (fun b o hb e => kk b o (by simpa using hb) e) f0 f1 f3 f4 f5
    exact ⟨_, rfl, go_of (s := { s with heap := h', toks := tk }) (n := "range_iterator") st' rfl rfl (by decide) ⟨.int (lo + i * c), H, I1, ⟨t, rfl⟩, ⟨rfl, rfl⟩, st', fun b hb => (hf b hb).1⟩⟩
  done := by
    intro X hP hw hK hc i pins s σ H E I hf st hg
    subst hP hw hK
    obtain ⟨f0, f1, f2, f3, f4, f5⟩ := hf it (by simp)
    exact wpAny_pyNext_range_end (I.ok.hd hc) st (by have : n ≤ i := hg; omega) fun h' eb => ⟨rfl, I.turned (t' := s.toks) (fun b o hb e => eb b o hb e) f0 f1 f3 f4 f5⟩
  self := fun _ _ _ _ _ st h => wpAny_pyIter_rangeiter st h
section
variable {X : Cx} {tg : Expr}
theorem rangeS_it {pins : List (Addr × Obj)} {σ : St} {H : Hp} {s : Shared} {R : It → Hp → Prop} {E : Value → Shared → Prop} {lo hi c : Int} {t u v : Tok} {tk : Nat} (I : Inv X pins σ H s) (hs : Builtin.Range.small lo hi c = true) (h0 : 0 ≤ Builtin.Range.rangeSize lo hi c)
    (q : R (Its lo c (Builtin.Range.rangeSize lo hi c).toNat) H) : wpAny (model X.prog X.w) X.A (pyIter (.ref s.heap.objs.size)) (PIE X pins σ tg R) E { s with heap := s.heap.push { cls := .type "range", data := .fields #[.int lo t, .int hi u, .int c v] }, toks := tk } := by
  refine wpAny_pyIter_range (IsRange.new ..) hs ?_
  have I1 : Inv X pins σ H { s with heap := s.heap.push { cls := .type "range", data := .fields #[.int lo t, .int hi u, .int c v] }, toks := tk } := I.kept fun b o e => Heap.get?_push_of_some _ e
  refine ⟨(s.heap.push { cls := .type "range", data := .fields #[.int lo t, .int hi u, .int c v] }).objs.size, [(s.heap.push { cls := .type "range", data := .fields #[.int lo t, .int hi u, .int c v] }).objs.size], _, _, H, rfl,
    I1.kept (t' := tk) fun b o e => Heap.get?_push_of_some _ e, turn_rangeS _ lo c (Builtin.Range.rangeSize lo hi c).toNat, ?_, fun b hb => ?_, q⟩
  · have e1 : lo + ((0 : Nat) : Int) * c = lo := by simp
    have e2 : (((Builtin.Range.rangeSize lo hi c).toNat : Nat) : Int) - ((0 : Nat) : Int) = Builtin.Range.rangeSize lo hi c := by omega
    show IsRangeIter _ _ (lo + ((0 : Nat) : Int) * c) ((((Builtin.Range.rangeSize lo hi c).toNat : Nat) : Int) - ((0 : Nat) : Int)) c
    rw [e1, e2]
    exact Heap.get?_push_size _ rfl
  · have e : b = (s.heap.push { cls := .type "range", data := .fields #[.int lo t, .int hi u, .int c v] }).objs.size := by simpa using hb
    subst e
    exact I1.fpOk (Nat.le_refl _) (I1.hok.fresh (Nat.le_refl _))
theorem sizeS {lo hi c : Int} (h1 : 0 ≤ lo) (h2 : lo < 1000000) (h3 : 0 ≤ hi) (h4 : hi < 1000000) (h5 : 0 < c) (h6 : c < 1000000) : 0 ≤ Builtin.Range.rangeSize lo hi c ∧ Builtin.Range.rangeSize lo hi c < 1000001 ∧ Builtin.Range.small lo hi c = true := by
  have e : Builtin.Range.rangeSize lo hi c = if lo < hi then (hi - lo - 1) / c + 1 else 0 := by
    unfold Builtin.Range.rangeSize
    rw [if_pos h5]
  have b : 0 ≤ Builtin.Range.rangeSize lo hi c ∧ Builtin.Range.rangeSize lo hi c < 1000001 := by
    rw [e]
    split
    · have a1 := Int.ediv_nonneg (show 0 ≤ hi - lo - 1 by omega) (show 0 ≤ c by omega)
      have a2 := Int.ediv_le_self c (show 0 ≤ hi - lo - 1 by omega)
      omega
    · omega
  refine ⟨b.1, b.2, ?_⟩
  unfold Builtin.Range.small
  simp only [Builtin.Range.rangeFitsLong, Bool.and_eq_true, Bool.or_eq_true, decide_eq_true_eq, beq_iff_eq, if_pos h5]
  omega
/-- three small numbers, the step above nought -/
def iRng3 (ta : TA) : TI := fun σ H R => ta σ H fun vs H1 => ∃ i j c : Int, vs = [.int i, .int j, .int c] ∧ (0 ≤ i ∧ i < 1000000 ∧ 0 ≤ j ∧ j < 1000000 ∧ 0 < c ∧ c < 1000000) ∧ R (Its i c (Builtin.Range.rangeSize i j c).toNat) H1
theorem pi_range3 {a b d : Expr} {ta : TA} {p pos : Pos} (hg : Gl X "range") (hm : X.mg "range" = none) (ha : PA X [a, b, d] ta) (hs : starEach [a, b, d] X.env = [(false, eval a X.env), (false, eval b X.env), (false, eval d X.env)] := by rfl) (hs2 : starEach [b, d] X.env = [(false, eval b X.env), (false, eval d X.env)] := by rfl) :
    PI X tg (.Call (.Name "range" p) [a, b, d] [] pos) (iRng3 ta) := by
  intro pins s σ H R I h
  refine Call_ (ld_blt I hg hm boot_range (PyProof.Rows.callWith_type1 (thn (ha pos pins s σ H _ I h) fun us s1 ⟨vs, H1, I1, r1, q1⟩ => ?_) (by rw [hs, hs2]) (by rw [hs2]; rfl)))
  obtain ⟨i, j, c, e, ⟨q1, q2, q3, q4, q5, q6⟩, q⟩ := q1
  subst e
  cases r1 with
  | cons r rr =>
    cases rr with
    | cons r' rr =>
      cases rr with
      | cons r'' rr =>
        cases rr
        obtain ⟨t, rfl⟩ := r
        obtain ⟨t', rfl⟩ := r'
        obtain ⟨t'', rfl⟩ := r''
        obtain ⟨z1, z2, z3⟩ := sizeS q1 q2 q3 q4 q5 q6
        exact call_range_3 (by omega) (rangeS_it I1 z3 z1 q) (.inl (PyProof.noPylong_small (by omega)))
theorem for_rangeS {lo c : Int} {n : Nat} {g : TG} {tb : TS} {D : Ends} {σ : St} {H : Hp} (Pv : Nat → St → Hp → Prop) (h0 : Pv 0 σ H)
    (hs : ∀ i σ H, i < n → Pv i σ H → g (.int (lo + i * c)) σ H fun σ2 H2 => tb { D with nx := Pv (i + 1), ct := Pv (i + 1), bk := D.nx } σ2 H2) (hd : ∀ σ H, Pv n σ H → D.nx σ H) :
    ∃ W : Nat → Nat → St → Hp → Prop, (∃ m, W 0 m σ H) ∧ ∀ i m σ H, W i m σ H →
      ((Its lo c n).stop i H ∧ D.nx σ H) ∨ ((Its lo c n).go i H ∧ ∃ N : St → Hp → Prop, (∀ σ' H', N σ' H' → ∃ m', m' < m ∧ W (i + 1) m' σ' H') ∧ ∀ x H', (Its lo c n).yld i H x H' → g x σ H' fun σ2 H2 => tb { D with nx := N, ct := N, bk := D.nx } σ2 H2) := by
  refine ⟨fun i m σ H => m = n - i ∧ i ≤ n ∧ Pv i σ H, ⟨n, by simp, Nat.zero_le _, h0⟩, ?_⟩
  rintro i m σ H ⟨rfl, hi, p⟩
  by_cases hlt : i < n
  · refine .inr ⟨hlt, Pv (i + 1), fun σ' H' p' => ⟨n - (i + 1), by omega, rfl, hlt, p'⟩, fun x H' y => ?_⟩
    obtain ⟨e, y⟩ := y
    subst e y
    exact hs i σ _ hlt p
  · have e : i = n := by omega
    subst e
    exact .inl ⟨Nat.le_refl _, hd σ H p⟩
end
end L2

/-! ### own additions to the layer, 9l: a try whose body never raises; a chain of three comparisons -/
namespace L2
open PySem PySem.Spec PyProof.Rows
section
variable {X : Cx}
/-- try: body (which raises nothing) except ..: -/
theorem ps_try0 {body : List Stmt} {h0 : ExceptHandler} {hs : List ExceptHandler} {t : TS} {pos : Pos} (hb : ∀ E, PSs (X.wish E) body t) : PS X (.Try body (h0 :: hs) [] [] pos) t := by
  intro pins s σ H D I hw
  refine wpAny_Try_except ?_
  let Et : Value → Shared → Prop := fun e s₁ => wpAny (model X.prog X.w) X.A (noteFrame e X.env) (fun _ s₂ => wpAny (model X.prog X.w) X.A (setFlight e none) (fun _ s₃ => wpAny (model X.prog X.w) X.A (handleBy e X.env (h0 :: hs)) (SP X pins D) X.xe s₃) X.xe s₂) X.xe s₁
  refine wpAny_mono (hb Et pins s σ H D (I.wish Et) hw) (fun fl s1 h1 => ?_) fun _ _ z => z
  cases fl with
  | next =>
    obtain ⟨σ', H', I', q⟩ := h1
    exact wpAny_execs_nil ⟨σ', H', I'.unwish, q⟩
  | brk =>
    obtain ⟨σ', H', I', q⟩ := h1
    exact ⟨σ', H', I'.unwish, q⟩
  | cont =>
    obtain ⟨σ', H', I', q⟩ := h1
    exact ⟨σ', H', I'.unwish, q⟩
  | ret u =>
    obtain ⟨v, σ', H', I', r, q⟩ := h1
    exact ⟨v, σ', H', I'.unwish, r, q⟩
/-- a op1 b op2 c op3 d -/
def tChain3 (r r' r'' : R2) (ta tb tc td : TE) : TE := fun σ H Q => ta σ H fun x H1 => tb σ H1 fun y H2 => r x y H2 fun z H3 => ∃ k, z = .bl k ∧
  (if k = true then tc σ H3 fun w' H4 => r' y w' H4 fun z' H5 => ∃ k', z' = .bl k' ∧ (if k' = true then td σ H5 fun v' H6 => r'' w' v' H6 Q else Q (.bl false) H5) else Q (.bl false) H3)
theorem pe_chain3 {a b c d : Expr} {ta tb tc td : TE} {pos : Pos} {op op' op'' : CmpOp} {r r' r'' : R2} (ho : OpR X (compareOp op) r) (ho' : OpR X (compareOp op') r') (ho'' : OpR X (compareOp op'') r'') (ha : PE X a ta) (hb : PE X b tb) (hc : PE X c tc) (hd : PE X d td)
    (hm : lastMarks [op, op', op''] [b, c, d] = false := by with_unfolding_all rfl) : PE X (.Compare a [op, op', op''] [b, c, d] pos) (tChain3 r r' r'' ta tb tc td) := by
  intro pins s σ H Q I h
  refine Compare_chain (thn (ha pins s σ H _ I h) fun v s1 ⟨x, H1, I1, r1, q1⟩ => chain_link (thn (hb pins s1 σ H1 _ I1 q1) fun u s2 ⟨y, H2, I2, r2, q2⟩ =>
    thn (ho pins s2 σ H2 x y v u _ I2 r1 r2 q2) fun d s3 ⟨z, H3, I3, r3, k, e, q3⟩ => ?_)) hm
  subst e
  cases r3
  refine wpAny_truthy_bool ?_
  cases k with
  | false => exact ite_ff ⟨.bl false, H3, I3, rfl, q3⟩
  | true =>
    refine ite_tt (chain_link (thn (hc pins s3 σ H3 _ I3 q3) fun w' s4 ⟨z', H4, I4, r4, q4⟩ => thn (ho' pins s4 σ H4 y z' u w' _ I4 r2 r4 q4) fun d' s5 ⟨z5, H5, I5, r5, k5, e5, q5⟩ => ?_))
    subst e5
    cases r5
    refine wpAny_truthy_bool ?_
    cases k5 with
    | false => exact ite_ff ⟨.bl false, H5, I5, rfl, q5⟩
    | true => exact ite_tt (chain_last (thn (hd pins s5 σ H5 _ I5 q5) fun v' s6 ⟨z6, H6, I6, r6, q6⟩ => ho'' pins s6 σ H6 z' z6 w' v' Q I6 r4 r6 q6))
end
end L2

/-! ### own additions to the layer, 9m: list.index of a text; range downwards by one to nought -/
namespace L2
open PySem PySem.Spec PyProof.Rows
section
variable {X : Cx} {tg : Expr}
def eqTx (y : Str) : Value → Bool
  | .str x _ => x == y
  | _ => false
/-- xs.index(x) of a list of texts: where it stands first -/
def rLIndex : V → List V → Hp → VK → Prop := fun v vs H Q => ∃ (p : Addr) (ss : List Str) (y : Str) (j : Nat), v = .ref p ∧ vs = [.str y] ∧ H p = some (.lst (ss.map V.str)) ∧ ss[j]? = some y ∧ (∀ m, m < j → ss[m]? ≠ some y) ∧ Q (.int (j : Int)) H
theorem mt_lindex : MtR X "list.index" rLIndex := by
  intro pins s σ H v vs u us Q I rx rv h
  obtain ⟨p, ss, y, j, rfl, rfl, hS, hj, hno, q⟩ := h
  cases rx
  obtain ⟨u, rfl, k, rfl⟩ := vals1 rv
  obtain ⟨z, its, n, r, hl, e⟩ := I.lstM hS
  obtain ⟨l, rfl, e'⟩ := texts_vals r
  subst e'
  have hjl : j < l.length := by
    have := (List.getElem?_eq_some_iff.mp hj).1
    simpa using this
  have hsz : (strValues l).toArray.size = l.length := by simp [strValues]
  have hz : l.length ≤ sizeLine := by simpa using z
  have hs : (sizeLine : Int) < 2 ^ 63 - 1 := by decide +kernel
  refine call_meets PySem.F.slot_list_index ⟨_, e, rfl⟩ PySem.F.entry_list_index (PySem.F.args_list_index_2 _ _) (PySem.MeetsSeq.list_index p (strValues l).toArray n (.str y k) (eqTx y) ?_ j (by omega) (by omega) ?_ ?_) ⟨e, .int j, H, I.tok _, ⟨_, rfl⟩, q⟩
  · intro v hv
    have hv' : v ∈ strValues l := by simpa using hv
    obtain ⟨a, ha, rfl⟩ := List.mem_map.mp hv'
    exact PyProof.Rows.eqGives_str _ _ _ _
  · have hx : (strValues l).toArray[j]'(by omega) = .str l[j].1 l[j].2 := by simp [strValues]
    rw [hx]
    have : l[j].1 = y := by
      rw [List.getElem?_map, List.getElem?_eq_getElem hjl] at hj
      exact Option.some.inj hj
    show (l[j].1 == y) = true
    rw [this, beq_self_eq_true]
  · intro m hm hlt
    have hml : m < l.length := by omega
    have hx : (strValues l).toArray[m]'hm = .str l[m].1 l[m].2 := by simp [strValues]
    rw [hx]
    show (l[m].1 == y) = false
    rw [beq_eq_false_iff_ne]
    exact fun z => hno m hlt (by rw [List.getElem?_map, List.getElem?_eq_getElem hml, ← z]; rfl)
/-- range(i, -1, -1) -/
def iRngD (ta : TA) : TI := fun σ H R => ta σ H fun vs H1 => ∃ i : Int, vs = [.int i, .int (-1), .int (-1)] ∧ (-1 ≤ i ∧ i < 1000000) ∧ R (Its i (-1) (i + 1).toNat) H1
theorem pi_rangeD {a b d : Expr} {ta : TA} {p pos : Pos} (hg : Gl X "range") (hm : X.mg "range" = none) (ha : PA X [a, b, d] ta) (hs : starEach [a, b, d] X.env = [(false, eval a X.env), (false, eval b X.env), (false, eval d X.env)] := by rfl) (hs2 : starEach [b, d] X.env = [(false, eval b X.env), (false, eval d X.env)] := by rfl) :
    PI X tg (.Call (.Name "range" p) [a, b, d] [] pos) (iRngD ta) := by
  intro pins s σ H R I h
  refine Call_ (ld_blt I hg hm boot_range (PyProof.Rows.callWith_type1 (thn (ha pos pins s σ H _ I h) fun us s1 ⟨vs, H1, I1, r1, q1⟩ => ?_) (by rw [hs, hs2]) (by rw [hs2]; rfl)))
  obtain ⟨i, e, ⟨q1, q2⟩, q⟩ := q1
  subst e
  cases r1 with
  | cons r rr =>
    cases rr with
    | cons r' rr =>
      cases rr with
      | cons r'' rr =>
        cases rr
        obtain ⟨t, rfl⟩ := r
        obtain ⟨t', rfl⟩ := r'
        obtain ⟨t'', rfl⟩ := r''
        have e : Builtin.Range.rangeSize i (-1) (-1) = i + 1 := by
          unfold Builtin.Range.rangeSize
          rw [if_neg (by decide)]
          rw [show (- -1 : Int) = 1 from rfl, Int.ediv_one]
          split <;> omega
        have z3 : Builtin.Range.small i (-1) (-1) = true := by
          unfold Builtin.Range.small
          simp only [e, Builtin.Range.rangeFitsLong, Bool.and_eq_true, Bool.or_eq_true, decide_eq_true_eq, beq_iff_eq]
          simp
          omega
        rw [← e] at q
        exact call_range_3 (by omega) (rangeS_it I1 z3 (by omega) q) (.inl (PyProof.noPylong_small (by omega)))
end
end L2

/-! ### own additions to the layer, 9n: texts: str of a text, startswith, partition that finds nothing, x[i:], a text's signs one by one, int of a text -/
namespace L2
open PySem PySem.Spec PyProof.Rows
def Itx (x : Str) : It := ⟨fun i _ => i < x.cps.size, fun i H v H' => H' = H ∧ ∃ c, x.cps[i]? = some c ∧ v = .str ⟨#[c]⟩, fun i _ => x.cps.size ≤ i⟩
theorem turn_strA {P : Program} {w : World} {K : PySem.W.Frag} {tg : Expr} (it : Addr) (x : Str) (t : Tok) : Turn P w K tg (Itx x) [it] it (fun i h => h.IsStrIter it "str_ascii_iterator" x t i) where
  mem := by simp
  obj := fun i h st b hb => by
    have e : b = it := by simpa using hb
    subst e
    obtain ⟨o, e, c, d⟩ := st
    exact ⟨o, e, fun v z => by rw [d] at z; cases z⟩
  keep := fun i h h' st k => by
    obtain ⟨o, e, c, d⟩ := st
    exact ⟨o, k it (by simp) o e, c, d⟩
  item := by
    intro X hP hw hK hc i pins s σ H E I hf st hg
    subst hP hw hK
    obtain ⟨f0, f1, f2, f3, f4, f5⟩ := hf it (by simp)
    have W := Walks.strAscii (prog := X.prog) (w := X.w) (I.ok.hd hc) it x t
    refine W.item i s _ _ hg st fun v h' tk hv st' kk => ?_
    obtain ⟨c, u, hcc, rfl⟩ := hv
    have I1 : Inv X pins σ H { s with heap := h', toks := tk } := I.turned (fun b o hb e => kk b o (by simpa using hb) e) f0 f1 f3 f4 f5
    obtain ⟨o, e, c', d⟩ := id st'
    exact ⟨_, rfl, go_of (s := { s with heap := h', toks := tk }) e c' d (by decide) ⟨.str ⟨#[c]⟩, H, I1, ⟨u, rfl⟩, ⟨rfl, c, hcc, rfl⟩, st', fun b hb => (hf b hb).1⟩⟩
  done := by
    intro X hP hw hK hc i pins s σ H E I hf st hg
    subst hP hw hK
    obtain ⟨f0, f1, f2, f3, f4, f5⟩ := hf it (by simp)
    have hg : x.cps.size ≤ i := hg
    exact wpAny_pyNext_ascii_end (I.ok.hd hc) st (by simp; omega) fun h' eb => ⟨rfl, I.turned (t' := s.toks) (fun b o hb e => eb b o hb e) f0 f1 f3 f4 f5⟩
  self := fun _ _ _ _ _ st h => wpAny_pyIter_striter_ascii st h
section
variable {X : Cx} {tg : Expr}
def iTxt (tl : TE) : TI := fun σ H R => tl σ H fun v H1 => ∃ x : Str, v = .str x ∧ x.cps.all (· < 128) = true ∧ R (Itx x) H1
theorem pi_txt {l : Expr} {tl : TE} (hl : PE X l tl) : PI X tg l (iTxt tl) := by
  intro pins s σ H R I h
  refine thn (hl pins s σ H _ I h) fun v s1 ⟨x, H1, I1, r1, q1⟩ => ?_
  obtain ⟨x, e, ha, q⟩ := q1
  subst e
  obtain ⟨t, rfl⟩ := r1
  refine wpAny_pyIter_ascii ha ?_
  refine ⟨s1.heap.objs.size, [s1.heap.objs.size], _, _, H1, rfl, I1.kept (t' := s1.toks) fun b o e => Heap.get?_push_of_some _ e, turn_strA _ x t, ⟨_, Heap.get?_push_size _ rfl, rfl, rfl⟩, fun b hb => ?_, q⟩
  have e : b = s1.heap.objs.size := by simpa using hb
  subst e
  exact I1.fpOk (Nat.le_refl _) (I1.hok.fresh (Nat.le_refl _))
/-- str of an int or of a text -/
def rStr1 : List V → Hp → VK → Prop := fun xs H Q => (∃ i : Int, xs = [.int i] ∧ i.natAbs.log2 < 1920 ∧ Q (.str (toString i)) H) ∨ ∃ x, xs = [.str x] ∧ Q (.str x) H
theorem call_str1 : CallR X (.type "str") rStr1 := by
  intro pins s σ H xs us Q I r h
  rcases h with ⟨i, rfl, hz, q⟩ | ⟨x, rfl, q⟩
  · obtain ⟨u, rfl, t, rfl⟩ := vals1 r
    exact PySem.P.str_of_int hz ⟨.str _, H, I.tok _, ⟨_, rfl⟩, q⟩
  · obtain ⟨u, rfl, t, rfl⟩ := vals1 r
    exact PySem.P.str_of_str ⟨.str _, H, I, ⟨_, rfl⟩, q⟩
theorem call_int_txt : CallR X (.type "int") (fun xs H Q => ∃ (x : Str) (n : Int), xs = [.str x] ∧ PySem.intText? x = some n ∧ x.length ≤ 640 ∧ Q (.int n) H) := by
  intro pins s σ H xs us Q I r h
  obtain ⟨x, n, rfl, hn, hl, q⟩ := h
  obtain ⟨u, rfl, t, rfl⟩ := vals1 r
  exact PySem.W.KIN.call_text hn hl ⟨.int _, H, I.tok _, ⟨_, rfl⟩, q⟩
def rStarts : V → List V → Hp → VK → Prop := fun v vs H Q => ∃ x y : Str, v = .str x ∧ vs = [.str y] ∧ Q (.bl (decide (0 + y.length ≤ x.length) && Builtin.Str.subAt x y 0)) H
theorem mt_starts : MtR X "str.startswith" rStarts := by
  intro pins s σ H v vs u us Q I rx rv h
  obtain ⟨x, y, rfl, rfl, q⟩ := h
  obtain ⟨t, rfl⟩ := rx
  obtain ⟨u, rfl, k, rfl⟩ := vals1 rv
  exact call_gives PySem.F.slot_str_startswith (typeIs_str _ _ _) PySem.F.entry_str_startswith (PySem.F.args_str_startswith_2 _ _) (gives_str_startswith x y t k) ⟨.bl _, H, I, rfl, q⟩
def rPart0 : V → List V → Hp → VK → Prop := fun v vs H Q => ∃ x y : Str, v = .str x ∧ vs = [.str y] ∧ (y.length == 0) = false ∧ x.length ≤ sizeLine ∧ Builtin.Str.occurrences x y 0 x.length 1 = [] ∧ ∀ p, H p = none → Q (.ref p) (upd H p (.tup [.str x, .str Str.empty, .str Str.empty]))
theorem mt_part0 : MtR X "str.partition" rPart0 := by
  intro pins s σ H v vs u us Q I rx rv h
  obtain ⟨x, y, rfl, rfl, hy, hx, ho, q⟩ := h
  obtain ⟨t, rfl⟩ := rx
  obtain ⟨u, rfl, k, rfl⟩ := vals1 rv
  refine call_meets PySem.F.slot_str_partition (typeIs_str _ _ _) PySem.F.entry_str_partition (PySem.F.args_str_partition_2 _ _) (meets_str_partition x y t k hy hx) ?_
  rw [ho]
  refine ⟨.ref s.heap.objs.size, _, I.laid (t' := s.toks + 1) (fun b o e => Heap.get?_push_of_some _ e) (Nat.le_refl _) (show ObjOk X.prog X.w _ _ _ (.tup [.str x, .str Str.empty, .str Str.empty]) from ?_), rfl, q _ (I.hok.fresh (Nat.le_refl _))⟩
  exact ⟨by show 3 ≤ sizeLine; decide, [.str x t, .str Str.empty s.toks, .str Str.empty s.toks], .cons ⟨_, rfl⟩ (.cons ⟨_, rfl⟩ (.cons ⟨_, rfl⟩ .nil)), _, Heap.get?_push_size _ rfl, rfl, _, rfl⟩
/-- x[i:] of a text -/
def rSlS : V → Option Int → Option Int → Hp → VK → Prop := fun v lo hi H Q => ∃ (x : Str) (i : Int), v = .str x ∧ lo = some i ∧ hi = none ∧ x.length ≤ sizeLine ∧ Q (.str (Txt.slice x (some i) none)) H
theorem sl_txt : SlR X rSlS := by
  intro pins s σ H x v vl vu lo hi sl Q I rx hs pl pu h
  obtain ⟨x, i, rfl, rfl, rfl, hz, q⟩ := h
  obtain ⟨t, rfl⟩ := rx
  cases pl with
  | int _ ti =>
    cases pu
    refine ⟨"str", _, PySem.F.slot_str_getitem.lookup, typeIs_str _ _ _, wpAny_getItem_str_slice (l := some (i, ti)) (u := none) (st := none) hs rfl (post_val_or_str ⟨Nat.le_trans (Txt.slice_le x _ _) hz, fun t' k => ?_⟩)⟩
    exact ⟨.str _, H, I.kept (t' := k) fun _ _ e => e, ⟨t', rfl⟩, q⟩
end
end L2

/-! ### own additions to the layer, 9o: repr of data, sum of a list of ints, any cut of a text -/
namespace L2
open PySem PySem.Spec PyProof.Rows
section
variable {X : Cx}
def rRepr (K : PySem.W.Frag) : List V → Hp → VK → Prop := fun xs H Q => ∃ (a : Addr) (d : PyData), xs = [.ref a] ∧ RdV K H (.ref a) d ∧ d.showable = true ∧ d.hasDict = false ∧ d.depth ≤ 60 ∧ d.shown.length ≤ sizeLine ∧ Q (.str d.shown) H
theorem call_repr (hg : X.A.guards = some []) (hu : X.A.units + 64 < cLine) : CallR X (.builtin "repr") (rRepr X.K) := by
  intro pins s σ H xs us Q I r h
  obtain ⟨a, d, rfl, hd, hs, hn, hp, hl, q⟩ := h
  obtain ⟨u, rfl, ru⟩ := vals1 r
  cases ru
  obtain ⟨as, rd⟩ := hd.reads I rfl
  exact PySem.repr_of_reads' rd hs (PyData.noDict_hsm hn) hg (by omega) (fun _ _ e => e) (fun h' u tk hk => ⟨.str _, H, I.kept (t' := tk) hk, ⟨u, rfl⟩, q⟩) hl
def rSumL (K : PySem.W.Frag) : List V → Hp → VK → Prop := fun xs H Q => ∃ (p : Addr) (ns : List Int), xs = [.ref p] ∧ SqL K H p (ns.map V.int) ∧ ∀ m : Int, Q (.int m) H
theorem call_sumL (hc : X.calm = true) : CallR X (.builtin "sum") (rSumL X.K) := by
  intro pins s σ H xs us Q I r h
  obtain ⟨p, ns, rfl, hS, q⟩ := h
  obtain ⟨u, rfl, ru⟩ := vals1 r
  cases ru
  obtain ⟨its, rv, pl, hz⟩ := I.list hS
  have hi : IntsAre its ns := intsAre_of rv
  obtain ⟨zs, e⟩ := hi.allInts.items
  have hl := pl.isList
  rw [e] at hl
  refine sum_intListG (I.ok.hd hc) hl fun h' tk t' hk => ?_
  exact ⟨.int _, H, I.kept hk, ⟨t', rfl⟩, q _⟩
/-- any cut of a text -/
def rSlS2 : V → Option Int → Option Int → Hp → VK → Prop := fun v lo hi H Q => ∃ (x : Str), v = .str x ∧ x.length ≤ sizeLine ∧ Q (.str (Txt.slice x lo hi)) H
theorem sl_txt2 : SlR X rSlS2 := by
  intro pins s σ H x v vl vu lo hi sl Q I rx hs pl pu h
  obtain ⟨x, rfl, hz, q⟩ := h
  obtain ⟨t, rfl⟩ := rx
  have go : ∀ (l u : Option (Int × Tok)), l.map (·.1) = lo → u.map (·.1) = hi → s.heap.IsSlice sl l u none → ∃ T id, typeLookup (.type T) "__getitem__" = pure (some (.builtin id)) ∧ s.TypeIs (.str x t) T ∧ wpAny (model X.prog X.w) X.A (getItem (.str x t) (.ref sl)) (EP X pins σ Q) X.xe s := fun l u el eu hs => by
    subst el eu
    refine ⟨"str", _, PySem.F.slot_str_getitem.lookup, typeIs_str _ _ _, wpAny_getItem_str_slice (l := l) (u := u) (st := none) hs rfl (post_val_or_str ⟨Nat.le_trans (Txt.slice_le x _ _) hz, fun t' k => ?_⟩)⟩
    exact ⟨.str _, H, I.kept (t' := k) fun _ _ e => e, ⟨t', rfl⟩, q⟩
  cases pl with
  | none =>
    cases pu with
    | none => exact go none none rfl rfl hs
    | int j tj => exact go none (some (j, tj)) rfl rfl hs
  | int i ti =>
    cases pu with
    | none => exact go (some (i, ti)) none rfl rfl hs
    | int j tj => exact go (some (i, ti)) (some (j, tj)) rfl rfl hs
end
end L2

/-! ### own additions to the layer, 9p: exceptions that bear fields: made, their fields stored and read -/
namespace L2
open PySem PySem.Spec PyProof.Rows PySem.W PySem.Builtin PySem.Builtin.ObjectAttr
def excInI (K : Frag) (C : Addr) (bmB : List Value) (newId : String) : Bool := match K.lookup C with
  | some ⟨.type "type", _, .cls cd, sl⟩ => (match cd.mro, sl.toList with
    | .ref C' :: bm, [_, _, _, _, some (.builtin n), _] => C' == C && n == newId && !cd.hasDel && tailIn K bmB bm && nsOkIn K cd.ns && cd.hasDict
    | _, _ => false)
  | _ => false
theorem excI_of {K : Frag} {h : Heap} {C : Addr} {bmB : List Value} {newId : String} (X : K.In h) (q : excInI K C bmB newId = true) :
    ∃ (bm : List Value) (N : Addr) (nm qn : Str) (bs : List Value) (sn : List Str) (sub : List Value) (ab : Bool) (col : Option Bool) (dd : Option Addr) (k0 k1 k2 k3 k5 : Option Value) (mN : Str → Option Value),
      h.get? C = some (excClassObj nm qn C N bs bm true sn sub ab col dd k0 k1 k2 k3 k5 newId) ∧ h.Ns N mN ∧ OwnTail h bmB bm ∧ ∃ cd, clsIn K C = some cd ∧ cd.mro = .ref C :: bm ∧ cd.hasDict = true := by
  unfold excInI at q
  split at q
  · rename_i dd cd sl ho
    split at q
    · rename_i C' bm k0 k1 k2 k3 n k5 hm hs
      simp only [Bool.and_eq_true, beq_iff_eq, Bool.not_eq_true'] at q
      have hcls : clsIn K C = some cd := by unfold clsIn; rw [ho]
      obtain ⟨⟨⟨⟨⟨rfl, rfl⟩, hdel⟩, ht⟩, hok⟩, hhd⟩ := q
      obtain ⟨nm, bs, mro, ns, qn, hd, sn, sub, ab, col, del⟩ := cd
      dsimp only at hm hdel hok hhd
      subst hm hdel hhd
      have hsl : sl = #[k0, k1, k2, k3, some (.builtin n), k5] := by
        obtain ⟨l⟩ := sl
        simp only at hs
        rw [hs]
      subst hsl
      exact ⟨bm, ns, nm, qn, bs, sn, sub, ab, col, dd, k0, k1, k2, k3, k5, _, X _ _ ho, .of_isNs (PySem.W.isNs_of_in X hok), PySem.W.tail_of_in X ht, ⟨_, hcls, by rfl, by rfl⟩⟩
    · cases q
  · cases q
section
variable {prog : Program} {w : World} {A : Around} {E : Value → Shared → Prop} {K : Frag} {h : Heap} {g : Array GenState} {d : Drawn} {t : Nat} {os : OsState}
variable {nm q : Str} {C N : Addr} {bs bm bmB : List Value} {hdct : Bool} {sn : List Str} {sub : List Value} {ab : Bool} {col : Option Bool} {dd : Option Addr} {k0 k1 k2 k3 k5 : Option Value} {B Bn newId nid initId inN : String} {bmN : List Value}
def excNew (C : Addr) (t : Addr) : Obj := { cls := .ref C, data := .fields #[.ref t, .none, .none, .none, .bool false, .none] }
theorem tcall_excI (Fn : ExcBaseFacts Bn newId inN bmN) (hBn : bmB.contains (.type Bn) = true) (F : ExcBaseFacts B nid initId bmB) (T : OwnTail h bmB bm) {rest : List Value} {Q : Fin → Shared → Prop} {fI : Addr}
    (hC : h.get? C = some (excClassObj nm q C N bs bm hdct sn sub ab col dd k0 k1 k2 k3 k5 newId)) (X : K.In h) (hi : findIn K (.ref C) "__init__" = some (some (.ref fI))) (hf : isFn K (.ref fI) = true)
    (hq : wpAny (model prog w) A (call (.ref fI) (.ref (h.objs.size + 1) :: rest)) (fun r s' => r = .none ∧ Q (.done (.ret (.ref (h.objs.size + 1)))) s') E ⟨(h.push { cls := .type "tuple", data := .seq rest.toArray }).push (excNew C h.objs.size), g, d, t, os⟩) (hrest : rest.length ≤ sizeLine) :
    wpAny (model prog w) A (Builtin.«type.__call__» ⟨.ref C :: rest, []⟩) Q E ⟨h, g, d, t, os⟩ := by
  repeat (first | with_reducible refine wpAny_loadPart_at hC ?_ | with_reducible refine wpAny_madeBy_exc hC ?_ | wp_step)
  refine codeAny_call_builtin_code (Code.quiet_builtin _ Fn.quiet) (wpAny_check_new_subU Fn hBn T hC ?_)
  refine codeAny_exc_new_subU Fn hBn F T hC ?_ hrest
  show wpAny _ _ _ _ _ _
  have kp : ∀ b o, h.get? b = some o → ((h.push { cls := .type "tuple", data := .seq rest.toArray }).push { cls := .ref C, data := .fields #[.ref h.objs.size, .none, .none, .none, .bool false, .none] }).get? b = some o := fun b o e => Heap.get?_push_of_some _ (Heap.get?_push_of_some _ e)
  have hC₁ := kp _ _ hC
  have X₁ := X.keeps kp
  have hget : ((h.push { cls := .type "tuple", data := .seq rest.toArray }).push
      { cls := .ref C, data := .fields #[.ref h.objs.size, .none, .none, .none, .bool false, .none] }).get? (h.objs.size + 1) = some
      { cls := .ref C, data := .fields #[.ref h.objs.size, .none, .none, .none, .bool false, .none] } := by heap_get
  have hcC : (Value.ref C :: bm).contains (.ref C) = true := by simp
  unfold isInstance
  repeat (first | with_reducible refine wpAny_loadPart_at hget ?_ | (with_reducible refine wpAny_isSubtype_exc hC₁ ?_; rw [hcC]) | wp_step)
  show wpAny _ _ (typeLookup (.ref C) _) _ _ _
  refine (looks_findIn (M := model prog w) X₁ hi).at ?_
  refine wpAny_holding (wpAny_bind ((bind_fn X₁ _ (beq_iff_eq.mp hf)).at ?_))
  refine wpAny_bind (wpAny_mono hq (fun r s' hr => ?_) fun _ _ x => x)
  obtain ⟨rfl, hQ⟩ := hr
  wp_walk
  exact hQ
theorem call_excI (Fn : ExcBaseFacts Bn newId inN bmN) (hBn : bmB.contains (.type Bn) = true) (F : ExcBaseFacts B nid initId bmB) (T : OwnTail h bmB bm) {rest : List Value} {Q : Value → Shared → Prop} {fI : Addr}
    (hC : h.get? C = some (excClassObj nm q C N bs bm hdct sn sub ab col dd k0 k1 k2 k3 k5 newId)) (X : K.In h) (hi : findIn K (.ref C) "__init__" = some (some (.ref fI))) (hf : isFn K (.ref fI) = true)
    (hq : wpAny (model prog w) (A.under (.builtin "type.__call__" ⟨.ref C :: rest, []⟩)) (call (.ref fI) (.ref (h.objs.size + 1) :: rest)) (fun r s' => r = .none ∧ Q (.ref (h.objs.size + 1)) s') E ⟨(h.push { cls := .type "tuple", data := .seq rest.toArray }).push (excNew C h.objs.size), g, d, t, os⟩) (hrest : rest.length ≤ sizeLine) :
    wpAny (model prog w) A (call (.ref C) rest) Q E ⟨h, g, d, t, os⟩ := by
  have f1 := tc_lookup
  have f2 := tc_bind (.ref C)
  have hT : (⟨h, g, d, t, os⟩ : Shared).TypeIs (.ref C) "type" := ⟨_, hC, rfl⟩
  refine wpAny_call (codeAny_of_tree ?_)
  show wpAny _ _ (callAny (.ref C) _) _ _ _
  repeat (any_goals (first | assumption | with_reducible refine wpAny_loadPart_at hC ?_ | wp_step))
  refine ⟨rfl, ?_⟩
  exact codeAny_call_builtin_at (Code.quiet_builtin _ (by decide +kernel)) entry_typeCall (wpAny_check_type_call_sub hC (tcall_excI Fn hBn F T hC X hi hf hq hrest))
end
/-! storing a field -/
theorem refuse_tail (self : Value) {h : Heap} {bm : List Value} (T : OwnTail h bmVE bm) : refuseLoop self "__setattr__" bm = pure () := by
  induction T with
  | base => exact PySem.F.store_ValueError.passes self
  | own _ _ _ _ ih => rw [refuseLoop_ref]; exact ih
section
variable {prog : Program} {w : World} {A : Around} {K : Frag} {s : Shared} {x C : Addr} {R : Result → Shared → Prop}
theorem osa_openX {ox : Obj} {od : Option Obj} {name : Str} {tk : Tok} {v : Value} {bm : List Value} {cd : ClassData} (X : K.In s.heap) (I : InstAt s.heap x ox C od) (hc : clsIn K C = some cd) (hm' : cd.mro = .ref C :: bm) (T : OwnTail s.heap bmVE bm) (hmo : mroIn K C (.type "object") = some true) (ht : findIn K (.ref C) name = some none)
    (h : wpAny (model prog w) A.in1 (storeInOwnDict (.ref x) (.ref C) (.str name tk) name v false)
      (fun fin s' => match fin with | .done f => R (.ok f) s' | .again c' => c'.quiet = true ∧ codeAny (model prog w) A c' R s') (fun e s' => R (.error e) s') s) :
    codeAny (model prog w) A (.call (.builtin "object.__setattr__") ⟨[.ref x, .str name tk, v], []⟩) R s := by
  have SF := PySem.F.store_object
  have sub : Looks (model prog w) s.heap (isInstance (.ref x) (.type "object")) true := I.type.andThen (looks_mroIn X hmo)
  refine codeAny_call_builtin SF.slot.plain SF.entry (@check_slot (model prog w) _ _ s "object.__setattr__" "object" "__setattr__" (.ref x) [.str name tk, v] [] _ SF.kind SF.split sub (SF.args (.ref x) (.str name tk) v) ?_)
  have hm : Looks (model prog w) s.heap (mroOf (.ref C)) cd.mro := (looks_clsIn X hc).andThen .now
  rw [osa_eq, refuse_eq]
  refine wpAny_bind (wpAny_bind (I.type.here (wpAny_bind (hm.here ?_))))
  rw [hm', refuseLoop_ref, refuse_tail _ T]
  refine wpAny_pure (wpAny_bind (I.type.here (wpAny_bind ((looks_findIn X ht).here (wpAny_bind ?_)))))
  refine wpAny_pure ?_
  exact h
end
section
variable {prog : Program} {w : World} {A : Around} {E : Value → Shared → Prop} {h : Heap} {g : Array GenState} {d : Drawn} {t : Nat} {os : OsState}
variable {nm q : Str} {C N x : Addr} {bs bm : List Value} {sn : List Str} {sub : List Value} {ab : Bool} {col : Option Bool} {dd : Option Addr} {k0 k1 k2 k3 k5 : Option Value} {newId : String} {name : Str} {v : Value}
theorem own_store0 {tk : Tok} {o : Obj} {Q : Fin → Shared → Prop} (hC : h.get? C = some (excClassObj nm q C N bs bm true sn sub ab col dd k0 k1 k2 k3 k5 newId)) (hx : h.get? x = some o) (hc : o.cls = .ref C) (hnc : ∀ c, o.data ≠ .cls c) (hdn : o.dict = none)
    (hq : ∀ h' tk', h'.get? x = some { cls := o.cls, dict := some h.objs.size, data := o.data, slots := o.slots } → h'.Ns1 h.objs.size (fun y => if y = name then some v else none) → (∀ b ob, b ≠ x → h.get? b = some ob → h'.get? b = some ob) → Q (.done (.ret .none)) ⟨h', g, d, tk', os⟩) :
    wpAny (model prog w) A (storeInOwnDict (.ref x) (.ref C) (.str name tk) name v false) Q E ⟨h, g, d, t, os⟩ := by
  unfold storeInOwnDict
  repeat (first | (with_reducible refine wpAny_loadPart_at hx ?_; rw [hc]) | with_reducible refine wpAny_loadPart_at hC ?_ | wp_step)
  rw [hdn]
  dsimp only
  rw [if_neg (by simp [typeHasDict])]
  split
  · rename_i c hcd
    exact absurd hcd (hnc c)
  · have hx₁ : (h.push { cls := .type "dict", data := .dict #[] }).get? x = some o := Heap.get?_push_of_some _ hx
    have hxs : x ≠ h.objs.size := Nat.ne_of_lt (Heap.lt_size hx)
    refine wpAny_bind (wpAny_alloc' ?_)
    refine wpAny_bind (wpAny_update' hx₁ ?_)
    refine wpAny_pure ?_
    have hgd : ((h.push { cls := .type "dict", data := .dict #[] }).update x fun o => { cls := o.cls, dict := some h.objs.size, data := o.data, slots := o.slots }).get? h.objs.size
        = some { cls := .type "dict", data := .dict #[] } :=
      (Heap.get?_update_ne _ _ _ _ hxs.symm).trans (Heap.get?_push_at rfl rfl)
    have hnd : ((h.push { cls := .type "dict", data := .dict #[] }).update x fun o => { cls := o.cls, dict := some h.objs.size, data := o.data, slots := o.slots }).Ns h.objs.size (fun _ => none) :=
      ⟨_, #[], _, hgd, rfl, fun e he => absurd he (by simp), fun _ => rfl⟩
    show wpAny _ _ (storeInDict h.objs.size (.str name tk) name v) _ _ _
    unfold storeInDict newKeyGuard
    refine wpAny_bind (wpAny_pure (wpAny_bind (wpAny_nsSet1 (Heap.Ns1.of_empty hnd) fun h' hn' hs => ?_)))
    obtain ⟨oD, esD, epD, hoD, hdD, hcD⟩ := hn'.count (Within.cons name v Within.nil)
    refine wpAny_bind (wpAny_lookBehind hoD (by rw [hdD]; exact pastItsLine_dict (Nat.le_trans hcD (by rw [List.length_cons, List.length_nil, sizeLine_eq]; omega))) ?_)
    wp_walk
    have hx' : h'.get? x = some { cls := o.cls, dict := some h.objs.size, data := o.data, slots := o.slots } := by
      refine (hs.2 x hxs).trans (Heap.get?_update_self _ hx₁ ?_)
      have hfr := (Heap.get?_some_iff.mp hx).2
      obtain ⟨oc, od, odt, osl⟩ := o
      cases odt <;> first | rfl | exact hfr
    refine hq h' _ hx' hn' fun b ob hbx hb => ?_
    exact (hs.2 b (Nat.ne_of_lt (Heap.lt_size hb))).trans ((Heap.get?_update_ne _ _ _ _ hbx).trans (Heap.get?_push_of_some _ hb))
theorem own_store1 {tk : Tok} {o : Obj} {dx : Addr} {mA : Str → Option Value} {ns : List Str} {Q : Fin → Shared → Prop} (hC : h.get? C = some (excClassObj nm q C N bs bm true sn sub ab col dd k0 k1 k2 k3 k5 newId)) (hx : h.get? x = some o) (hc : o.cls = .ref C) (hdx : o.dict = some dx) (hns : h.Ns1 dx mA) (hw : Within mA ns) (hl : ns.length < 1000)
    (hq : ∀ h' tk', h'.Ns1 dx (fun y => if y = name then some v else mA y) → (∀ b ob, b ≠ dx → h.get? b = some ob → h'.get? b = some ob) → Q (.done (.ret .none)) ⟨h', g, d, tk', os⟩) :
    wpAny (model prog w) A (storeInOwnDict (.ref x) (.ref C) (.str name tk) name v false) Q E ⟨h, g, d, t, os⟩ := by
  unfold storeInOwnDict
  repeat (first | (with_reducible refine wpAny_loadPart_at hx ?_; rw [hc]) | with_reducible refine wpAny_loadPart_at hC ?_ | wp_step)
  rw [hdx]
  refine wpAny_pure ?_
  show wpAny _ _ (storeInDict dx (.str name tk) name v) _ _ _
  unfold storeInDict newKeyGuard
  refine wpAny_bind (wpAny_pure (wpAny_bind (wpAny_nsSet1 hns fun h' hn' hs => ?_)))
  obtain ⟨oD, esD, epD, hoD, hdD, hcD⟩ := hn'.count (Within.cons name v hw)
  refine wpAny_bind (wpAny_lookBehind hoD (by rw [hdD]; exact pastItsLine_dict (Nat.le_trans hcD (by rw [List.length_cons, sizeLine_eq]; omega))) ?_)
  wp_walk
  exact hq h' _ hn' fun b ob hb hb' => (hs.2 b hb).trans hb'
end
/-! the layer's rules -/
/-- an exception of the class at C, as it was made; its dict, if it has one -/
def XP (C e : Addr) (dx : Option Addr) : Heap → Prop := fun h => ∃ t0, h.get? e = some { cls := .ref C, dict := dx, data := .fields #[.ref t0, .none, .none, .none, .bool false, .none] }
/-- the dict of an exception -/
def XD (dx : Addr) (fs : List (Str × V)) : Heap → Prop := fun h => ∃ mA, h.Ns1 dx mA ∧ (∀ f, RelO (fs.lookup f) (mA f)) ∧ Within mA (fs.map (·.1))
structure KXs (K : Frag) (C : Addr) : Prop where
  sa : findIn K (.ref C) "__setattr__" = some (some (.builtin "object.__setattr__"))
  ex : excInI K C bmVE "ValueError.__new__" = true
  mo : mroIn K C (.type "object") = some true
theorem xp_stable {C e : Addr} {dx : Option Addr} (h1 h2 : Heap) (h : XP C e dx h1) (k : ∀ o, h1.get? e = some o → h2.get? e = some o) : XP C e dx h2 := by
  obtain ⟨t0, g⟩ := h
  exact ⟨t0, k _ g⟩
theorem xd_stable {dx : Addr} {fs : List (Str × V)} (h1 h2 : Heap) (h : XD dx fs h1) (k : ∀ o, h1.get? dx = some o → h2.get? dx = some o) : XD dx fs h2 := by
  obtain ⟨mA, n, r⟩ := h
  exact ⟨mA, n.at k, r⟩
theorem Ns1.obj {h : Heap} {a : Addr} {m : Str → Option Value} (n : h.Ns1 a m) : ∃ o, h.get? a = some o := let ⟨o, _, _, e, _⟩ := n; ⟨o, e⟩
section
variable {X : Cx} {C a : Addr} {pins : List (Addr × Obj)} {σ : St} {H : Hp} {s : Shared} {A : Around} {E : Value → Shared → Prop} {f : Str}
theorem xset0 {y : V} {u : Value} {Q : Unit → Shared → Prop} (I : Inv X pins σ H s) (e : H a = some (.ext (XP C a none))) (k : KXs X.K C) (hf : findIn X.K (.ref C) f = some none) (ry : RelV y u)
    (h : ∀ s' dx, H dx = none → dx ≠ a → Inv X pins σ (upd (upd H dx (.ext (XD dx [(f, y)]))) a (.ext (XP C a (some dx)))) s' → Q () s') : wpAny (model X.prog X.w) A (setAttr (.ref a) f u) Q E s := by
  obtain ⟨⟨t0, hg⟩, _, _⟩ := I.hok a _ e
  obtain ⟨bm, N, nm, qn, bs, sn, sub, ab, col, dd, k0, k1, k2, k3, k5, mN, hC, hn, T, cd, hcd, hmro, _⟩ := excI_of I.kIn k.ex
  have IA : InstAt s.heap a { cls := .ref C, dict := none, data := .fields #[.ref t0, .none, .none, .none, .bool false, .none] } C none := ⟨hg, rfl, rfl, True.intro⟩
  refine set_plain I.kIn IA k.sa (osa_openX (s := { s with toks := s.toks + 1 }) I.kIn IA hcd hmro T k.mo hf ?_)
  obtain ⟨hp, g, d, tk, os⟩ := s
  have hda : hp.objs.size ≠ a := Nat.ne_of_gt (Heap.lt_size hg)
  refine own_store0 hC hg rfl (fun c z => by cases z) rfl fun h' tk' g1 n1 kp => h _ hp.objs.size (I.hok.fresh (Nat.le_refl _)) hda ?_
  obtain ⟨od, god⟩ := Ns1.obj n1
  have hpo : (hp.push od).get? hp.objs.size = some od := Heap.get?_push_size hp (Heap.get?_some_iff.mp god).2
  have n0 : (hp.push od).Ns1 hp.objs.size (fun y => if y = f then some u else none) := n1.at fun o q => by rw [god] at q; cases q; exact hpo
  have hx0 : XD hp.objs.size [(f, y)] (hp.push od) := ⟨_, n0, fun g => by
    show RelO (List.lookup g [(f, y)]) (if g = f then some u else none)
    by_cases q : g = f
    · rw [if_pos q, q]; simp only [List.lookup, beq_self_eq_true]; exact ry
    · rw [if_neg q]; simp only [List.lookup]; rw [beq_false_of_ne q]; exact True.intro, fun g hg => by
    by_cases q : g = f
    · rw [q]; exact List.mem_singleton_self _
    · exact absurd (if_neg q) hg⟩
  have I1 := I.laid (a := hp.objs.size) (o := .ext (XD hp.objs.size [(f, y)])) (h' := hp.push od) (t' := tk') (fun b u q => Heap.get?_push_of_some _ q) (Nat.le_refl _) ⟨hx0, ⟨_, hpo⟩, xd_stable⟩
  have ea : upd H hp.objs.size (.ext (XD hp.objs.size [(f, y)])) a = some (.ext (XP C a none)) := by rw [upd_ne hda.symm]; exact e
  refine I1.write (x := a) (e := a) (t' := tk') (by rw [ea]; exact True.intro) (.inl rfl) (fun b ob hb z => ?_) ⟨_, g1⟩ ⟨⟨t0, g1⟩, ⟨_, g1⟩, xp_stable⟩
  by_cases hbs : b = hp.objs.size
  · subst hbs
    have z' : (hp.push od).get? hp.objs.size = some ob := z
    rw [hpo] at z'
    cases z'
    exact god
  · have z' : (hp.push od).get? b = some ob := z
    rw [Heap.get?_push_ne _ _ _ hbs] at z'
    exact kp b ob hb z'
theorem xset1 {y : V} {u : Value} {dx : Addr} {fs : List (Str × V)} {Q : Unit → Shared → Prop} (I : Inv X pins σ H s) (e : H a = some (.ext (XP C a (some dx)))) (ed : H dx = some (.ext (XD dx fs))) (hl : fs.length < 900) (k : KXs X.K C) (hf : findIn X.K (.ref C) f = some none) (ry : RelV y u)
    (h : ∀ s', Inv X pins σ (upd H dx (.ext (XD dx (putF f y fs)))) s' → Q () s') : wpAny (model X.prog X.w) A (setAttr (.ref a) f u) Q E s := by
  obtain ⟨⟨t0, hg⟩, _, _⟩ := I.hok a _ e
  obtain ⟨⟨mA, n, r, wi⟩, _, _⟩ := I.hok dx _ ed
  obtain ⟨bm, N, nm, qn, bs, sn, sub, ab, col, dd, k0, k1, k2, k3, k5, mN, hC, hn, T, cd, hcd, hmro, _⟩ := excI_of I.kIn k.ex
  obtain ⟨od, god⟩ := Ns1.obj n
  have IA : InstAt s.heap a { cls := .ref C, dict := some dx, data := .fields #[.ref t0, .none, .none, .none, .bool false, .none] } C (some od) := ⟨hg, rfl, rfl, god⟩
  refine set_plain I.kIn IA k.sa (osa_openX (s := { s with toks := s.toks + 1 }) I.kIn IA hcd hmro T k.mo hf ?_)
  obtain ⟨hp, g, d, tk, os⟩ := s
  refine own_store1 hC hg rfl rfl n wi (by rw [List.length_map]; omega) fun h' tk' n1 kp => h _ ?_
  obtain ⟨od', god'⟩ := Ns1.obj n1
  refine I.write (x := dx) (e := dx) (t' := tk') (by rw [ed]; exact True.intro) (.inl rfl) (fun b ob hb z => kp b ob hb z) ⟨_, god'⟩ ⟨⟨_, n1, fun g => ?_, fun g hg => ?_⟩, ⟨_, god'⟩, xd_stable⟩
  · show RelO ((putF f y fs).lookup g) (if g = f then some u else mA g)
    rw [lookup_putF]
    by_cases q : g = f
    · rw [if_pos q, if_pos q]; exact ry
    · rw [if_neg q, if_neg q]; exact r g
  · by_cases q : g = f
    · rw [q]; exact (keys_putF f y fs).1
    · refine (keys_putF f y fs).2 g (wi g fun z => hg ?_)
      show (if g = f then some u else mA g) = none
      rw [if_neg q]; exact z
end
/-- self.f = value, of an exception -/
def sXf (K : Frag) (ta tv : TE) (f : Str) : TS := fun D σ H => tv σ H fun y H1 => ta σ H1 fun x H2 => ∃ a C, x = .ref a ∧ KXs K C ∧ NoAttr K C f ∧
  ((H2 a = some (.ext (XP C a none)) ∧ ∀ dx, H2 dx = none → dx ≠ a → D.nx σ (upd (upd H2 dx (.ext (XD dx [(f, y)]))) a (.ext (XP C a (some dx))))) ∨
    ∃ dx fs, H2 a = some (.ext (XP C a (some dx))) ∧ H2 dx = some (.ext (XD dx fs)) ∧ fs.length < 900 ∧ D.nx σ (upd H2 dx (.ext (XD dx (putF f y fs)))))
section
variable {X : Cx} {o e value : Expr} {f : Str} {pos pos' tpos : Pos} {ta tv : TE}
theorem ps_xf (ha : PE X o ta) (hv : PE X value tv) (hs : swapsWith value (some (.Attribute o f pos')) pos.line X.env = pure false) : PS X (.Assign [.Attribute o f pos'] value pos) (sXf X.K ta tv f) := by
  intro pins s σ H D I h
  refine plainObj_wpAny_Assign_Attribute (thn (hv pins s σ H _ I h) fun u s1 ⟨y, H1, I1, ry, q⟩ => thn (ha pins s1 σ H1 _ I1 q) fun ov s2 ⟨x, H2, I2, rx, a, C, ex, k, n, q2⟩ => ?_) hs
  subst ex
  obtain rfl : ov = Value.ref a := rx
  rcases q2 with ⟨ea, q2⟩ | ⟨dx, fs, ea, ed, l, q2⟩
  · exact xset0 I2 ea k n ry fun s3 dx hd hda I3 => ⟨σ, _, I3, q2 dx hd hda⟩
  · exact xset1 I2 ea ed l k n ry fun s3 I3 => ⟨σ, _, I3, q2⟩
end
/-! reading a field -/
section
variable {prog : Program} {w : World} {A : Around} {E : Value → Shared → Prop} {K : Frag} {a C : Addr} {o : Obj} {od : Option Obj} {h : Heap} {g : Array GenState} {d : Drawn} {t : Nat} {os : OsState} {name : Str} {v : Value}
theorem xent {tk : Tok} {Q : Fin → Shared → Prop} (X : K.In h) (IA : InstAt h a o C od) (hf : findObj K C od name = some (.value v)) (hq : Q (.done (.ret v)) ⟨h, g, d, t, os⟩) :
    wpAny (model prog w) A (Builtin.«object.__getattribute__» ⟨[.ref a, .str name tk], []⟩) Q E ⟨h, g, d, t, os⟩ := by
  have L0 := IA.type (M := model prog w)
  have L1 := looks_find (M := model prog w) X IA hf
  refine wpAny_bind (wpAny_pure (wpAny_bind (wpAny_pure (wpAny_bind (L0.at (wpAny_bind (L1.at ?_)))))))
  exact wpAny_pure hq
theorem xby {tk : Tok} {fill expr : Bool} {Q : Value → Shared → Prop} (X : K.In h) (k : KX K C) (IA : InstAt h a o C od) (hf : findObj K C od name = some (.value v)) (hh : handedIn v = true) (hq : Q v ⟨h, g, d, t, os⟩) :
    wpAny (model prog w) A (getAttrBy (.ref a) (.str name tk) fill expr) Q E ⟨h, g, d, t, os⟩ := by
  have hx := IA.at_
  have hc := IA.cls
  have L1 := looks_findIn (M := model prog w) X k.ga
  have L2 := looks_findIn (M := model prog w) X k.gh
  have f3 := F.excAttr_ValueError.ga.bind (.ref a)
  have hx0 : (expr && onTheHeap (Value.builtin "BaseException.__getattribute__")) = false := by cases expr <;> rfl
  have hx2 : (Value.builtin "BaseException.__getattribute__" == Value.builtin "object.__getattribute__") = false := by decide +kernel
  have hx1 : (onTheHeap (Value.ref C) && Value.builtin "BaseException.__getattribute__" == Value.builtin "object.__getattribute__") = false := by rw [hx2]; rfl
  repeat (any_goals (first | assumption | (with_reducible refine wpAny_loadPart_at hx ?_; rw [hc]) | with_reducible refine L1.at ?_ | with_reducible refine L2.at ?_ | wp_step))
  refine codeAny_call_builtin F.excAttr_ValueError.ga.plain F.entry_bexc_ga (cchk_exc X k hx hc (xent X IA hf ?_))
  have ho := handedOut_of hh
  repeat (any_goals (first | assumption | wp_step | (rw [ho])))
theorem xattr {expr : Bool} {Q : Value → Shared → Prop} (X : K.In h) (k : KX K C) (IA : InstAt h a o C od) (hf : findObj K C od name = some (.value v)) (hh : handedIn v = true) (hq : Q v ⟨h, g, d, t + 1, os⟩) :
    wpAny (model prog w) A (getAttr (.ref a) name expr) Q E ⟨h, g, d, t, os⟩ := by
  unfold getAttr
  refine wpAny_bind (wpAny_mkText ?_)
  exact xby X k IA hf hh hq
end
/-- an exception of the class at C, its dict at dx -/
def XG (C a dx : Addr) : Heap → Prop := fun h => ∃ o vs, h.get? a = some o ∧ o.cls = .ref C ∧ o.dict = some dx ∧ o.data = .fields vs
theorem xg_of {C a dx : Addr} (h : Heap) (p : XP C a (some dx) h) : XG C a dx h := let ⟨_, g⟩ := p; ⟨_, _, g, rfl, rfl, rfl⟩
/-- e.f, of an exception -/
def tXf (K : Frag) (ta : TE) (f : Str) : TE := fun σ H Q => ta σ H fun x H1 => ∃ a C dx fs v φ, x = .ref a ∧ H1 a = some (.ext φ) ∧ (∀ h, φ h → XG C a dx h) ∧ H1 dx = some (.ext (XD dx fs)) ∧ KX K C ∧ hasDictIn K C = true ∧ NoAttr K C f ∧ fs.lookup f = some v ∧ Q v H1
theorem pe_xf {X : Cx} {e : Expr} {f : Str} {pos : Pos} {ta : TE} (he : PE X e ta) (hb : attributeBase e f X.env (eval e X.env) = eval e X.env) : PE X (.Attribute e f pos) (tXf X.K ta f) := by
  intro pins s σ H Q I h
  refine attr_of hb (thn (he pins s σ H _ I h) fun u s1 ⟨x, H1, I1, rx, a, C, dx, fs, v, φ, ex, ea, hφ, ed, k, hd, n, l, q⟩ => ?_)
  subst ex
  obtain rfl : u = Value.ref a := rx
  obtain ⟨p, _, _⟩ := I1.hok a _ ea
  obtain ⟨⟨mA, nn, r, _⟩, _, _⟩ := I1.hok dx _ ed
  obtain ⟨o, vs, g1, g2, g3, g4⟩ := hφ _ p
  obtain ⟨od, ho, hl⟩ := lookIn_ns nn
  obtain ⟨u', hu, ru⟩ := RelO.some_of (v := v) (o := mA f) (by rw [← l]; exact r f)
  have IA : InstAt s1.heap a o C (some od) := ⟨g1, g2, by unfold notCls; rw [g4], by rw [g3]; exact ho⟩
  obtain ⟨hp, g, d, t, os⟩ := s1
  exact xattr I1.kIn k IA (findObj_own hd n rfl (by rw [hl, hu])) (handed_of ru) ⟨v, H1, I1.tok _, ru, q⟩
/-! making one -/
structure MkX (K : Frag) (C f : Addr) : Prop where
  ex : excInI K C bmVE "ValueError.__new__" = true
  init : findIn K (.ref C) "__init__" = some (some (.ref f))
  fn : isFn K (.ref f) = true
  kp : keepIn K (.ref C) = true
/-- C(..), an exception: the object, then __init__ -/
def tMakeX (C : Addr) (sp : Sp) (dvs : List V) (E : XK) (t : TA) : TE := fun σ H Q => t σ H fun vs H1 => vs.length ≤ sizeLine ∧ ∀ x, H1 x = none → sp (.ref x :: (vs ++ dvs)) (upd H1 x (.ext (XP C x none))) (fun v H2 => v = .non ∧ Q (.ref x) H2) E
section
variable {X : Cx} {CX : CXT} {k : Nat} {f C : Addr} {fd : FuncData} {ps : List Str} {sp : Sp} {dvs : List V} {ds : List Value} {E : XK} {x m : Str} {p pos apos : Pos} {e o : Expr} {es : List Expr} {ta : TE} {t : TA}
theorem run_makeX {pins : List (Addr × Obj)} {σ : St} {H : Hp} {s : Shared} {Q : VK} {us : List Value} {vs : List V} (M : MkX X.K C f) (F' : FnOk X.prog X.w X.K X.mg X.base CX k f fd ps sp) (hr : Room (k + 1) X.A) (hb : Binds X.K fd ps ds) (hd : Vals dvs ds)
    (hx : Passes CX X E) (I : Inv X pins σ H s) (r : Vals vs us) (hz : vs.length ≤ sizeLine)
    (h : ∀ x, s.heap.objs.size ≤ x → H x = none → sp (.ref x :: (vs ++ dvs)) (upd H x (.ext (XP C x none))) (fun v H2 => v = .non ∧ Q (.ref x) H2) E) :
    wpAny (model X.prog X.w) X.A (call (.ref C) us) (EP X pins σ Q) X.xe s := by
  obtain ⟨bm, N, nm, qn, bs, sn, sub, ab, col, dd, k0, k1, k2, k3, k5, mN, hC, hn, T, cd, hcd, hmro, _⟩ := excI_of I.kIn M.ex
  have hq := h (s.heap.objs.size + 1) (Nat.le_succ _) (I.hok.fresh (Nat.le_succ _))
  obtain ⟨hp, g, d, tk, os⟩ := s
  have I1 := I.kept (h' := hp.push { cls := .type "tuple", data := .seq us.toArray }) (t' := tk) (fun b u q => Heap.get?_push_of_some _ q)
  have e2 : ((hp.push { cls := .type "tuple", data := .seq us.toArray }).push (excNew C hp.objs.size)).get? (hp.objs.size + 1) = some (excNew C hp.objs.size) := by
    have := Heap.get?_push_size (hp.push { cls := .type "tuple", data := .seq us.toArray }) (o := excNew C hp.objs.size) rfl
    rwa [Heap.size_push] at this
  have I2 := I1.laid (a := hp.objs.size + 1) (o := .ext (XP C (hp.objs.size + 1) none)) (h' := (hp.push { cls := .type "tuple", data := .seq us.toArray }).push (excNew C hp.objs.size)) (t' := tk) (fun b u q => Heap.get?_push_of_some _ q) (Nat.le_of_eq (Heap.size_push _ _)) ⟨⟨_, e2⟩, ⟨_, e2⟩, xp_stable⟩
  have r2 : Vals (V.ref (hp.objs.size + 1) :: (vs ++ dvs)) (Value.ref (hp.objs.size + 1) :: (us ++ ds)) := .cons rfl (r.append hd)
  have hl : (Value.ref (hp.objs.size + 1) :: us ++ ds).length = ps.length := by
    have e := r2.length
    rw [F'.len _ _ _ _ hq] at e
    exact e.symm
  refine call_excI (bmB := bmVE) F.excBase_ValueError (by decide) F.excBase_ValueError T hC I.kIn M.init M.fn ?_ (by rw [← r.length]; exact hz)
  refine wpAny_call (codeAny_mono (F'.run _ X.stack _ _ ⟨Value.ref (hp.objs.size + 1) :: us, []⟩ (Value.ref (hp.objs.size + 1) :: (us ++ ds)) _ _ E (hr.make C us [])
    (I2.env0.make C us []) (hb _ (Value.ref (hp.objs.size + 1) :: us) I2.kIn hl) r2 hq) fun r s' hq' => ?_)
  cases r with
  | error e => exact hx pins σ _ _ e s' I2 hq'
  | ok fl =>
    cases fl with
    | ret u =>
      obtain ⟨v, H', I3, rv, ev, q3⟩ := I2.after hq'
      subst ev
      exact ⟨rv, ⟨V.ref (hp.objs.size + 1), H', I3, rfl, q3⟩⟩
    | next => exact False.elim hq'
    | brk => exact False.elim hq'
    | cont => exact False.elim hq'
theorem pe_makeX (M : MkX X.K C f) (F' : FnOk X.prog X.w X.K X.mg X.base CX k f fd ps sp) (hr : Room (k + 1) X.A) (hg : Gl X x) (hm : X.mg x = some (.ref C)) (hb : Binds X.K fd ps ds) (hd : Vals dvs ds) (hx : Passes CX X E)
    (ha : PA X (e :: es) t) (hdb : (x == ("__debug__" : Str)) = false := by decide) (he : starEach (e :: es) X.env = (false, eval e X.env) :: starEach es X.env := by rfl) (hpl : (backTo pos (starEach es X.env)).any (·.1) = false := by rfl) :
    PE X (.Call (.Name x p) (e :: es) [] pos) (tMakeX C sp dvs E t) := by
  intro pins s σ H Q I h
  refine wpAny_Call_Name_kw (ld_glob I hg hm ?_ hdb)
  refine PySem.W.callWith_K (h₀ := X.base) I.ok.mod.kin M.kp (thn (ha pos pins s σ H _ I h) fun us s1 ⟨vs, H1, I1, r, hz, q⟩ => ⟨I1.kIn, ?_⟩) he hpl
  exact run_makeX M F' hr hb hd hx I1 r hz fun x _ => q x
/-- isinstance(e, D) of an exception that is known by some way -/
def rIsiG (K : Frag) : List V → Hp → VK → Prop := fun vs H Q => ∃ a C c D b φ, vs = [.ref a, c] ∧ H a = some (.ext φ) ∧ (∀ h, φ h → ExcAt C a h) ∧ KX K C ∧ hasDictIn K C = true ∧ RelV c D ∧ kitOne K (.ref C) D = some b ∧ Q (.bl b) H
theorem call_isiG : CallR X (.builtin "isinstance") (rIsiG X.K) := by
  intro pins s σ H xs us Q I r h
  obtain ⟨a, C, c, D, b, φ, rfl, hH, hφ, hk, hcl, rc, e, q⟩ := h
  obtain ⟨u, w', rfl, rx, rw'⟩ := vals2 r
  cases rx
  have hD : w' = D := by
    cases c <;> simp [RelV] at rc rw' <;> first | (rw [rw', rc]) | (obtain ⟨t1, e1⟩ := rc; obtain ⟨t2, e2⟩ := rw'; subst e1; subst e2; exact absurd e (by simp [kitOne, kitCls]))
  subst hD
  obtain ⟨cd, hcd, _⟩ := any_some hcl
  obtain ⟨p, _, _⟩ := I.hok a _ hH
  exact PySem.W.kia_one (kitx_exc hk hcd) I.kIn (hφ _ p) e (fun z => nomatch z) fun tk => ⟨.bl b, H, I.tok tk, rfl, q⟩
theorem xp_exc {C a : Addr} {dx : Option Addr} (h : Heap) (p : XP C a dx h) : ExcAt C a h := let ⟨_, g⟩ := p; ⟨_, _, g, rfl, rfl⟩
end
/-! the making of an exception whose __init__ stores its parameters, one after another -/
def inner (s : Stmt) : Stmt := match s with
  | .ClassDef _ _ _ b _ _ _ _ _ _ _ => b.headD (.Pass ⟨0, 0, 0, 0⟩)
  | _ => .Pass ⟨0, 0, 0, 0⟩
def spInit (K : Frag) (fs : List Str) : Sp := fun vs H Q _ => ∃ a C ys, vs = .ref a :: ys ∧ ys.length = fs.length ∧ KXs K C ∧ (∀ f ∈ fs, NoAttr K C f) ∧ H a = some (.ext (XP C a none)) ∧
  ∀ dx, H dx = none → dx ≠ a → Q .non (upd (upd H dx (.ext (XD dx (fs.zip ys)))) a (.ext (XP C a (some dx))))
theorem upd_sw {H : Hp} {a b : Addr} {u v u' : HO} (h : b ≠ a) : upd (upd (upd H b u) a v) b u' = upd (upd H b u') a v := by
  funext c
  unfold upd
  by_cases h1 : c = b
  · subst h1; rw [if_pos rfl, if_neg h, if_pos rfl]
  · simp only [if_neg h1]
theorem upd_back {H : Hp} {a b : Addr} {u v u' : HO} : upd (upd (upd H a u) b v) a u' = upd (upd H b v) a u' := by
  funext c
  unfold upd
  by_cases h1 : c = a
  · simp only [if_pos h1]
  · simp only [if_neg h1]
structure NewX (P : Program) (w : World) (K : Frag) (mg : Str → Option Value) (base : Heap) (C : Addr) (fs : List Str) : Prop where
  s : KXs K C
  no : ∀ f ∈ fs, NoAttr K C f
  le : fs.length ≤ 1000
  ini : ∃ f fd, MkX K C f ∧ FnOk P w K mg base CX0 1 f fd ("self" :: fs) (spInit K fs) ∧ Binds K fd ("self" :: fs) []
def tNewX (C : Addr) (fs : List Str) (t : TA) : TE := fun σ H Q => t σ H fun vs H1 => vs.length = fs.length ∧ ∀ a dx H2, H1 a = none → H1 dx = none → Same H1 H2 → H2 a = some (.ext (XP C a (some dx))) → H2 dx = some (.ext (XD dx (fs.zip vs))) → Q (.ref a) H2
section
variable {X : Cx} {C : Addr} {fs : List Str} {x : Str} {p pos : Pos} {e : Expr} {es : List Expr} {t : TA}
theorem PA.mono {t' : TA} (ha : PA X es t) (h : ∀ σ H Q, t' σ H Q → t σ H Q) : PA X es t' := fun pos pins s σ H Q I q => ha pos pins s σ H Q I (h σ H Q q)
theorem pe_newX (M : NewX X.prog X.w X.K X.mg X.base C fs) (hr : Room 2 X.A) (hg : Gl X x) (hm : X.mg x = some (.ref C)) (ha : PA X (e :: es) t) (hdb : (x == ("__debug__" : Str)) = false := by decide)
    (he : starEach (e :: es) X.env = (false, eval e X.env) :: starEach es X.env := by rfl) (hpl : (backTo pos (starEach es X.env)).any (·.1) = false := by rfl) :
    PE X (.Call (.Name x p) (e :: es) [] pos) (tNewX C fs t) := by
  obtain ⟨f, fd, M', F', b⟩ := M.ini
  intro pins s σ H Q I h
  refine wpAny_Call_Name_kw (ld_glob I hg hm ?_ hdb)
  refine PySem.W.callWith_K (h₀ := X.base) I.ok.mod.kin M'.kp (thn (ha pos pins s σ H _ I h) fun us s1 ⟨vs, H1, I1, r, hl, q⟩ => ⟨I1.kIn, ?_⟩) he hpl
  refine run_makeX (dvs := []) M' F' hr b .nil pass0 I1 r (by rw [hl, sizeLine_eq]; have := M.le; omega) fun a _ hn => ?_
  refine ⟨a, C, vs ++ [], rfl, by rw [List.append_nil]; exact hl, M.s, M.no, upd_same, fun dx hd hda => ⟨rfl, ?_⟩⟩
  rw [upd_ne hda] at hd
  rw [upd_back, List.append_nil]
  exact q a dx _ hn hd (fun c o' z => by rw [upd_ne (ne_of_none z hn), upd_ne (ne_of_none z hd)]; exact z) upd_same (by rw [upd_ne hda]; exact upd_same)
end
end L2

/-! ### own additions to the layer, 9q: what notes an exception's way keeps the dict of each object -/
namespace L2
open PySem PySem.Spec PyProof.Rows PySem.W
def Dk (h h' : Heap) : Prop := ∀ b o, h.get? b = some o → ∃ o', h'.get? b = some o' ∧ o'.dict = o.dict
theorem Dk.refl (h : Heap) : Dk h h := fun _ o e => ⟨o, e, rfl⟩
theorem Dk.trans {h1 h2 h3 : Heap} (x : Dk h1 h2) (y : Dk h2 h3) : Dk h1 h3 := fun b o e =>
  let ⟨o1, e1, d1⟩ := x b o e; let ⟨o2, e2, d2⟩ := y b o1 e1; ⟨o2, e2, d2.trans d1⟩
/-- a tree that keeps the dict of each object -/
def KD {α : Type} (t : Sem α) : Prop := ∀ (M : Model) (Γ : PySem.Ctx) (Q : α → Pos → Shared → Prop) (E : Value → Pos → Shared → Prop) (p : Pos) (s : Shared),
  Sem.wp M Γ t Q E p s → Sem.wp M Γ t (fun a p' s' => Q a p' s' ∧ Dk s.heap s'.heap) (fun e p' s' => E e p' s' ∧ Dk s.heap s'.heap) p s
section
variable {α β : Type}
theorem kd_pure (a : α) : KD (pure a : Sem α) := fun _ _ _ _ _ s h => ⟨h, Dk.refl s.heap⟩
theorem kd_unsup (m : String) : KD (Sem.unsupported m : Sem α) := fun _ _ _ _ _ _ h => False.elim (by simpa using h)
theorem kd_bind {t : Sem α} {f : α → Sem β} (h1 : KD t) (h2 : ∀ a, KD (f a)) : KD (t >>= f) := by
  intro M Γ Q E p s h
  rw [Sem.wp_bind'] at h ⊢
  refine Sem.wp_mono M Γ t (fun a p1 s1 z => ?_) (fun _ _ _ z => z) p s (h1 M Γ _ _ p s h)
  exact Sem.wp_mono M Γ (f a) (fun _ _ _ y => ⟨y.1, z.2.trans y.2⟩) (fun _ _ _ y => ⟨y.1, z.2.trans y.2⟩) p1 s1 (h2 a M Γ _ _ p1 s1 z.1)
theorem kd_load (a : Addr) (part : Option Value) : KD (loadPart a part) := fun M Γ Q E p s h => by
  unfold loadPart at h ⊢
  rw [Sem.wp_load] at h ⊢
  obtain ⟨o, e, q⟩ := h
  exact ⟨o, e, q, Dk.refl _⟩
theorem dk_update {h : Heap} {a : Addr} {f : Obj → Obj} (hf : ∀ o : Obj, (f o).dict = o.dict ∧ (o.isFreed = false → (f o).isFreed = false)) : Dk h (h.update a f) := fun b o e => by
  by_cases hb : a = b
  · subst hb
    exact ⟨_, Heap.get?_update_self f e ((hf o).2 (Heap.get?_some_iff.mp e).2), (hf o).1⟩
  · exact ⟨o, (Heap.get?_update_other h f hb).trans e, rfl⟩
theorem kd_update (a : Addr) (part : Option Value) {f : Obj → Obj} (hf : ∀ o : Obj, (f o).dict = o.dict ∧ (o.isFreed = false → (f o).isFreed = false)) : KD (updatePart a part f) := fun M Γ Q E p s h => by
  unfold updatePart at h ⊢
  rw [Sem.wp_update] at h ⊢
  exact ⟨h.1, h.2, dk_update hf⟩
theorem kd_alloc (o : Obj) : KD (alloc o) := fun M Γ Q E p s h => by
  unfold alloc at h ⊢
  rw [Sem.wp_alloc] at h ⊢
  exact ⟨h, fun b ob e => ⟨ob, Heap.get?_push_of_some _ e, rfl⟩⟩
theorem kd_stack : KD stack := fun M Γ Q E p s h => ⟨h, Dk.refl _⟩
end
theorem wpAny_kd {α : Type} {t : Sem α} (k : KD t) {M : Model} {A : Around} {E : Value → Shared → Prop} {Q : α → Shared → Prop} {s : Shared} (h : wpAny M A t Q E s) : wpAny M A t (fun a s' => Q a s' ∧ Dk s.heap s'.heap) E s := fun Γ p hΓ =>
  Sem.wp_mono M Γ t (fun _ _ _ y => y) (fun _ _ _ y => y.1) p s (k M Γ _ _ p s (h Γ p hΓ))
theorem kd_field (v : Value) (i : Nat) : KD (field v i) := by
  unfold field fieldsOf
  refine kd_bind ?_ fun vs => ?_
  · split
    · refine kd_bind (kd_load _ _) fun o => ?_
      split
      · exact kd_pure _
      · exact kd_unsup _
    · exact kd_unsup _
  · first
    | (split <;> first | exact kd_pure _ | exact kd_unsup _)
theorem map_dict (g : Array Value → Array Value) (o : Obj) : (Obj.mapFields g o).dict = o.dict ∧ (o.isFreed = false → (Obj.mapFields g o).isFreed = false) := by
  obtain ⟨c, d, dt, sl⟩ := o
  cases dt <;> exact ⟨rfl, fun z => z⟩
theorem kd_setField (v : Value) (i : Nat) (x : Value) : KD (setField v i x) := by
  unfold setField updateField
  split
  · refine kd_bind (kd_load _ _) fun o => ?_
    split
    · split
      · exact kd_update _ _ (map_dict _)
      · exact kd_unsup _
    · exact kd_unsup _
  · exact kd_unsup _
theorem kd_setFlight (e : Value) (f : Option Addr) : KD (setFlight e f) := by
  unfold setFlight
  refine kd_bind (kd_field _ _) fun tb => ?_
  split
  · exact kd_setField _ _ _
  · exact kd_pure _
theorem kd_behind (env : Env) (outer : List Env) : KD (behindIsImport env outer) := by
  unfold behindIsImport
  split
  · exact kd_pure _
  · split
    · exact kd_pure _
    · exact kd_bind (kd_field _ _) fun _ => kd_pure _
theorem kd_under : KD underTheClaimsCaller := by
  unfold underTheClaimsCaller
  exact kd_bind kd_stack fun _ => kd_pure _
theorem kd_kept (env : Env) (b : Bool) (l : List Env) : KD (keptBack env b l) := by
  unfold keptBack
  split
  · split
    · exact kd_pure _
    · exact kd_bind kd_under fun _ => kd_pure _
  · exact kd_pure _
theorem kd_ready : ∀ l : List Env, KD (readyFrames l)
  | [] => kd_pure _
  | env :: outer => by
    unfold readyFrames
    split
    · refine kd_bind (kd_load _ _) fun o => ?_
      split
      · exact kd_pure _
      · refine kd_bind (kd_behind _ _) fun b => kd_bind (kd_kept _ _ _) fun v => kd_bind (kd_update _ _ fun o => ⟨rfl, fun z => by obtain ⟨c, d, dt, sl⟩ := o; cases dt <;> exact z⟩) fun _ => kd_ready outer
    · exact kd_unsup _
theorem kd_frameObject (l : List Env) : KD (frameObject l) := by
  unfold frameObject
  split
  · exact kd_pure _
  · exact kd_bind (kd_ready _) fun _ => kd_pure _
theorem kd_frameEnvs : KD frameEnvs := by
  unfold frameEnvs
  exact kd_bind kd_stack fun _ => kd_pure _
theorem kd_frameOf (env : Env) : KD (PySem.frameOf env) := by
  unfold PySem.frameOf
  refine kd_bind kd_frameEnvs fun l => kd_bind (kd_frameObject _) fun r => ?_
  split
  · exact kd_pure _
  · exact kd_unsup _
theorem kd_place (f : Addr) (b : Bool) : KD (entryPlaceOf f b) := by
  unfold entryPlaceOf
  refine kd_bind kd_stack fun l => ?_
  split
  · exact kd_pure _
  · exact kd_pure _
theorem kd_newEntry (a b c d e : Value) (pl : List Value) : KD (EntryCells.newEntry a b c d e pl) := by
  unfold EntryCells.newEntry newFields newObj newObjAsIs
  generalize ([a, b, c, d, e] ++ if pl.isEmpty = true then List.replicate 6 Value.none else pl).toArray = ws
  dsimp only
  split
  · exact kd_bind (kd_unsup _) fun _ => kd_bind (kd_alloc _) fun _ => kd_pure _
  · exact kd_bind (kd_alloc _) fun _ => kd_pure _
theorem kd_note (e : Value) (env : Env) : KD (noteFrame e env) := by
  unfold noteFrame
  split
  · refine kd_bind (kd_field _ _) fun hd => ?_
    dsimp only
    split
    · refine kd_bind (kd_field _ _) fun x => ?_
      split
      · exact kd_pure _
      · exact kd_bind (kd_setField _ _ _) fun _ => kd_bind (kd_frameOf _) fun _ => kd_bind (kd_place _ _) fun _ => kd_bind (kd_newEntry _ _ _ _ _ _) fun _ => kd_setField _ _ _
    · exact kd_bind (kd_frameOf _) fun _ => kd_bind (kd_place _ _) fun _ => kd_bind (kd_newEntry _ _ _ _ _ _) fun _ => kd_setField _ _ _
  · exact kd_unsup _
theorem kd_leaving (env : Env) (e : Value) : KD (leaving env e) := kd_bind (kd_note e env) fun _ => kd_setFlight e none
end L2

/-! ### own additions to the layer, 9r: exceptions that bear fields in flight -/
namespace L2
open PySem PySem.Spec PyProof.Rows PySem.W
/-- the dict of an object -/
def DictIs (h : Heap) (a : Addr) (dd : Option Addr) : Prop := ∃ o, h.get? a = some o ∧ o.dict = dd
theorem DictIs.dk {h h' : Heap} {a : Addr} {dd : Option Addr} (d : DictIs h a dd) (k : Dk h h') : DictIs h' a dd :=
  let ⟨o, e, q⟩ := d; let ⟨o', e', q'⟩ := k a o e; ⟨o', e', q'.trans q⟩
/-- how an exception of an own class, with its dict, lies behind a call -/
def CX2 (P : Program) (w : World) : CXT := fun outer H s E e s' => ∃ (a C t : Addr) (H' : Hp) (B : Heap) (dd : Option Addr), e = .ref a ∧ s'.os = s.os ∧ AllBare s'.gens ∧ Fly P w outer H H' s.heap B a (.ref C) (.ref t) s'.heap ∧ DictIs s'.heap a dd ∧ E (.ref C) dd H'
/-- one address is tracked no more -/
def del (H : Hp) (a : Addr) : Hp := fun b => if b = a then none else H b
theorem del_same {H : Hp} {a : Addr} : del H a a = none := by unfold del; rw [if_pos rfl]
theorem del_ne {H : Hp} {a b : Addr} (h : b ≠ a) : del H a b = H b := by unfold del; rw [if_neg h]
/-- what a body wants of an exception with fields that is made here -/
def RzF (X : Cx) (E : XK) : Prop := ∀ (pins : List (Addr × Obj)) (σ : St) (H : Hp) (s : Shared) (a C : Addr) (dx : Option Addr), Inv X pins σ H s → X.s₀.heap.objs.size ≤ a → H a = some (.ext (XP C a dx)) → E (.ref C) dx (del H a) → X.xe (.ref a) s
section
variable {P : Program} {w : World} {K : PySem.W.Frag} {mg : Str → Option Value} {base : Heap} {N : List Str} {qual : Str} {scope : Scope} {f : Addr} {cd : Value} {A : Around} {outer : List Env} {s₀ : Shared} {H₀ : Hp} {E : XK}
theorem rzF_cx : RzF (cxOf (CX2 P w) P w K mg base N qual scope f cd A outer s₀ H₀ E) E := by
  intro pins σ H s a C dx I ha0 hHa hE
  let env := envOfC qual scope s₀.heap.objs.size f cd
  have hf : env.frame = some s₀.heap.objs.size := rfl
  have ha1 : s₀.heap.objs.size ≤ a := ha0
  obtain ⟨⟨t0, hg⟩, _, _⟩ := I.hok a _ hHa
  have hst := I.stack
  have nfa : a ∉ frs (env :: outer) := fun hb => by
    have := I.stkFree a hb
    rw [this] at hHa
    cases hHa
  let hid := a :: frs (env :: outer)
  have hBs : (hideAll s.heap hid).StaysIn s.heap := fun b o q => of_hideAll _ q
  have hin : ∀ v ∈ (env :: outer), ∀ b, v.frame = some b → b ∈ hid := fun v hv b hb => List.mem_cons_of_mem _ (List.mem_filterMap.mpr ⟨v, hv, hb⟩)
  have hFF : s.heap.FunFrames (hideAll s.heap hid) (env :: outer) := funFrames_hide hst hin
  have hBa : (hideAll s.heap hid).get? a = none := hideAll_none _ List.mem_cons_self
  show wpAny _ _ (leaving env (.ref a)) _ _ _
  have lib := wpAny_leaving_firstW (M := model P w) (A := (cxOf (CX2 P w) P w K mg base N qual scope f cd A outer s₀ H₀ E).A) (E := fun _ _ => False) (s := s) (Q := fun _ s' => ∃ h', s' = { s with heap := h' } ∧ Heap.LeftW (hideAll s.heap hid) (env :: outer) a (.ref C) (.ref t0) s.heap h') (I.ok.frames) hFF hf hg hBs hBa rfl rfl rfl fun h' L => ⟨h', rfl, L⟩
  refine wpAny_mono (wpAny_kd (kd_leaving env (.ref a)) lib) (fun _ s' z => ?_) fun _ _ z => z.elim
  obtain ⟨⟨h2, rfl, k1, ⟨_, _, k2⟩, k3, x4⟩, dk⟩ := z
  have ni : ∀ b o, s₀.heap.get? b = some o → b ∉ frs outer → b ∉ hid := fun b o q nb hb => by
    rcases List.mem_cons.mp hb with z | z
    · exact absurd (Heap.lt_size q) (by rw [z]; exact Nat.not_lt.mpr ha1)
    · rcases (mem_frs_cons hf).mp z with z | z
      · exact absurd (Heap.lt_size q) (by rw [z]; exact Nat.lt_irrefl _)
      · exact nb z
  refine ⟨a, C, t0, del H a, _, dx, rfl, I.os, I.bare, ⟨fun b o q n nb => ?_, fun b o q nb => ?_, fun b o q hb => ?_, fun b o q n => ?_, fun b xs q => ?_, fun b o u q => ?_, fun b ps q => ?_, fun b u q => ?_, ⟨k1, hBa, k2, k3⟩⟩, DictIs.dk ⟨_, hg, rfl⟩ dk, hE⟩
  · exact hideAll_get _ (I.base.keep b o q n nb (by intro z; cases z)) (ni b o q nb)
  · obtain ⟨o', q'⟩ := I.base.there b o q (by intro z; cases z)
    exact ⟨o', hideAll_get _ q' (ni b o q nb)⟩
  · obtain ⟨sl, q'⟩ := I.base.slot b o q (I.ok.frf b hb) hb (by intro z; cases z)
    obtain ⟨_, o', ho', hn⟩ := hst.mem ((mem_frs_cons hf).mpr (.inr hb))
    rw [q'] at ho'
    have e1 := Option.some.inj ho'
    obtain ⟨sl', q2⟩ := x4 b _ q' (by rw [e1]; exact hn)
    exact ⟨sl', q2⟩
  · have := I.base.free b o q n (by intro z; cases z)
    unfold del
    split
    · rfl
    · exact this
  · have := I.base.tups b xs q
    rw [del_ne (ne_of this hHa (by intro z; cases z))]
    exact this
  · have := I.base.frzs b o u q
    rw [del_ne (ne_of this hHa (by intro z; cases z))]
    exact this
  · obtain ⟨m1, e1⟩ := I.base.tbls b ps q
    exact ⟨m1, by rw [del_ne (ne_of e1 hHa (by intro z; cases z))]; exact e1⟩
  · have hba : b ≠ a := fun z => by subst z; rw [del_same] at q; cases q
    rw [del_ne hba] at q
    have nf : ∀ c v, H c = some v → c ≠ a → c ∉ hid := fun c v q' hca hb => by
      rcases List.mem_cons.mp hb with z | z
      · exact hca z
      · have := I.stkFree c z
        rw [this] at q'
        cases q'
    have no : ∀ c, H c = some (.own b) → c ≠ a := fun c q' => ne_of q' hHa (by intro z; cases z)
    refine (I.hok b u q).stay (fun c v hc q' => hideAll_get _ q' ?_) (fun c q' => by rw [del_ne (no c q')]; exact q') fun c xs q' => by rw [del_ne (ne_of q' hHa (by intro z; cases z))]; exact q'
    rcases hc with z | z
    · rw [z]; exact nf b u q hba
    · exact nf c _ z (no c z)
theorem rz2_cx : Rz (cxOf (CX2 P w) P w K mg base N qual scope f cd A outer s₀ H₀ E) E := by
  intro pins σ H s h' e C vs I hx hE
  let env := envOfC qual scope s₀.heap.objs.size f cd
  have hf : env.frame = some s₀.heap.objs.size := rfl
  have hst := I.stack
  have hin : ∀ v ∈ (env :: outer), ∀ b, v.frame = some b → b ∈ frs (env :: outer) := fun v hv b hb => List.mem_filterMap.mpr ⟨v, hv, hb⟩
  have hBs : (hideAll s.heap (frs (env :: outer))).StaysIn s.heap := fun b o q => of_hideAll _ q
  have hFF : s.heap.FunFrames (hideAll s.heap (frs (env :: outer))) (env :: outer) := funFrames_hide hst hin
  obtain ⟨tx, hxt, _⟩ := hx.there
  show wpAny _ _ (leaving env (.ref e)) _ _ _
  have lib := wpAny_leaves_madeW (M := model P w) (A := (cxOf (CX2 P w) P w K mg base N qual scope f cd A outer s₀ H₀ E).A) (E := fun _ _ => False) (s := { s with heap := h' })
    (Q := fun _ s' => ∃ h2 t, s' = { s with heap := h2 } ∧ Heap.FlyingW (hideAll s.heap (frs (env :: outer))) outer e (.ref C) (.ref t) h2 ∧ h'.UpToSlots h2) (I.ok.frames) hf hBs hFF hx fun h2 t x1 _ _ x4 => ⟨h2, t, rfl, x1, x4⟩
  refine wpAny_mono (wpAny_kd (kd_leaving env (.ref e)) lib) (fun _ s' z => ?_) fun _ _ z => z.elim
  obtain ⟨⟨h2, t, rfl, x1, x4⟩, dk⟩ := z
  have ni : ∀ b o, s₀.heap.get? b = some o → b ∉ frs outer → b ∉ frs (env :: outer) := fun b o q nb hb => by
    rcases (mem_frs_cons hf).mp hb with z | z
    · exact absurd (Heap.lt_size q) (by rw [z]; exact Nat.lt_irrefl _)
    · exact nb z
  refine ⟨e, C, t, H, _, none, rfl, I.os, I.bare, ⟨fun b o q n nb => ?_, fun b o q nb => ?_, fun b o q hb => ?_, fun b o q n => I.base.free b o q n (by intro z; cases z), I.base.tups, I.base.frzs, I.base.tbls, fun b u q => ?_, x1⟩, DictIs.dk ⟨_, hxt, rfl⟩ dk, hE⟩
  · exact hideAll_get _ (I.base.keep b o q n nb (by intro z; cases z)) (ni b o q nb)
  · obtain ⟨o', q'⟩ := I.base.there b o q (by intro z; cases z)
    exact ⟨o', hideAll_get _ q' (ni b o q nb)⟩
  · obtain ⟨sl, q'⟩ := I.base.slot b o q (I.ok.frf b hb) hb (by intro z; cases z)
    obtain ⟨_, o', ho', hn⟩ := hst.mem ((mem_frs_cons hf).mpr (.inr hb))
    rw [q'] at ho'
    have e1 := Option.some.inj ho'
    obtain ⟨sl', q2⟩ := x4 b _ (hx.keeps b _ q') (by rw [e1]; exact hn)
    exact ⟨sl', q2⟩
  · have nf : ∀ c v, H c = some v → c ∉ frs (env :: outer) := fun c v q hb => by
      have := I.stkFree c hb
      rw [this] at q
      cases q
    refine (I.hok b u q).stay (fun c v hc q' => hideAll_get _ q' ?_) (fun _ q' => q') fun _ _ q' => q'
    rcases hc with z | z
    · rw [z]; exact nf b u q
    · exact nf c _ z
theorem passes2 : Passes (CX2 P w) (cxOf (CX2 P w) P w K mg base N qual scope f cd A outer s₀ H₀ E) E := by
  intro pins σ H s e s' I hc
  obtain ⟨a, C, t, H', B, dd, rfl, ho, hb, F, hdd, hE⟩ := hc
  let env := envOfC qual scope s₀.heap.objs.size f cd
  have hf : env.frame = some s₀.heap.objs.size := rfl
  have F' : Fly P w (env :: outer) H H' s.heap B a (.ref C) (.ref t) s'.heap := F
  show wpAny _ _ (leaving env (.ref a)) _ _ _
  have lib := wpAny_leaves_onW (M := model P w) (A := (cxOf (CX2 P w) P w K mg base N qual scope f cd A outer s₀ H₀ E).A) (E := fun _ _ => False) (s := s')
    (Q := fun _ s2 => ∃ h2, s2 = { s' with heap := h2 } ∧ Heap.FlyingW B outer a (.ref C) (.ref t) h2 ∧ s'.heap.UpToSlots h2) (I.ok.frames) hf F'.fly fun h2 x1 x4 => ⟨h2, rfl, x1, x4⟩
  refine wpAny_mono (wpAny_kd (kd_leaving env (.ref a)) lib) (fun _ s2 z => ?_) fun _ _ z => z.elim
  obtain ⟨⟨h2, rfl, x1, x4⟩, dk⟩ := z
  have ni : ∀ b o, s₀.heap.get? b = some o → b ∉ frs outer → b ∉ frs (env :: outer) := fun b o q nb hb => by
    rcases (mem_frs_cons hf).mp hb with z | z
    · exact absurd (Heap.lt_size q) (by rw [z]; exact Nat.lt_irrefl _)
    · exact nb z
  refine ⟨a, C, t, H', B, dd, rfl, ho.trans I.os, hb, ⟨fun b o q n nb => ?_, fun b o q nb => ?_, fun b o q hb => ?_, fun b o q n => ?_, fun b xs q => F'.tups b xs (I.base.tups b xs q), fun b o u q => F'.frzs b o u (I.base.frzs b o u q), fun b ps q => ?_, F'.hok, x1⟩, hdd.dk dk, hE⟩
  · exact F'.keep b o (I.base.keep b o q n nb (by intro z; cases z)) (I.base.free b o q n (by intro z; cases z)) (ni b o q nb)
  · obtain ⟨o', q'⟩ := I.base.there b o q (by intro z; cases z)
    exact F'.there b o' q' (ni b o q nb)
  · obtain ⟨sl, q'⟩ := I.base.slot b o q (I.ok.frf b hb) hb (by intro z; cases z)
    obtain ⟨sl2, q2⟩ := F'.slot b _ q' ((mem_frs_cons hf).mpr (.inr hb))
    obtain ⟨_, o', ho', hn⟩ := F'.fly.2.2.1.mem ((mem_frs_cons hf).mpr (.inr hb))
    rw [q2] at ho'
    have e1 := Option.some.inj ho'
    obtain ⟨sl', q3⟩ := x4 b _ q2 (by rw [e1]; exact hn)
    exact ⟨sl', q3⟩
  · obtain ⟨o', q'⟩ := I.base.there b o q (by intro z; cases z)
    exact F'.free b o' q' (I.base.free b o q n (by intro z; cases z))
  · obtain ⟨m1, e1⟩ := I.base.tbls b ps q
    obtain ⟨m2, e2⟩ := F'.tbls b _ e1
    exact ⟨m1 ++ m2, by rw [e2, Array.append_assoc]⟩
/-- a def that may raise: its body as a term of rules -/
theorem Fun.okF {x qual : Str} {st : Stmt} {f : Addr} {fd : FuncData} {N ps : List Str} {k : Nat} {sp : Sp} (F : Fun K x qual st f fd) (S : FnScope N ps (defScope st)) (len : ∀ vs H Q E, sp vs H Q E → vs.length = ps.length)
    (hbody : ∀ (cdv : Value) (A : Around) (outer : List Env) (s : Shared) (H : Hp) (vs : List V) (Q : VK) (E : XK), Room k (A.deeper (envOfC qual (defScope st) s.heap.objs.size f cdv)) → sp vs H Q E →
      ∃ t, PSs (cxOf (CX2 P w) P w K mg base N qual (defScope st) f cdv A outer s H E) (defBody st) t ∧ t { nx := fun _ H' => Q .non H', rt := Q } (start N vs) H) : FnOk P w K mg base (CX2 P w) (k + 1) f fd ps sp := by
  obtain ⟨oc, od, kV, doc, pm, an, cdv, ct, osl, rfl, lk, hcd⟩ := F.ex
  exact fn_of lk hcd S len fun A outer s H vs Q E hr hsp => hbody cdv A outer s H vs Q E hr hsp
end
/-- a def that may raise, called: what it raises is what is wanted here -/
theorem pe_chF {X : Cx} {x : Str} {k : Nat} {ps : List Str} {sp : Sp} {e : Expr} {es : List Expr} {t : TA} {p pos : Pos} {E : XK} (h : Has X.prog X.w X.K X.mg X.base (CX2 X.prog X.w) x k ps sp) (hx : Passes (CX2 X.prog X.w) X E) (hr : Room k X.A) (hg : Gl X x) (ha : PA X (e :: es) t) (hdb : (x == ("__debug__" : Str)) = false := by decide)
    (he : starEach (e :: es) X.env = (false, eval e X.env) :: starEach es X.env := by rfl) (hpl : (backTo pos (starEach es X.env)).any (·.1) = false := by rfl) :
    PE X (.Call (.Name x p) (e :: es) [] pos) (tCall sp [] E t) := by
  obtain ⟨f, fd, F, b, kp, m⟩ := h.ex
  exact pe_call F hr hg m kp b .nil hx ha hdb he hpl
/-- .. where nothing is raised -/
theorem passNF {P : Program} {w : World} {X : Cx} : Passes (CX2 P w) X E0 := fun _ _ _ _ _ _ _ ⟨_, _, _, _, _, _, _, _, _, _, _, h⟩ => h.elim
/-! raise C(e, ..) of a class that stores what it is given -/
section
variable {M : Model} {A : Around} {E : Value → Shared → Prop} {env : Env} {nm qn : Str} {C Nc : Addr} {bs bm : List Value} {hdct : Bool} {sn : List Str} {sub : List Value} {ab : Bool} {col : Option Bool} {dd : Option Addr} {k0 k1 k2 k3 k5 : Option Value} {newId : String}
theorem raise_obj {s : Shared} {x : Sem Value} {Q : Flow → Shared → Prop} (hb : bm.contains (.type "BaseException") = true) (hh : A.handled = none)
    (h : wpAny M A x (fun v s1 => ∃ e t0 dx, v = .ref e ∧ s1.heap.get? C = some (excClassObj nm qn C Nc bs bm hdct sn sub ab col dd k0 k1 k2 k3 k5 newId) ∧
      s1.heap.get? e = some { cls := .ref C, dict := dx, data := .fields #[.ref t0, .none, .none, .none, .bool false, .none] } ∧ E (.ref e) s1) E s) : wpAny M A (raiseStmt env (some x) none) Q E s := by
  have hB : (Value.ref C :: bm).contains (.type "BaseException") = true := by rw [List.contains_cons, hb, Bool.or_true]
  unfold raiseStmt
  refine wpAny_bind (wpAny_mono h (fun v s1 z => ?_) fun _ _ z => z)
  obtain ⟨e, t0, dx, rfl, gC, ge, hE⟩ := z
  obtain ⟨hp, g, d, tk, os⟩ := s1
  repeat (first | with_reducible refine wpAny_loadPart_at ge ?_ | (with_reducible refine wpAny_isSubtype_exc gC ?_; rw [hB]) | with_reducible refine wpAny_loadPart_at gC ?_ | wp_step)
  exact wpAny_raiseNew_none hh hE
end
def tRaiseF (C : Addr) (fs : List Str) (E : XK) (t : TA) : TS := fun _ σ H => t σ H fun vs H1 => vs.length = fs.length ∧ ∀ dx H2, H1 dx = none → Same H1 H2 → H2 dx = some (.ext (XD dx (fs.zip vs))) → E (.ref C) (some dx) H2
section
variable {X : Cx} {C : Addr} {fs : List Str} {x : Str} {np cpos pos : Pos} {e : Expr} {es : List Expr} {t : TA} {E : XK}
theorem ps_raiseF (hz : RzF X E) (M : NewX X.prog X.w X.K X.mg X.base C fs) (hr : Room 2 X.A) (hg : Gl X x) (hm : X.mg x = some (.ref C)) (hc : X.calm = true) (ha : PA X (e :: es) t) (hdb : (x == ("__debug__" : Str)) = false := by decide)
    (he : starEach (e :: es) X.env = (false, eval e X.env) :: starEach es X.env := by rfl) (hpl : (backTo cpos (starEach es X.env)).any (·.1) = false := by rfl) :
    PS X (.Raise (some (.Call (.Name x np) (e :: es) [] cpos)) none pos) (tRaiseF C fs E t) := by
  intro pins s σ H D I h
  obtain ⟨f, fd, M', F', b⟩ := M.ini
  obtain ⟨bm, N, nm, qn, bs, sn, sub, ab, col, dd, k0, k1, k2, k3, k5, mN, hC, hn, T, _⟩ := excI_of I.mod.kin M'.ex
  rw [arm_exec_Raise]
  refine wpAny_bind (wpAny_standAt (raise_obj (C := C) (nm := nm) (qn := qn) (Nc := N) (bs := bs) (bm := bm) (hdct := true) (sn := sn) (sub := sub) (ab := ab) (col := col) (dd := dd) (k0 := k0) (k1 := k1) (k2 := k2) (k3 := k3) (k5 := k5) (newId := "ValueError.__new__") (T.hasType (X := "BaseException") (b := true) (by decide)) (I.ok.hd hc) ?_))
  refine wpAny_bind (wpAny_mono (?_ : wpAny (model X.prog X.w) X.A (eval (.Call (.Name x np) (e :: es) [] cpos) X.env) _ X.xe s) (fun v s1 z => wpAny_bind (wpAny_standAt (wpAny_pure z))) fun _ _ z => z)
  refine wpAny_Call_Name_kw (ld_glob I hg hm ?_ hdb)
  refine PySem.W.callWith_K (h₀ := X.base) I.ok.mod.kin M'.kp (thn (ha cpos pins s σ H _ I h) fun us s1 ⟨vs, H1, I1, r, hl, q⟩ => ⟨I1.kIn, ?_⟩) he hpl
  refine wpAny_mono (run_makeX (dvs := []) M' F' hr b .nil pass0 I1 r (by rw [hl, sizeLine_eq]; have := M.le; omega) (Q := fun v H2 => ∃ a dx, v = .ref a ∧ s1.heap.objs.size ≤ a ∧ H2 a = some (.ext (XP C a (some dx))) ∧ E (.ref C) (some dx) (del H2 a)) fun a hsz hn' => ⟨a, C, vs ++ [], rfl, by rw [List.append_nil]; exact hl, M.s, M.no, upd_same, fun dx hd hda => ⟨rfl, a, dx, rfl, hsz, upd_same, ?_⟩⟩) (fun u s' z => ?_) fun _ _ z => z
  · rw [upd_ne hda] at hd
    refine q dx _ hd (fun c o z => ?_) ?_
    · rw [del_ne (ne_of_none z hn'), upd_ne (ne_of_none z hn'), upd_ne (ne_of_none z hd), upd_ne (ne_of_none z hn')]
      exact z
    · rw [del_ne hda, upd_ne hda, upd_same, List.append_nil]
  · obtain ⟨v, H2, I2, rv, a, dx, rfl, hsz, hHa, hE⟩ := z
    cases rv
    obtain ⟨⟨t0, g0⟩, _, _⟩ := I2.hok a _ hHa
    exact ⟨a, t0, _, rfl, I2.bk _ _ hC, g0, hz pins σ H2 s' a C (some dx) I2 (Nat.le_trans I1.sz hsz) hHa hE⟩
end
end L2

/-! ### own additions to the layer, 9s: an exception that bears fields, caught -/
namespace L2
open PySem PySem.Spec PyProof.Rows
/-- an exception of the class at C, its dict -/
def XcD (C a : Addr) (dd : Option Addr) : Heap → Prop := fun h => ∃ o vs, h.get? a = some o ∧ o.cls = .ref C ∧ o.data = .fields vs ∧ o.dict = dd
theorem xcd_exc {C a : Addr} {dd : Option Addr} (h : Heap) (p : XcD C a dd h) : ExcAt C a h := let ⟨o, vs, q1, q2, q3, _⟩ := p; ⟨o, vs, q1, q2, q3⟩
theorem xcd_xg {C a dx : Addr} (h : Heap) (p : XcD C a (some dx) h) : XG C a dx h := let ⟨o, vs, q1, q2, q3, q4⟩ := p; ⟨o, vs, q1, q2, q4, q3⟩
/-- what the suite is given: the exception, its class of own classes under CW -/
def handF (K : PySem.W.Frag) (CW : Addr) (i : Nat) (tb : TS) (D : Ends) (σ : St) : XK := fun cls dd H2 => ∃ C, cls = .ref C ∧ PySem.W.mroIn K C (.ref CW) = some true ∧
  ∀ a, H2 a = none → tb { nx := fun σ' H' => D.nx (σ'.set i none) H', rt := D.rt, bk := fun σ' H' => D.bk (σ'.set i none) H', ct := fun σ' H' => D.ct (σ'.set i none) H' } (σ.set i (some (.ref a))) (upd H2 a (.ext (XcD C a dd)))
section
variable {X : Cx} {CW : Addr} {cx n : Str} {i : Nat} {b₀ : Stmt} {suite : List Stmt} {np hpos pos : Pos} {tb : TS}
/-- the exception is caught here -/
theorem caught2 {pins : List (Addr × Obj)} {σ : St} {H : Hp} {s s1 : Shared} {D : Ends} {e : Value} (hst : X.stack = X.env :: X.outer) (hf : X.env.frame = some X.env.locals) (hg : Gl X cx) (hm : X.mg cx = some (.ref CW)) (q : PySem.W.ktsIn X.K CW "BaseException" = true)
    (hN : X.N.Nodup) (hi : X.N[i]? = some n) (hk : X.env.kindOf n = some .local) (hs : ∀ a E, PSs (X.hand a E) (b₀ :: suite) tb) (hd : (cx == ("__debug__" : Str)) = false) (hex : X.ex = [])
    (I : Inv X pins σ H s) (hc : CX2 X.prog X.w X.stack H s (handF X.K CW i tb D σ) e s1) :
    wpAny (model X.prog X.w) X.A (noteFrame e X.env) (fun _ s₂ => wpAny (model X.prog X.w) X.A (setFlight e none) (fun _ s₃ =>
      wpAny (model X.prog X.w) X.A (handleBy e X.env [.ExceptHandler (some (.Name cx np)) (some n) (b₀ :: suite) hpos]) (SP X pins D) X.xe s₃) X.xe s₂) X.xe s1 := by
  obtain ⟨a, C, t, H', B, dd, rfl, ho, hb, F, hdd, C', hC', hsub, hE⟩ := hc
  cases hC'
  have hfr : X.A.frames = some (X.env :: X.outer) := by rw [← hst]; exact I.ok.frames
  have F0 : Fly X.prog X.w (X.env :: X.outer) H H' s.heap B a (.ref C) (.ref t) s1.heap := by rw [← hst]; exact F
  have lib1 := wpAny_looks_onW (M := model X.prog X.w) (A := X.A) (E := X.xe) (s := s1) (Q := fun _ s' => ∃ h4, s' = { s1 with heap := h4 } ∧ Heap.HeldW B (X.env :: X.outer) a (.ref C) (.ref t) X.env.locals h4 ∧ s1.heap.UpToSlots h4) hfr hf F0.fly fun h4 held4 sm4 => ⟨h4, rfl, held4, sm4⟩
  refine wpAny_mono (wpAny_kd (kd_note (.ref a) X.env) lib1) (fun _ s4 z4 => ?_) fun _ _ z => z
  obtain ⟨⟨h4, rfl, held4, sm4⟩, dk4⟩ := z4
  have lib2 := wpAny_landsW (M := model X.prog X.w) (A := X.A) (E := X.xe) (s := { s1 with heap := h4 }) (Q := fun _ s' => ∃ h5, s' = { s1 with heap := h5 } ∧ Heap.FlyingW B (X.env :: X.outer) a (.ref C) (.ref t) h5 ∧ h4.UpToSlots h5) held4 fun h5 fl5 sm5 => ⟨h5, rfl, fl5, sm5⟩
  refine wpAny_mono (wpAny_kd (kd_setFlight (.ref a) none) lib2) (fun _ s5 z5 => ?_) fun _ _ z => z
  obtain ⟨⟨h5, rfl, fl5, sm5⟩, dk5⟩ := z5
  have hd5 : DictIs h5 a dd := (hdd.dk dk4).dk dk5
  have inv : ∀ (h : Heap) (tk : Nat), Heap.FlyingW B (X.env :: X.outer) a (.ref C) (.ref t) h → s1.heap.UpToSlots h → Inv X pins σ H' { s1 with heap := h, toks := tk } := fun h tk fl sm => by
    have Fh := F0.on fl sm
    refine I.call' (ch := []) ho (by rw [hst]; exact Fh.un) Fh.hokh hb (fun b z => nomatch z)
  have I5 := inv h5 s1.toks fl5 (sm4.trans sm5)
  obtain ⟨oe, vs, g1, g2, g3, g4⟩ := fl5.first
  refine wpAny_handleBy_cons (codeAny_handlers_test ?_) (by intro q; cases q)
  refine ld_glob (X := X.hand a fun _ _ => False) (I5.hand a _) hg hm ?_ hd
  refine excMatches_K I5.kIn g1 g2 q hsub (codeAny_handlers_suite_as ?_)
  have lib3 : ∀ A3 : Around, wpAny (model X.prog X.w) A3 (setFlight (.ref a) none) (fun _ s' => ∃ h6, s' = { s1 with heap := h6 } ∧ Heap.FlyingW B (X.env :: X.outer) a (.ref C) (.ref t) h6 ∧ h5.UpToSlots h6) (fun _ _ => False) { s1 with heap := h5 } := fun A3 => lands_againW (s := { s1 with heap := h5 }) fl5 fun h6 fl6 sm6 => ⟨h6, rfl, fl6, sm6⟩
  refine wpAny_mono (wpAny_kd (kd_setFlight (.ref a) none) (lib3 _)) (fun _ s6 z6 => ?_) fun _ _ z => z.elim
  obtain ⟨⟨h6, rfl, fl6, sm6⟩, dk6⟩ := z6
  obtain ⟨od6, gd6, qd6⟩ : DictIs h6 a dd := hd5.dk dk6
  have I6 := inv h6 s1.toks fl6 ((sm4.trans sm5).trans sm6)
  obtain ⟨oe, vs, g1, g2, g3, g4⟩ := fl6.first
  have nH : H' a = none := F0.new
  have nB : B.get? a = none := fl6.2.1
  have nf : a ∉ frs (X.env :: X.outer) := fun hm => by
    obtain ⟨_, o, ho', hn'⟩ := fl6.2.2.1.mem hm
    rw [g1] at ho'
    cases ho'
    exact hn' _ g3
  have hL : a ≠ X.env.locals := fun z => nf ((mem_frs_cons hf).mpr (.inl z))
  have hfs : a ∉ X.fs := fun z => nf ((mem_frs_cons hf).mpr (.inr z))
  have old : ∀ b o, s.heap.get? b = some o → b ≠ a := fun b o e z => by
    subst z
    obtain ⟨o', e'⟩ := F0.there b o e nf
    rw [nB] at e'
    cases e'
  have h1 : X.s₀.heap.get? a = none := by
    cases e : X.s₀.heap.get? a with
    | none => rfl
    | some o =>
      obtain ⟨o', e'⟩ := I.base.there a o e (by rw [hex]; exact fun z => nomatch z)
      exact absurd rfl (old a o' e')
  have hcc : ∀ x c, X.env.cells.lookup x = some c → c ≠ a := fun x c e z => by
    obtain ⟨v, o, ho', hd'⟩ := I6.cell x c e
    have ho2 : h6.get? c = some o := ho'
    rw [z, g1] at ho2
    cases ho2
    rw [g3] at hd'
    cases hd'
  have hpp : ∀ p ∈ X.pn ++ pins, p.1 ≠ a := fun p hp z => by
    have := (I.pin p hp).1
    exact old _ _ this z
  have qd : oe.dict = dd := by
    have z : h6.get? a = some oe := g1
    rw [gd6] at z
    cases z
    exact qd6
  have I7 := I6.adopt (φ := XcD C a dd) nH h1 hL hfs hcc hpp ⟨⟨oe, vs, g1, g2, g3, qd⟩, ⟨oe, g1⟩, fun u v ⟨o, ws, q1, q2, q3, q4⟩ k => ⟨o, ws, k o q1, q2, q3, q4⟩⟩
  refine store_ok2 I7 hN hi (.inl hk) (v := .ref a) rfl (fun s8 I8 _ => ?_) (.inr hk)
  refine wpAny_mono (hs a _ pins s8 _ _ _ (I8.hand a _) (hE a nH)) (fun fl s9 h9 => ?_) (fun _ _ z => z)
  cases fl with
  | next =>
    obtain ⟨σ', H9, I9, q9⟩ := h9
    exact go_ok (I9.unhand I.ok) hN hi hk fun s' I' => ⟨_, H9, I', q9⟩
  | brk =>
    obtain ⟨σ', H9, I9, q9⟩ := h9
    exact go_ok (I9.unhand I.ok) hN hi hk fun s' I' => ⟨_, H9, I', q9⟩
  | cont =>
    obtain ⟨σ', H9, I9, q9⟩ := h9
    exact go_ok (I9.unhand I.ok) hN hi hk fun s' I' => ⟨_, H9, I', q9⟩
  | ret u =>
    obtain ⟨v, σ', H9, I9, r9, q9⟩ := h9
    exact go_ok (I9.unhand I.ok) hN hi hk fun s' I' => ⟨v, _, H9, I', r9, q9⟩
/-- try: f(e, ..) except C as n: suite -/
def tTryF (K : PySem.W.Frag) (CW : Addr) (i : Nat) (sp : Sp) (t : TA) (tb : TS) : TS := fun D σ H => t σ H fun vs H1 => sp (vs ++ []) H1 (fun _ H2 => D.nx σ H2) (handF K CW i tb D σ)
theorem ps_tryF {x : Str} {k : Nat} {ps : List Str} {sp : Sp} {e : Expr} {es : List Expr} {t : TA} {p cpos epos : Pos} (h : Has X.prog X.w X.K X.mg X.base (CX2 X.prog X.w) x k ps sp) (hr : Room k X.A) (hgf : Gl X x) (ha : ∀ E, PA (X.wish E) (e :: es) t)
    (hg : Gl X cx) (hm : X.mg cx = some (.ref CW)) (q : PySem.W.ktsIn X.K CW "BaseException" = true) (hN : X.N.Nodup) (hi : X.N[i]? = some n) (hk : X.env.kindOf n = some .local) (hs : ∀ a E, PSs (X.hand a E) (b₀ :: suite) tb)
    (hst : X.stack = X.env :: X.outer := by rfl) (hf : X.env.frame = some X.env.locals := by rfl) (hex : X.ex = [] := by rfl) (hd : (cx == ("__debug__" : Str)) = false := by decide) (hdb : (x == ("__debug__" : Str)) = false := by decide)
    (he : starEach (e :: es) X.env = (false, eval e X.env) :: starEach es X.env := by rfl) (hpl : (backTo cpos (starEach es X.env)).any (·.1) = false := by rfl) (hsw : swapsWith (.Call (.Name x p) (e :: es) [] cpos) none epos.line X.env = pure false := by rfl) :
    PS X (.Try [.Expr (.Call (.Name x p) (e :: es) [] cpos) epos] [.ExceptHandler (some (.Name cx np)) (some n) (b₀ :: suite) hpos] [] [] pos) (tTryF X.K CW i sp t tb) := by
  intro pins s σ H D I hw
  obtain ⟨f, fd, F, b, kp, m⟩ := h.ex
  refine wpAny_Try_except ?_
  let Et : Value → Shared → Prop := fun e s₁ => wpAny (model X.prog X.w) X.A (noteFrame e X.env) (fun _ s₂ => wpAny (model X.prog X.w) X.A (setFlight e none) (fun _ s₃ => wpAny (model X.prog X.w) X.A (handleBy e X.env [.ExceptHandler (some (.Name cx np)) (some n) (b₀ :: suite) hpos]) (SP X pins D) X.xe s₃) X.xe s₂) X.xe s₁
  have ev : wpAny (model X.prog X.w) X.A (eval (.Call (.Name x p) (e :: es) [] cpos) X.env) (EP X pins σ fun _ H2 => D.nx σ H2) Et s := by
    refine wpAny_Call_Name_kw (ld_glob I hgf m ?_ hdb)
    refine PySem.W.callWith_K (h₀ := X.base) I.ok.mod.kin kp (thn (ha Et cpos pins s σ H _ (I.wish Et) hw) fun us s1 ⟨vs, H1, I1, r, q1⟩ => ⟨I1.kIn, ?_⟩) he hpl
    have I1' := I1.unwish
    have hl : (us ++ []).length = ps.length := by rw [← (r.append (show Vals [] [] from .nil)).length]; exact F.len _ _ _ _ q1
    refine wpAny_call (codeAny_mono (F.run X.A X.stack s1 H1 ⟨us, []⟩ (us ++ []) (vs ++ []) _ _ hr I1'.env0 (b s1 us I1'.kIn hl) (r.append .nil) q1) fun r s' hq => ?_)
    cases r with
    | error e => exact caught2 hst hf hg hm q hN hi hk hs hd hex I1' hq
    | ok fl =>
      cases fl with
      | ret u => exact I1'.after hq
      | next => exact False.elim hq
      | brk => exact False.elim hq
      | cont => exact False.elim hq
  have st : wpAny (model X.prog X.w) X.A (execs [.Expr (.Call (.Name x p) (e :: es) [] cpos) epos] X.env) (SP X pins D) Et s := by
    refine wpAny_execs_cons (thn (wpAny_Expr_any (Q := SP X pins D) (thn ev fun v s1 ⟨x, H1, I1, r1, q1⟩ => ⟨σ, H1, I1, q1⟩) I.quiet hsw) fun fl s1 h1 => ?_)
    cases fl with
    | next => exact wpAny_execs_nil h1
    | brk => exact h1
    | cont => exact h1
    | ret u => exact h1
  refine wpAny_mono st (fun fl s1 h1 => ?_) fun _ _ z => z
  cases fl with
  | next => exact wpAny_execs_nil h1
  | brk => exact h1
  | cont => exact h1
  | ret u => exact h1
end
end L2

/-! ### own additions to the layer, 9u: a text times an int, text.upper(), text.partition(text) -/
namespace L2
open PySem PySem.Spec PyProof.Rows
/-- a text, n times -/
def repS (x : Str) (n : Nat) : Str := ⟨(List.replicate n x.cps.toList).flatten.toArray⟩
theorem fold_reps (x : List Nat) : ∀ (n : Nat) (a : Array Nat), List.foldl (fun x1 x2 => x1 ++ x2) a (List.replicate n x.toArray) = a ++ (List.replicate n x).flatten.toArray
  | 0, a => by simp
  | n + 1, a => by rw [List.replicate_succ, List.foldl_cons, fold_reps x n, List.replicate_succ, List.flatten_cons]; simp
theorem repS_one (x : Str) : repS x 1 = x := by
  cases x
  simp [repS, List.replicate_succ]
theorem repS_none {x : Str} (h : x.length = 0) (n : Nat) : repS x n = x := by
  obtain ⟨⟨l⟩⟩ := x
  have h : l.length = 0 := h
  have e : l = [] := List.length_eq_zero_iff.mp h
  subst e
  simp [repS]
section
variable {X : Cx}
def rMulS : R2 := fun x y H Q => ∃ (i : Str) (n : Nat), x = .str i ∧ y = .int (n : Int) ∧ i.length ≤ 1000 ∧ n ≤ 1000 ∧ Q (.str (repS i n)) H
theorem op_mulS : OpR X (binaryOp .Mult) rMulS := by
  intro pins s σ H x y v u Q I rx ry h
  obtain ⟨i, n, rfl, rfl, hi, hn, q⟩ := h
  obtain ⟨t, rfl⟩ := rx
  obtain ⟨t', rfl⟩ := ry
  have hm : i.length * n ≤ 1000 * 1000 := Nat.mul_le_mul hi hn
  have hs : sizeLine = 16777216 := by decide
  refine PySem.P.mul_str (by rw [decide_eq_false (by omega), decide_eq_false (by omega)]; rfl) (fun h1 _ => ?_) (fun _ _ => decide_eq_false (by show ¬ i.length * ((n : Int)).toNat > sizeLine; rw [Int.toNat_natCast]; omega)) ?_
  · intro h2
    have h4 : ((1000 : Int)) ≤ (2 ^ 63 - 1) / (n : Int) := by
      rw [Int.le_ediv_iff_mul_le (by omega)]
      omega
    exact absurd h2 (Int.not_lt.mpr (Int.le_trans (by omega) h4))
  · by_cases h1 : (n : Int) < 1
    · rw [if_pos h1]
      have e : n = 0 := by omega
      subst e
      exact ⟨by decide, .str _, H, I.tok _, ⟨_, rfl⟩, q⟩
    · rw [if_neg h1]
      by_cases h2 : ((n : Int) == 1 || i.length == 0) = true
      · rw [if_pos h2]
        have e : repS i n = i := by
          rcases Bool.or_eq_true _ _ ▸ h2 with z | z
          · have : n = 1 := by have := eq_of_beq z; omega
            subst this
            exact repS_one i
          · exact repS_none (eq_of_beq z) n
        rw [e] at q
        exact ⟨.str i, H, I, ⟨_, rfl⟩, q⟩
      · rw [if_neg h2]
        have e : List.foldl (fun x1 x2 => x1 ++ x2) #[] (List.replicate ((n : Int)).toNat i.cps) = (repS i n).cps := by
          rw [Int.toNat_natCast]
          have := fold_reps i.cps.toList n #[]
          rw [Array.toArray_toList] at this
          rw [this]
          simp [repS]
        rw [e]
        refine ⟨?_, .str (repS i n), H, I.tok _, ⟨_, rfl⟩, q⟩
        have el : (repS i n).cps.size = n * i.length := by
          show ((List.replicate n i.cps.toList).flatten.toArray).size = n * i.cps.size
          rw [List.size_toArray, len_rep, Array.length_toList]
        show (repS i n).cps.size ≤ sizeLine
        rw [el, Nat.mul_comm]
        omega
def upS (x : Str) : Str := ⟨(x.cps.toList.map up1).toArray⟩
def rUpper : V → List V → Hp → VK → Prop := fun v vs H Q => ∃ x : Str, v = .str x ∧ vs = [] ∧ (∀ c ∈ x.cps.toList, c < 128) ∧ x.length ≤ 1000 ∧ Q (.str (upS x)) H
theorem mt_upper : MtR X "str.upper" rUpper := by
  intro pins s σ H v vs u us Q I rx rv h
  obtain ⟨x, rfl, rfl, ha, hl, q⟩ := h
  obtain ⟨t, rfl⟩ := rx
  cases rv
  have e : Txt.upper x = upS x := by
    rw [upper_ascii ha]
    unfold upS
    rw [← Array.toList_map]
  have hs : sizeLine = 16777216 := by decide
  refine PySem.SC.upper ?_ ?_
  · rw [e]
    refine decide_eq_false ?_
    show ¬ (x.cps.toList.map up1).toArray.size > sizeLine
    have hl : x.cps.size ≤ 1000 := hl
    simp
    omega
  · rw [e]
    exact ⟨.str _, H, I.tok _, ⟨_, rfl⟩, q⟩
/-- what stands ahead of the first y -/
def keptS (x y : Str) : Str := match Builtin.Str.occurrences x y 0 x.length 1 with | i :: _ => Builtin.Str.strSub x 0 i | [] => x
def rPart : V → List V → Hp → VK → Prop := fun v vs H Q => ∃ x y : Str, v = .str x ∧ vs = [.str y] ∧ (y.length == 0) = false ∧ x.length ≤ sizeLine ∧ ∀ p a b, H p = none → Q (.ref p) (upd H p (.tup [.str (keptS x y), .str a, .str b]))
theorem mt_part : MtR X "str.partition" rPart := by
  intro pins s σ H v vs u us Q I rx rv h
  obtain ⟨x, y, rfl, rfl, hy, hx, q⟩ := h
  obtain ⟨t, rfl⟩ := rx
  obtain ⟨u, rfl, k, rfl⟩ := vals1 rv
  refine call_meets PySem.F.slot_str_partition (typeIs_str _ _ _) PySem.F.entry_str_partition (PySem.F.args_str_partition_2 _ _) (meets_str_partition x y t k hy hx) ?_
  unfold keptS at q
  cases e : Builtin.Str.occurrences x y 0 x.length 1 with
  | nil =>
    rw [e] at q
    refine ⟨.ref s.heap.objs.size, _, I.laid (t' := s.toks + 1) (fun b o e => Heap.get?_push_of_some _ e) (Nat.le_refl _) (show ObjOk X.prog X.w _ _ _ (.tup [.str x, .str Str.empty, .str Str.empty]) from ?_), rfl, q _ _ _ (I.hok.fresh (Nat.le_refl _))⟩
    exact ⟨by show 3 ≤ sizeLine; decide, [.str x t, .str Str.empty s.toks, .str Str.empty s.toks], .cons ⟨_, rfl⟩ (.cons ⟨_, rfl⟩ (.cons ⟨_, rfl⟩ .nil)), _, Heap.get?_push_size _ rfl, rfl, _, rfl⟩
  | cons i r =>
    rw [e] at q
    refine ⟨.ref s.heap.objs.size, _, I.laid (t' := s.toks + 1 + 1) (fun b o e => Heap.get?_push_of_some _ e) (Nat.le_refl _) (show ObjOk X.prog X.w _ _ _ (.tup [.str (Builtin.Str.strSub x 0 i), .str y, .str (Builtin.Str.strSub x (i + y.length) x.length)]) from ?_), rfl, q _ _ _ (I.hok.fresh (Nat.le_refl _))⟩
    exact ⟨by show 3 ≤ sizeLine; decide, [.str (Builtin.Str.strSub x 0 i) s.toks, .str y k, .str (Builtin.Str.strSub x (i + y.length) x.length) (s.toks + 1)], .cons ⟨_, rfl⟩ (.cons ⟨_, rfl⟩ (.cons ⟨_, rfl⟩ .nil)), _, Heap.get?_push_size _ rfl, rfl, _, rfl⟩
end
end L2



/-! the reading, step by step -/
local macro_rules | `(tactic| walk_at "cond") => `(tactic| first | rfl | decide | omega | (show (0 : Int) < _; decide) | (show (0 : Int) < _; omega) | exact ⟨by decide, by decide⟩ | exact ⟨by omega, by omega⟩ | exact Or.inl ⟨by decide, by decide⟩ | exact Or.inr ⟨by decide, by decide⟩ | exact Or.inl ⟨by omega, by omega⟩ | exact Or.inr ⟨by omega, by omega⟩ | assumption)
local macro_rules | `(tactic| walk_at "rd1") => `(tactic| first
  | refine ⟨_, rfl, ?_⟩
  | refine ⟨_, _, rfl, rfl, ?_⟩
  | (refine And.intro ?_ ?_; walk_at "cond"))
local macro_rules | `(tactic| walk_at "rd") => `(tactic| repeat walk_at "rd1")
set_option maxHeartbeats 4000000
namespace Mine
open PySem L2
theorem ln0 {α : Type} {P : List α → Prop} (h : P []) : ∀ us : List α, us.length = 0 → P us := fun us hl => by
  cases us with
  | nil => exact h
  | cons a r => exact absurd hl (Nat.succ_ne_zero _)
theorem ln1 {α : Type} {P : List α → Prop} (h : ∀ a0 : α, P [a0]) : ∀ us : List α, us.length = 1 → P us := fun us hl => by
  cases us with
  | nil => exact absurd hl.symm (Nat.succ_ne_zero _)
  | cons a r => exact ln0 (P := fun r => P (a :: r)) (h a) r (Nat.succ.inj hl)
theorem ln2 {α : Type} {P : List α → Prop} (h : ∀ a0 a1 : α, P [a0, a1]) : ∀ us : List α, us.length = 2 → P us := fun us hl => by
  cases us with
  | nil => exact absurd hl.symm (Nat.succ_ne_zero _)
  | cons a r => exact ln1 (P := fun r => P (a :: r)) (fun a1 => h a a1) r (Nat.succ.inj hl)
theorem ln3 {α : Type} {P : List α → Prop} (h : ∀ a0 a1 a2 : α, P [a0, a1, a2]) : ∀ us : List α, us.length = 3 → P us := fun us hl => by
  cases us with
  | nil => exact absurd hl.symm (Nat.succ_ne_zero _)
  | cons a r => exact ln2 (P := fun r => P (a :: r)) (fun a1 a2 => h a a1 a2) r (Nat.succ.inj hl)
theorem ln4 {α : Type} {P : List α → Prop} (h : ∀ a0 a1 a2 a3 : α, P [a0, a1, a2, a3]) : ∀ us : List α, us.length = 4 → P us := fun us hl => by
  cases us with
  | nil => exact absurd hl.symm (Nat.succ_ne_zero _)
  | cons a r => exact ln3 (P := fun r => P (a :: r)) (fun a1 a2 a3 => h a a1 a2 a3) r (Nat.succ.inj hl)
theorem ln5 {α : Type} {P : List α → Prop} (h : ∀ a0 a1 a2 a3 a4 : α, P [a0, a1, a2, a3, a4]) : ∀ us : List α, us.length = 5 → P us := fun us hl => by
  cases us with
  | nil => exact absurd hl.symm (Nat.succ_ne_zero _)
  | cons a r => exact ln4 (P := fun r => P (a :: r)) (fun a1 a2 a3 a4 => h a a1 a2 a3 a4) r (Nat.succ.inj hl)
theorem ln6 {α : Type} {P : List α → Prop} (h : ∀ a0 a1 a2 a3 a4 a5 : α, P [a0, a1, a2, a3, a4, a5]) : ∀ us : List α, us.length = 6 → P us := fun us hl => by
  cases us with
  | nil => exact absurd hl.symm (Nat.succ_ne_zero _)
  | cons a r => exact ln5 (P := fun r => P (a :: r)) (fun a1 a2 a3 a4 a5 => h a a1 a2 a3 a4 a5) r (Nat.succ.inj hl)
theorem ln7 {α : Type} {P : List α → Prop} (h : ∀ a0 a1 a2 a3 a4 a5 a6 : α, P [a0, a1, a2, a3, a4, a5, a6]) : ∀ us : List α, us.length = 7 → P us := fun us hl => by
  cases us with
  | nil => exact absurd hl.symm (Nat.succ_ne_zero _)
  | cons a r => exact ln6 (P := fun r => P (a :: r)) (fun a1 a2 a3 a4 a5 a6 => h a a1 a2 a3 a4 a5 a6) r (Nat.succ.inj hl)
theorem ln8 {α : Type} {P : List α → Prop} (h : ∀ a0 a1 a2 a3 a4 a5 a6 a7 : α, P [a0, a1, a2, a3, a4, a5, a6, a7]) : ∀ us : List α, us.length = 8 → P us := fun us hl => by
  cases us with
  | nil => exact absurd hl.symm (Nat.succ_ne_zero _)
  | cons a r => exact ln7 (P := fun r => P (a :: r)) (fun a1 a2 a3 a4 a5 a6 a7 => h a a1 a2 a3 a4 a5 a6 a7) r (Nat.succ.inj hl)
theorem ex1 {α : Type} {xs : List α} (h : xs.length = 1) : ∃ a0, xs = [a0] := ln1 (P := fun xs => ∃ a0, xs = [a0]) (fun a0 => ⟨a0, rfl⟩) xs h
theorem ex2 {α : Type} {xs : List α} (h : xs.length = 2) : ∃ a0 a1, xs = [a0, a1] := ln2 (P := fun xs => ∃ a0 a1, xs = [a0, a1]) (fun a0 a1 => ⟨a0, a1, rfl⟩) xs h
theorem ex3 {α : Type} {xs : List α} (h : xs.length = 3) : ∃ a0 a1 a2, xs = [a0, a1, a2] := ln3 (P := fun xs => ∃ a0 a1 a2, xs = [a0, a1, a2]) (fun a0 a1 a2 => ⟨a0, a1, a2, rfl⟩) xs h
theorem ex4 {α : Type} {xs : List α} (h : xs.length = 4) : ∃ a0 a1 a2 a3, xs = [a0, a1, a2, a3] := ln4 (P := fun xs => ∃ a0 a1 a2 a3, xs = [a0, a1, a2, a3]) (fun a0 a1 a2 a3 => ⟨a0, a1, a2, a3, rfl⟩) xs h
theorem ex5 {α : Type} {xs : List α} (h : xs.length = 5) : ∃ a0 a1 a2 a3 a4, xs = [a0, a1, a2, a3, a4] := ln5 (P := fun xs => ∃ a0 a1 a2 a3 a4, xs = [a0, a1, a2, a3, a4]) (fun a0 a1 a2 a3 a4 => ⟨a0, a1, a2, a3, a4, rfl⟩) xs h
theorem ex6 {α : Type} {xs : List α} (h : xs.length = 6) : ∃ a0 a1 a2 a3 a4 a5, xs = [a0, a1, a2, a3, a4, a5] := ln6 (P := fun xs => ∃ a0 a1 a2 a3 a4 a5, xs = [a0, a1, a2, a3, a4, a5]) (fun a0 a1 a2 a3 a4 a5 => ⟨a0, a1, a2, a3, a4, a5, rfl⟩) xs h
def top (i : Nat) : Stmt := PySem.Challenge.pw_stackwarden_k18_lines_read.main.body.getD i (.Pass ⟨0, 0, 0, 0⟩)
abbrev s_law_cell : Stmt := top 23
abbrev s_law_line : Stmt := top 27
abbrev s_law_signs : Stmt := top 25
abbrev s_law_word : Stmt := top 24
abbrev s_law_row : Stmt := top 26
abbrev s_law_lines : Stmt := top 28
abbrev s_is_whole : Stmt := top 13
abbrev s_is_word : Stmt := top 7
abbrev s_fits : Stmt := top 14
abbrev s_wants : Stmt := top 12
abbrev s_is_row : Stmt := top 15
abbrev s_number_of : Stmt := top 20
abbrev s_words_of : Stmt := top 19
abbrev s_read : Stmt := top 21
abbrev s_law_told : Stmt := top 33
abbrev s_law_beside : Stmt := top 29
abbrev s_law_few : Stmt := top 30
abbrev s_law_ill : Stmt := top 31
abbrev s_law_wrong : Stmt := top 32
abbrev s_law : Stmt := top 34
def kd_MOST : List (Str × PyData) := [("box", .int 7), ("make", .int 7), ("field", .int 7), ("part", .int 7), ("place", .int 99)]
def kd_SIGNS : PyData := .tuple [.str "push", .str "load", .str "store", .str "dup", .str "swap", .str "drop", .str "add", .str "sub", .str "mul", .str "div", .str "rem", .str "less", .str "same", .str "jump", .str "zero", .str "kin", .str "make", .str "fill", .str "begin", .str "get", .str "put", .str "call", .str "toss", .str "say", .str "give"]
def kd_WANTS : List (Str × PyData) := [("push", .tuple [.str "word"]), ("load", .tuple [.str "box"]), ("store", .tuple [.str "box"]), ("jump", .tuple [.str "place"]), ("zero", .tuple [.str "place"]), ("kin", .tuple [.str "make", .str "place"]), ("make", .tuple [.str "make"]), ("fill", .tuple [.str "make", .str "field"]), ("begin", .tuple [.str "make"]), ("get", .tuple [.str "make", .str "field"]), ("put", .tuple [.str "make", .str "field"]), ("call", .tuple [.str "part"])]
abbrev i_NoRow : Stmt := inner (top 3)
/-! ### what a row is, as plain data -/
theorem same_new {H : Hp} {p : Addr} (h : H p = none) (o : HO) : Same H (upd H p o) := fun b u q => by rw [upd_ne (ne_of_none q h)]; exact q
theorem RdV.tupInv {K : PySem.W.Frag} {H : Hp} {v : V} {ds : List PyData} (h : RdV K H v (.tuple ds)) : ∃ (a : Addr) (xs : List V), v = .ref a ∧ SqT K H a xs ∧ RdAll K H xs ds := by
  cases h with
  | tup h hl hi => exact ⟨_, _, rfl, h, hl, hi⟩
theorem rd_strs {K : PySem.W.Frag} {H : Hp} {ss : List Str} {xs : List V} (h : RdAll K H xs (ss.map PyData.str)) : xs = ss.map V.str := by
  have hl := h.1
  rw [List.length_map] at hl
  apply List.ext_getElem?
  intro i
  by_cases hi : i < xs.length
  · have z := h.2 i xs[i] (.str (ss[i]'(by omega))) (List.getElem?_eq_getElem hi) (by rw [List.getElem?_map, List.getElem?_eq_getElem (by omega)]; rfl)
    have e : xs[i] = .str (ss[i]'(by omega)) := by
      generalize xs[i] = y at z ⊢
      cases z
      rfl
    rw [List.getElem?_eq_getElem hi, e, List.getElem?_map, List.getElem?_eq_getElem (by omega)]
    rfl
  · rw [List.getElem?_eq_none (by omega), List.getElem?_eq_none (by simp; omega)]
def signsL : List Str := ["push", "load", "store", "dup", "swap", "drop", "add", "sub", "mul", "div", "rem", "less", "same", "jump", "zero", "kin", "make", "fill", "begin", "get", "put", "call", "toss", "say", "give"]
def inWord (n : Int) : Bool := decide (-2147483648 ≤ n) && decide (n < 2147483648)
/-- the largest that fits, of a want that is no word -/
def mostOf (x : Str) : Option Int := (getP kd_MOST x).bind fun d => match d with | .int i => some i | _ => none
def fitsB (want : Str) : V → Bool
  | .int i => if want = "word" then inWord i else match mostOf want with | some m => decide (0 ≤ i) && decide (i ≤ m) | none => false
  | _ => false
def isInt : V → Bool
  | .int _ => true
  | _ => false
def convT : PyData → List Str
  | .tuple ds => ds.map fun d => match d with | .str s => s | _ => ""
  | _ => []
def wantsL (x : Str) : List Str := ((getP kd_WANTS x).map convT).getD []
theorem wants_some {x : Str} {dt : PyData} (h : getP kd_WANTS x = some dt) : dt = .tuple ((wantsL x).map PyData.str) := by
  have e : wantsL x = convT dt := by unfold wantsL; rw [h]; rfl
  rw [e]
  have all : ∀ p ∈ kd_WANTS, p.2 = .tuple ((convT p.2).map PyData.str) := by
    intro p hp
    simp only [kd_WANTS, List.mem_cons, List.not_mem_nil, or_false] at hp
    repeat' (rcases hp with rfl | hp)
    all_goals first | rfl | (subst hp; rfl)
  unfold getP at h
  cases q : kd_WANTS.find? fun kv => decide (kv.1 = x) with
  | none => rw [q] at h; cases h
  | some kv =>
    rw [q] at h
    cases h
    exact all kv (List.mem_of_find?_eq_some q)
theorem wants_none {x : Str} (h : getP kd_WANTS x = none) : wantsL x = [] := by unfold wantsL; rw [h]; rfl
theorem signs_at {j : Nat} {x : Str} (h : signsL[j]? = some x) : ∀ m, m < j → signsL[m]? ≠ some x := by
  intro m hm e
  have nd : signsL.Nodup := by decide +kernel
  have h1 := (List.getElem?_eq_some_iff.mp h)
  have h2 := (List.getElem?_eq_some_iff.mp e)
  obtain ⟨l1, e1⟩ := h1
  obtain ⟨l2, e2⟩ := h2
  have := (List.getElem_inj nd (h₀ := l1) (h₁ := l2)).mp (e1.trans e2.symm)
  omega
theorem signs_tup {K : PySem.W.Frag} {d : Addr} (c : ∀ H : Hp, RdV K H (.ref d) kd_SIGNS) (H : Hp) : SqT K H d (signsL.map V.str) := by
  obtain ⟨a, xs, e, h1, h2⟩ := RdV.tupInv (c H)
  cases e
  have z := rd_strs (ss := signsL) h2
  rw [← z]
  exact h1
theorem inV_strs (n : Str) : ∀ l : List Str, inV (.str n) (l.map V.str) = decide (n ∈ l)
  | [] => by simp [inV]
  | x :: r => by
    have ih := inV_strs n r
    show (eqV (.str x) (.str n) || inV (.str n) (r.map V.str)) = decide (n ∈ x :: r)
    rw [ih]
    by_cases h : x = n
    · subst h; simp [eqV]
    · have h' : ¬ n = x := fun e => h e.symm
      simp [eqV, h, h', List.mem_cons]
theorem flat_strs : ∀ l : List Str, (l.map V.str).all flatV = true
  | [] => rfl
  | x :: r => by show (flatV (.str x) && (r.map V.str).all flatV) = true; rw [flat_strs r]; rfl
/-- the bounds of the numbers that a sign wants, as the asker tells them -/
def boundsL (x : Str) : List (Int × Int) :=
  if x = "push" then [(-2147483648, 2147483647)]
  else if x ∈ (["jump", "zero"] : List Str) then [(0, 99)]
  else if x = "kin" then [(0, 7), (0, 99)]
  else if x ∈ (["fill", "get", "put"] : List Str) then [(0, 7), (0, 7)]
  else if x ∈ (["load", "store", "make", "begin", "call"] : List Str) then [(0, 7)]
  else []
def BndAt (K : PySem.W.Frag) (H : Hp) (ts : List V) (bs : List (Int × Int)) : Prop := ts.length = bs.length ∧ ∀ (i : Nat) (b : Int × Int), bs[i]? = some b → ∃ t, ts[i]? = some (.ref t) ∧ SqT K H t [.int b.1, .int b.2]
theorem BndAt.same {K : PySem.W.Frag} {H H' : Hp} {ts : List V} {bs : List (Int × Int)} (e : Same H H') (h : BndAt K H ts bs) : BndAt K H' ts bs := ⟨h.1, fun i b hb => by
  obtain ⟨t, h1, h2⟩ := h.2 i b hb
  exact ⟨t, h1, e.tup h2⟩⟩
theorem BndAt.nil {K : PySem.W.Frag} {H : Hp} : BndAt K H [] [] := ⟨rfl, fun i b h => by simp at h⟩
theorem BndAt.cons {K : PySem.W.Frag} {H : Hp} {t : Addr} {b : Int × Int} {ts : List V} {bs : List (Int × Int)} (h : SqT K H t [.int b.1, .int b.2]) (r : BndAt K H ts bs) : BndAt K H (.ref t :: ts) (b :: bs) := ⟨congrArg (· + 1) r.1, fun i c hc => by
  cases i with
  | zero => cases hc; exact ⟨t, rfl, h⟩
  | succ j => exact r.2 j c hc⟩
/-- a number within bounds -/
def inB (b : Int × Int) : V → Bool
  | .int i => decide (b.1 ≤ i) && decide (i ≤ b.2)
  | _ => false
/-- a row, as plain data -/
def rowB : List V → Bool
  | .str s :: xs => decide (s ∈ signsL) && (decide (xs.length = (wantsL s).length) && ((wantsL s).zip xs).all fun p => fitsB p.1 p.2)
  | _ => false
def TyAll (K : PySem.W.Frag) (H : Hp) (xs : List V) : Prop := ∀ x ∈ xs, ∃ t, TyV K H x t
theorem TyAll.same {K : PySem.W.Frag} {H H' : Hp} {xs : List V} (e : Same H H') (h : TyAll K H xs) : TyAll K H' xs := fun x hx => by
  obtain ⟨t, ht⟩ := h x hx
  exact ⟨t, ht.same e⟩
theorem tup_updL {K : PySem.W.Frag} {H : Hp} {t r : Addr} {xs ys : List V} {o : HO} (h : SqT K H t xs) (hr : H r = some (.lst ys)) : SqT K (upd H r o) t xs := by
  rcases h with (h | ⟨u, h⟩) | h
  · exact .inl (.inl (by rw [upd_ne (ne_of h hr (by intro z; cases z))]; exact h))
  · exact .inl (.inr ⟨u, by rw [upd_ne (ne_of h hr (by intro z; cases z))]; exact h⟩)
  · exact .inr h
theorem TyV_updL {K : PySem.W.Frag} {H : Hp} {r : Addr} {ys zs : List V} {v : V} {t : String} (g : H r = some (.lst ys)) (h : TyV K H v t) : ∃ t', TyV K (upd H r (.lst zs)) v t' := by
  cases h with
  | non => exact ⟨_, .non⟩
  | bl b => exact ⟨_, .bl b⟩
  | int n => exact ⟨_, .int n⟩
  | str x => exact ⟨_, .str x⟩
  | @lst a xs h =>
    by_cases e : a = r
    · subst e; exact ⟨_, .lst (SqL.of upd_same)⟩
    · refine ⟨_, .lst (xs := xs) ?_⟩
      rcases h with (h | ⟨u, h⟩) | h
      · exact .inl (.inl (by rw [upd_ne e]; exact h))
      · exact .inl (.inr ⟨u, by rw [upd_ne e]; exact h⟩)
      · exact .inr h
  | @tup a xs h => exact ⟨_, .tup (tup_updL h g)⟩
  | @dct a h => exact ⟨_, .dct (by rw [upd_ne (fun e => by subst e; rw [g] at h; cases h)]; exact h)⟩
theorem TyAll.updL {K : PySem.W.Frag} {H : Hp} {r : Addr} {ys zs xs : List V} (g : H r = some (.lst ys)) (h : TyAll K H xs) : TyAll K (upd H r (.lst zs)) xs := fun x hx => by
  obtain ⟨t, ht⟩ := h x hx
  exact TyV_updL g ht
theorem sign_bounds : ∀ s ∈ signsL, (wantsL s).length = (boundsL s).length ∧ ∀ p ∈ (wantsL s).zip (boundsL s), (p.1 = "word" ∧ p.2 = (-2147483648, 2147483647)) ∨ (p.1 ≠ "word" ∧ p.2.1 = 0 ∧ mostOf p.1 = some p.2.2) := by decide +kernel
theorem wants_known : ∀ s : Str, ∀ x ∈ wantsL s, x = "word" ∨ ∃ m : Int, getP kd_MOST x = some (.int m) := by
  intro s x hx
  have all : ∀ p ∈ kd_WANTS, ∀ y ∈ convT p.2, y = "word" ∨ y = "box" ∨ y = "make" ∨ y = "field" ∨ y = "part" ∨ y = "place" := by decide +kernel
  have h : x = "word" ∨ x = "box" ∨ x = "make" ∨ x = "field" ∨ x = "part" ∨ x = "place" := by
    unfold wantsL at hx
    cases q : getP kd_WANTS s with
    | none => rw [q] at hx; simp at hx
    | some d =>
      rw [q] at hx
      have hx : x ∈ convT d := hx
      unfold getP at q
      cases z : kd_WANTS.find? fun kv => decide (kv.1 = s) with
      | none => rw [z] at q; cases q
      | some kv =>
        rw [z] at q
        cases q
        exact all kv (List.mem_of_find?_eq_some z) x hx
  rcases h with h | h | h | h | h | h
  · exact .inl h
  all_goals (subst h; exact .inr ⟨_, rfl⟩)
theorem fits_inB {p : Str} {b : Int × Int} {v : V} (h : (p = "word" ∧ b = (-2147483648, 2147483647)) ∨ (p ≠ "word" ∧ b.1 = 0 ∧ mostOf p = some b.2)) : fitsB p v = inB b v := by
  cases v with
  | int i =>
    rcases h with ⟨rfl, rfl⟩ | ⟨h1, h2, h3⟩
    · show (if ("word" : Str) = "word" then inWord i else match mostOf "word" with | some m => decide (0 ≤ i) && decide (i ≤ m) | none => false) = (decide ((-2147483648 : Int) ≤ i) && decide (i ≤ (2147483647 : Int)))
      rw [if_pos rfl]
      unfold inWord
      rw [show decide (i < 2147483648) = decide (i ≤ 2147483647) from decide_eq_decide.mpr (by constructor <;> intro h <;> omega)]
    · show (if p = "word" then inWord i else match mostOf p with | some m => decide (0 ≤ i) && decide (i ≤ m) | none => false) = _
      rw [if_neg h1, h3]
      unfold inB
      rw [h2]
  | _ => rfl
theorem small1000 {n : Nat} (h : n ≤ 1000) : n < sizeLine := Nat.lt_of_le_of_lt h (by decide)
theorem cut_one {x : V} {xs : List V} : cutV (x :: xs) (some 1) none = xs := by
  unfold cutV
  rw [HT.sIx_none, show (some (1 : Int)) = some ((1 : Nat) : Int) from rfl, HT.sIx_nat]
  have : min 1 (x :: xs).length = 1 := by simp
  rw [this]
  show (List.drop 1 (x :: xs)).take _ = xs
  simp
theorem all_zip {α β : Type} (f : α → β → Bool) : ∀ (l : List α) (m : List β), ((l.zip m).all fun p => f p.1 p.2) = (List.zipWith f l m).all id
  | [], _ => by simp
  | _ :: _, [] => by simp
  | x :: l, y :: m => by simp [all_zip f l m]
theorem bounds_few (x : Str) : (boundsL x).length ≤ 2 ∧ ∀ b ∈ boundsL x, b.1 ≤ b.2 ∧ -4294967296 ≤ b.1 ∧ b.2 ≤ 4294967296 := by
  unfold boundsL
  repeat' split
  all_goals simp
theorem TyAll.snoc {K : PySem.W.Frag} {H : Hp} {xs : List V} {v : V} {t : String} (h : TyAll K H xs) (hv : TyV K H v t) : TyAll K H (xs ++ [v]) := fun x hx => by
  rcases List.mem_append.mp hx with z | z
  · exact h x z
  · simp at z; subst z; exact ⟨t, hv⟩
theorem TyAll.nil {K : PySem.W.Frag} {H : Hp} : TyAll K H [] := fun x hx => by simp at hx
theorem TyAll.drop {K : PySem.W.Frag} {H : Hp} {xs : List V} (h : TyAll K H xs) : TyAll K H xs.dropLast := fun x hx => h x (List.dropLast_subset _ hx)
theorem Same_upd {H H' : Hp} {r : Addr} (e : Same H H') (h : H r = none) (o : HO) : Same H (upd H' r o) := fun c u q => by rw [upd_ne (ne_of_none q h)]; exact e c u q
theorem log_small {n : Nat} (h : n ≤ 4294967296) : n.log2 < 1920 := by
  by_cases h0 : n = 0
  · subst h0; decide
  · rw [Nat.log2_lt h0]
    exact Nat.lt_of_lt_of_le (Nat.lt_of_le_of_lt h (show 4294967296 < 2 ^ 33 by decide)) (Nat.pow_le_pow_right (by decide) (by decide))

/-! ### texts: cut and joined again; numbers written and read -/
def sgs (x : Str) : List Nat := x.cps.toList
theorem sgs_inj {x y : Str} (h : sgs x = sgs y) : x = y := by
  cases x; cases y
  simp only [Str.mk.injEq]
  exact Array.toList_inj.mp h
theorem sgs_app (x y : Str) : sgs (x ++ y) = sgs x ++ sgs y := by
  show (x.cps ++ y.cps).toList = _
  rw [Array.toList_append]
  rfl
theorem app_inj {c : Nat} : ∀ {a b A B : List Nat}, c ∉ a → c ∉ b → a ++ c :: A = b ++ c :: B → a = b ∧ A = B
  | [], [], _, _, _, _, h => ⟨rfl, (List.cons.inj h).2⟩
  | [], y :: b, _, _, _, hb, h => absurd (by rw [(List.cons.inj h).1]; exact List.mem_cons_self) hb
  | x :: a, [], _, _, ha, _, h => absurd (by rw [← (List.cons.inj h).1]; exact List.mem_cons_self) ha
  | x :: a, y :: b, _, _, ha, hb, h => by
    obtain ⟨h1, h2⟩ := List.cons.inj h
    obtain ⟨e1, e2⟩ := app_inj (fun z => ha (List.mem_cons_of_mem _ z)) (fun z => hb (List.mem_cons_of_mem _ z)) h2
    exact ⟨by rw [h1, e1], e2⟩
theorem sgs_join2 (c : Nat) (x y : Str) (r : List Str) : sgs (Str.join ⟨#[c]⟩ (x :: y :: r)) = sgs x ++ c :: sgs (Str.join ⟨#[c]⟩ (y :: r)) := by
  show sgs (x ++ ⟨#[c]⟩ ++ Str.join ⟨#[c]⟩ (y :: r)) = _
  rw [sgs_app, sgs_app, List.append_assoc]
  rfl
theorem join_inj (c : Nat) : ∀ ls ms : List Str, ls ≠ [] → ms ≠ [] → (∀ l ∈ ls, c ∉ sgs l) → (∀ m ∈ ms, c ∉ sgs m) → Str.join ⟨#[c]⟩ ls = Str.join ⟨#[c]⟩ ms → ls = ms
  | [], _, h, _, _, _, _ => absurd rfl h
  | _ :: _, [], _, h, _, _, _ => absurd rfl h
  | [x], [y], _, _, _, _, h => by
    have h : x = y := h
    rw [h]
  | [x], y :: z :: r, _, _, hl, _, h => by
    have h : x = Str.join ⟨#[c]⟩ (y :: z :: r) := h
    have e := sgs_join2 c y z r
    rw [← h] at e
    exact absurd (by rw [e]; simp) (hl x List.mem_cons_self)
  | y :: z :: r, [x], _, _, _, hm, h => by
    have h : Str.join ⟨#[c]⟩ (y :: z :: r) = x := h
    have e := sgs_join2 c y z r
    rw [h] at e
    exact absurd (by rw [e]; simp) (hm x List.mem_cons_self)
  | x :: x2 :: r, y :: y2 :: q, _, _, hl, hm, h => by
    have e := congrArg sgs h
    rw [sgs_join2, sgs_join2] at e
    obtain ⟨e1, e2⟩ := app_inj (hl x List.mem_cons_self) (hm y List.mem_cons_self) e
    have ih := join_inj c (x2 :: r) (y2 :: q) (by simp) (by simp) (fun l h => hl l (List.mem_cons_of_mem _ h)) (fun l h => hm l (List.mem_cons_of_mem _ h)) (sgs_inj e2)
    rw [sgs_inj e1, ih]
theorem split_join (c : Nat) {ls : List Str} (h0 : ls ≠ []) (hf : ∀ l ∈ ls, c ∉ sgs l) : Txt.split (Str.join ⟨#[c]⟩ ls) ⟨#[c]⟩ = ls := by
  refine join_inj c _ _ (fun e => ?_) h0 (PySem.StrLaws.split_free _ c) hf (PySem.StrLaws.join_split _ _)
  have := PyProof.Rows.split_pos (Str.join ⟨#[c]⟩ ls) ⟨#[c]⟩
  rw [e] at this
  exact absurd this (by decide)
theorem mem_join {c d : Nat} : ∀ {ls : List Str}, d ∈ sgs (Str.join ⟨#[c]⟩ ls) → d = c ∨ ∃ l ∈ ls, d ∈ sgs l
  | [], h => by cases h
  | [x], h => .inr ⟨x, List.mem_cons_self, h⟩
  | x :: y :: r, h => by
    rw [sgs_join2] at h
    rcases List.mem_append.mp h with h | h
    · exact .inr ⟨x, List.mem_cons_self, h⟩
    · rcases List.mem_cons.mp h with h | h
      · exact .inl h
      · rcases mem_join h with h | ⟨l, h1, h2⟩
        · exact .inl h
        · exact .inr ⟨l, List.mem_cons_of_mem _ h1, h2⟩
/-- a number as a text -/
def tx (n : Int) : Str := Str.ofString (toString n)
theorem tx_pos (m : Nat) : sgs (tx (m : Int)) = (Nat.toDigits 10 m).map Char.toNat := PySem.W.KIN.signs_num m
theorem tx_neg {m : Nat} (h : 0 < m) : sgs (tx (-(m : Int))) = 45 :: (Nat.toDigits 10 m).map Char.toNat := by
  cases m with
  | zero => exact absurd h (Nat.lt_irrefl _)
  | succ k =>
    show (Str.ofString (toString (Int.negSucc k))).cps.toList = _
    rw [PyProof.Rows.signs_ofString]
    show ("-" ++ Nat.repr (k + 1)).toList.map Char.toNat = _
    rw [String.toList_append, List.map_append, Nat.toList_repr]
    rfl
theorem dg_in {m c : Nat} (h : c ∈ (Nat.toDigits 10 m).map Char.toNat) : 48 ≤ c ∧ c ≤ 57 := by
  obtain ⟨ch, hch, e⟩ := List.mem_map.mp h
  have r := PyProof.Rows.digit_range (Nat.isDigit_of_mem_toDigits (by decide) (by decide) hch)
  rw [← e]
  exact r
theorem dg_len {m : Nat} (h : m < 10 ^ 10) : 1 ≤ (Nat.toDigits 10 m).length ∧ (Nat.toDigits 10 m).length ≤ 10 := ⟨PySem.toDigits_len_ge 10 m, PySem.toDigits_len_pow (by decide) (by decide) h⟩
theorem dg_head (m : Nat) : 0 < m → ∃ c l, (Nat.toDigits 10 m).map Char.toNat = c :: l ∧ c ≠ 48 := by
  induction m using Nat.strongRecOn with
  | _ m ih =>
    intro h0
    by_cases h : m < 10
    · rw [Nat.toDigits_of_lt_base h]
      exact ⟨_, [], rfl, (by decide : ∀ d : Nat, d < 10 → 0 < d → (Nat.digitChar d).toNat ≠ 48) m h h0⟩
    · have hm : m % 10 < 10 := Nat.mod_lt m (by decide)
      have t : Nat.toDigits 10 (m / 10) ++ Nat.toDigits 10 (m % 10) = Nat.toDigits 10 (10 * (m / 10) + m % 10) := Nat.toDigits_append_toDigits (by decide) (by omega) hm
      rw [Nat.div_add_mod] at t
      obtain ⟨c, l, e, hc⟩ := ih (m / 10) (by omega) (by omega)
      rw [← t, List.map_append, e]
      exact ⟨c, _, rfl, hc⟩
theorem tx_read {n : Int} (h : n.natAbs ≤ 2147483648) : PySem.intText? (tx n) = some n ∧ (tx n).length ≤ 11 ∧ 1 ≤ (tx n).length := by
  by_cases hn : 0 ≤ n
  · obtain ⟨m, rfl⟩ := Int.eq_ofNat_of_zero_le hn
    have hl := dg_len (m := m) (by omega)
    have e : (tx (m : Int)).length = (sgs (tx (m : Int))).length := by show (tx (m : Int)).cps.size = _; simp [sgs]
    rw [e, tx_pos, List.length_map]
    exact ⟨PySem.W.KIN.num_reads hn (by omega), by omega, by omega⟩
  · obtain ⟨m, rfl⟩ : ∃ m : Nat, n = -(m : Int) := ⟨n.natAbs, by omega⟩
    have hm : 0 < m := by omega
    have hl := dg_len (m := m) (by omega)
    have e : (tx (-(m : Int))).length = (sgs (tx (-(m : Int)))).length := by show (tx (-(m : Int))).cps.size = _; simp [sgs]
    have e2 : (tx (-(m : Int))).length = (Nat.toDigits 10 m).length + 1 := by rw [e, tx_neg hm, List.length_cons, List.length_map]
    refine ⟨?_, by omega, by omega⟩
    have z := PySem.intText_neg (x := tx (-(m : Int))) (cs := (Nat.toDigits 10 m).map Char.toNat) (tx_neg hm) (fun c hc => dg_in hc) (fun y => by have := congrArg List.length y; rw [List.length_map] at this; simp at this) (by omega)
    rw [z, PySem.W.KIN.val_back]
theorem tx_in {n : Int} {c : Nat} (h : c ∈ sgs (tx n)) : c = 45 ∨ (48 ≤ c ∧ c ≤ 57) := by
  by_cases hn : 0 ≤ n
  · obtain ⟨m, rfl⟩ := Int.eq_ofNat_of_zero_le hn
    rw [tx_pos] at h
    exact .inr (dg_in h)
  · obtain ⟨m, rfl⟩ : ∃ m : Nat, n = -(m : Int) := ⟨n.natAbs, by omega⟩
    rw [tx_neg (by omega)] at h
    rcases List.mem_cons.mp h with h | h
    · exact .inl h
    · exact .inr (dg_in h)
theorem starts_cons {x : Str} {c : Nat} {l : List Nat} (h : sgs x = c :: l) : (decide (0 + ("-" : Str).length ≤ x.length) && Builtin.Str.subAt x "-" 0) = decide (c = 45) := by
  obtain ⟨⟨xs⟩⟩ := x
  have h : xs = c :: l := h
  subst h
  have e1 : ("-" : Str) = ⟨#[45]⟩ := by decide +kernel
  rw [e1]
  show (decide (0 + 1 ≤ (c :: l).length) && ((⟨c :: l⟩ : Array Nat).extract 0 (0 + 1) == #[45])) = _
  rw [decide_eq_true (by simp), Bool.true_and]
  by_cases hc : c = 45
  · subst hc
    rw [decide_eq_true rfl]
    simp
  · rw [decide_eq_false hc]
    simp [hc]
theorem slice_cons {x : Str} {c : Nat} {l : List Nat} (h : sgs x = c :: l) : sgs (Txt.slice x (some 1) none) = l := by
  have hl : x.length = l.length + 1 := by
    have : (sgs x).length = l.length + 1 := by rw [h]; rfl
    rw [← this]
    show x.cps.size = _
    simp [sgs]
  rw [PyProof.Rows.slice_from_eq (b := (x.length : Int)) (by decide) (by omega) rfl]
  show (x.cps.toList.drop 1).take ((x.length : Int) - 1).toNat = l
  rw [show x.cps.toList = c :: l from h]
  show l.take _ = l
  rw [List.take_of_length_le (by omega)]

/-! ### rows as plain data -/
def inW (n : Int) : Prop := -2147483648 ≤ n ∧ n ≤ 2147483647
theorem same_fresh {H : Hp} {p : Addr} (h : H p = none) (o : HO) : Same H (upd H p o) := same_new h o
inductive Ro where
  | push (w : Int)
  | low (s : Str) (n : Nat)
  | pla (s : Str) (p : Nat)
  | kin (c p : Nat)
  | fld (s : Str) (c f : Nat)
  | bare (s : Str)
def lowL : List Str := ["load", "store", "make", "begin", "call"]
def plaL : List Str := ["jump", "zero"]
def fldL : List Str := ["fill", "get", "put"]
def baL : List Str := ["dup", "swap", "drop", "add", "sub", "mul", "div", "rem", "less", "same", "toss", "say", "give"]
def roS : Ro → Str
  | .push _ => "push"
  | .low s _ => s
  | .pla s _ => s
  | .kin _ _ => "kin"
  | .fld s _ _ => s
  | .bare s => s
def roN : Ro → List Int
  | .push w => [w]
  | .low _ n => [(n : Int)]
  | .pla _ p => [(p : Int)]
  | .kin c p => [(c : Int), (p : Int)]
  | .fld _ c f => [(c : Int), (f : Int)]
  | .bare _ => []
def roV (r : Ro) : List V := .str (roS r) :: (roN r).map V.int
def Ro.Ok (many : Nat) : Ro → Prop
  | .push w => inW w
  | .low s n => s ∈ lowL ∧ n < 8
  | .pla s p => s ∈ plaL ∧ p < many
  | .kin c p => c < 8 ∧ p < many
  | .fld s c f => s ∈ fldL ∧ c < 8 ∧ f < 8
  | .bare s => s ∈ baL
theorem Ro.Ok.mono {r : Ro} {n m : Nat} (h : r.Ok n) (le : n ≤ m) : r.Ok m := by
  cases r with
  | push w => exact h
  | low s n => exact h
  | pla s p => exact ⟨h.1, Nat.lt_of_lt_of_le h.2 le⟩
  | kin c p => exact ⟨h.1, Nat.lt_of_lt_of_le h.2 le⟩
  | fld s c f => exact h
  | bare s => exact h
theorem Ro.Ok.sign {r : Ro} {n : Nat} (h : r.Ok n) : roS r ∈ signsL := by
  cases r with
  | push w => exact (by decide +kernel : ("push" : Str) ∈ signsL)
  | low s n => exact (by decide +kernel : ∀ s ∈ lowL, s ∈ signsL) s h.1
  | pla s p => exact (by decide +kernel : ∀ s ∈ plaL, s ∈ signsL) s h.1
  | kin c p => exact (by decide +kernel : ("kin" : Str) ∈ signsL)
  | fld s c f => exact (by decide +kernel : ∀ s ∈ fldL, s ∈ signsL) s h.1
  | bare s => exact (by decide +kernel : ∀ s ∈ baL, s ∈ signsL) s h
def RosAt (K : PySem.W.Frag) (H : Hp) (vs : List V) (rs : List Ro) : Prop := vs.length = rs.length ∧ ∀ (i : Nat) (r : Ro), rs[i]? = some r → ∃ t, vs[i]? = some (.ref t) ∧ SqT K H t (roV r)
theorem RosAt.same {K : PySem.W.Frag} {H H' : Hp} {vs : List V} {rs : List Ro} (e : Same H H') (h : RosAt K H vs rs) : RosAt K H' vs rs := ⟨h.1, fun i r hr => by
  obtain ⟨t, h1, h2⟩ := h.2 i r hr
  exact ⟨t, h1, e.tup h2⟩⟩
theorem RosAt.updL {K : PySem.W.Frag} {H : Hp} {p : Addr} {ys : List V} {o : HO} {vs : List V} {rs : List Ro} (g : H p = some (.lst ys)) (h : RosAt K H vs rs) : RosAt K (upd H p o) vs rs := ⟨h.1, fun i r hr => by
  obtain ⟨t, h1, h2⟩ := h.2 i r hr
  exact ⟨t, h1, tup_updL h2 g⟩⟩
theorem RosAt.nil {K : PySem.W.Frag} {H : Hp} : RosAt K H [] [] := ⟨rfl, fun i r h => by simp at h⟩
theorem RosAt.snoc {K : PySem.W.Frag} {H : Hp} {vs : List V} {rs : List Ro} {t : Addr} {r : Ro} (h : RosAt K H vs rs) (hr : SqT K H t (roV r)) : RosAt K H (vs ++ [.ref t]) (rs ++ [r]) := by
  refine ⟨by rw [List.length_append, List.length_append, h.1]; rfl, fun i q hq => ?_⟩
  by_cases hi : i < rs.length
  · rw [List.getElem?_append_left hi] at hq
    obtain ⟨t', h1, h2⟩ := h.2 i q hq
    exact ⟨t', by rw [List.getElem?_append_left (by rw [h.1]; exact hi)]; exact h1, h2⟩
  · have hl := (List.getElem?_eq_some_iff.mp hq).1
    rw [List.length_append, List.length_singleton] at hl
    have e : i = rs.length := by omega
    subst e
    rw [List.getElem?_append_right (Nat.le_refl _), Nat.sub_self] at hq
    cases hq
    exact ⟨t, by rw [← h.1, List.getElem?_append_right (Nat.le_refl _), Nat.sub_self]; rfl, hr⟩
theorem RosAt.item {K : PySem.W.Frag} {H : Hp} {vs : List V} {rs : List Ro} {i : Nat} {v : V} (h : RosAt K H vs rs) (hv : vs[i]? = some v) : ∃ r t, rs[i]? = some r ∧ v = .ref t ∧ SqT K H t (roV r) := by
  have hi := (List.getElem?_eq_some_iff.mp hv).1
  rw [h.1] at hi
  obtain ⟨t, h1, h2⟩ := h.2 i _ (List.getElem?_eq_getElem hi)
  rw [hv] at h1
  exact ⟨_, t, List.getElem?_eq_getElem hi, Option.some.inj h1, h2⟩
theorem stepS {x y : Str} {A B : Prop} (h1 : x = y → A) (h2 : ¬ x = y → B) : if decide (V.str x = V.str y) = true then A else B := by
  by_cases e : x = y
  · rw [if_pos (decide_eq_true (congrArg V.str e))]; exact h1 e
  · rw [if_neg (fun z => e (V.str.inj (of_decide_eq_true z)))]; exact h2 e
theorem stepL {x : Str} {l : List Str} {A B : Prop} (h1 : x ∈ l → A) (h2 : ¬ x ∈ l → B) : if inV (.str x) (l.map V.str) = true then A else B := by
  rw [inV_strs]
  by_cases e : x ∈ l
  · rw [if_pos (decide_eq_true e)]; exact h1 e
  · rw [if_neg (fun z => e (of_decide_eq_true z))]; exact h2 e
theorem modN {e : Int} {n : Nat} (h : 0 < n) : ∃ k : Nat, e % (n : Int) = (k : Int) ∧ k < n := by
  have h1 := Int.emod_nonneg e (show (n : Int) ≠ 0 by omega)
  have h2 := Int.emod_lt_of_pos e (show (0 : Int) < (n : Int) by omega)
  exact ⟨(e % (n : Int)).toNat, by omega, by omega⟩
theorem fresh_of {H H1 : Hp} {p : Addr} (s : Same H H1) (h : H1 p = none) : H p = none := by
  cases e : H p with
  | none => rfl
  | some o => rw [s _ _ e] at h; cases h
theorem bare_else : ∀ x ∈ signsL, ¬ x = "push" → ¬ x ∈ (["jump", "zero"] : List Str) → ¬ x = "kin" → ¬ x ∈ (["fill", "get", "put"] : List Str) → ¬ x ∈ (["load", "store", "make", "begin", "call"] : List Str) → x ∈ baL := by decide +kernel
def roD (r : Ro) : PyData := .tuple (.str (roS r) :: (roN r).map PyData.int)
def rosD (rs : List Ro) : PyData := .list (rs.map roD)
theorem ints_lay : ∀ ns : List Int, PyData.canLayAll0 (ns.map PyData.int) = true ∧ PyData.depthAll (ns.map PyData.int) = 0
  | [] => ⟨rfl, rfl⟩
  | x :: r => by
    have ih := ints_lay r
    refine ⟨?_, ?_⟩
    · show (PyData.canLay0 (.int x) && PyData.canLayAll0 (r.map PyData.int)) = true
      rw [ih.1]; rfl
    · show max (PyData.depth (.int x)) (PyData.depthAll (r.map PyData.int)) = 0
      rw [ih.2]; rfl
theorem ro_lay {r : Ro} {n : Nat} (h : r.Ok n) : PyData.canLay0 (roD r) = true ∧ PyData.depth (roD r) ≤ 1 := by
  have i := ints_lay (roN r)
  have s := (by decide +kernel : ∀ s ∈ signsL, PyData.canLay0 (.str s) = true) _ h.sign
  refine ⟨?_, ?_⟩
  · show (PyData.canLay0 (.str (roS r)) && PyData.canLayAll0 ((roN r).map PyData.int)) = true
    rw [i.1, s]; rfl
  · show max (PyData.depth (.str (roS r))) (PyData.depthAll ((roN r).map PyData.int)) + 1 ≤ 1
    rw [i.2]
    exact Nat.le_refl _
theorem ros_lay {n : Nat} : ∀ {rs : List Ro}, (∀ r ∈ rs, r.Ok n) → PyData.canLayAll0 (rs.map roD) = true ∧ PyData.depthAll (rs.map roD) ≤ 1
  | [], _ => ⟨rfl, Nat.zero_le _⟩
  | x :: r, h => by
    have ih := ros_lay (rs := r) (fun y hy => h y (List.mem_cons_of_mem _ hy))
    have hx := ro_lay (h x List.mem_cons_self)
    refine ⟨?_, ?_⟩
    · show (PyData.canLay0 (roD x) && PyData.canLayAll0 (r.map roD)) = true
      rw [ih.1, hx.1]; rfl
    · show max (PyData.depth (roD x)) (PyData.depthAll (r.map roD)) ≤ 1
      exact Nat.max_le.mpr ⟨hx.2, ih.2⟩
theorem ros_ok {n : Nat} {rs : List Ro} (h : ∀ r ∈ rs, r.Ok n) : PySem.SeqAt.shaped (rosD rs) = true := by
  have a := ros_lay h
  show (PyData.canLayAll0 (rs.map roD) && decide (PyData.depthAll (rs.map roD) + 1 ≤ 64)) = true
  rw [a.1]
  have := a.2
  simp only [Bool.true_and, decide_eq_true_eq]
  omega
theorem ros_self {n : Nat} {rs : List Ro} (h : ∀ r ∈ rs, r.Ok n) : PyData.eqv (rosD rs) (rosD rs) = true := PySem.SeqAt.eqv_refl _ (PySem.SeqAt.canLay_of_shaped (ros_ok h))
theorem rd_ints {K : PySem.W.Frag} {H : Hp} : ∀ ns : List Int, RdAll K H (ns.map V.int) (ns.map PyData.int)
  | [] => .nil
  | x :: r => .cons (.int x) (rd_ints r)
theorem rd_ros {K : PySem.W.Frag} {H : Hp} {a : Addr} {vs : List V} {rs : List Ro} (hS : SqL K H a vs) (h : RosAt K H vs rs) : RdV K H (.ref a) (rosD rs) := by
  refine RdV.lst' hS ⟨by rw [List.length_map, h.1], fun i x d hx hd => ?_⟩
  obtain ⟨r, t, hr, rfl, hT⟩ := h.item hx
  rw [List.getElem?_map, hr] at hd
  cases hd
  exact RdV.tup' hT (.cons (.str _) (rd_ints _))
theorem cutR {G : Prop} {R : St → Hp → Prop} (P : St → Hp → Prop) (main : (∀ σ' H', P σ' H' → R σ' H') → G) (k : ∀ σ' H', P σ' H' → R σ' H') : G := main k

theorem sp_eq : (" " : Str) = ⟨#[32]⟩ := by decide +kernel
theorem nl_eq : ("\n" : Str) = ⟨#[10]⟩ := by decide +kernel
theorem ht_eq : ("#" : Str) = ⟨#[35]⟩ := by decide +kernel
def lineL (r : Ro) : List Str := roS r :: (roN r).map tx
def lineT (r : Ro) : Str := Str.join " " (lineL r)
def textT (rs : List Ro) : Str := Str.join "\n" (rs.map lineT)
theorem ok_nums {r : Ro} (h : r.Ok 100) : ∀ n ∈ roN r, n.natAbs ≤ 2147483648 := by
  intro n hn
  cases r with
  | push w =>
    have h : inW w := h
    unfold inW at h
    rw [List.mem_singleton.mp hn]
    omega
  | low s k => have := h.2; rw [List.mem_singleton.mp hn]; omega
  | pla s k => have := h.2; rw [List.mem_singleton.mp hn]; omega
  | kin c k =>
    have h1 := h.1
    have h2 := h.2
    rcases List.mem_cons.mp hn with e | e
    · rw [e]; omega
    · rw [List.mem_singleton.mp e]; omega
  | fld s c f =>
    have h1 := h.2.1
    have h2 := h.2.2
    rcases List.mem_cons.mp hn with e | e
    · rw [e]; omega
    · rw [List.mem_singleton.mp e]; omega
  | bare s => cases hn
theorem roN_few (r : Ro) : (roN r).length ≤ 2 := by cases r <;> simp [roN]
theorem sign_sgs : ∀ s ∈ signsL, (∀ c ∈ s.cps.toList, 97 ≤ c ∧ c ≤ 122) ∧ 1 ≤ s.length ∧ s.length ≤ 5 := by decide +kernel
theorem word_sgs {r : Ro} (h : r.Ok 100) : ∀ w ∈ lineL r, (∀ c ∈ sgs w, c = 45 ∨ (48 ≤ c ∧ c ≤ 57) ∨ (97 ≤ c ∧ c ≤ 122)) ∧ 1 ≤ w.length ∧ w.length ≤ 11 := by
  intro w hw
  rcases List.mem_cons.mp hw with e | e
  · have z := sign_sgs _ h.sign
    rw [e]
    exact ⟨fun c hc => .inr (.inr (z.1 c hc)), z.2.1, by omega⟩
  · obtain ⟨n, hn, rfl⟩ := List.mem_map.mp e
    have z := tx_read (ok_nums h n hn)
    refine ⟨fun c hc => ?_, z.2.2, z.2.1⟩
    rcases tx_in hc with y | y
    · exact .inl y
    · exact .inr (.inl y)
theorem len_sum {l : List Str} {b : Nat} (h : ∀ w ∈ l, w.length ≤ b) : (l.map (·.length)).sum ≤ b * l.length := by
  induction l with
  | nil => exact Nat.zero_le _
  | cons x r ih =>
    have h1 := h x List.mem_cons_self
    have h2 := ih fun w hw => h w (List.mem_cons_of_mem _ hw)
    rw [List.map_cons, List.sum_cons, List.length_cons, Nat.mul_add]
    omega
theorem line_few (r : Ro) : (lineL r).length ≤ 3 := by
  have := roN_few r
  show ((roN r).map tx).length + 1 ≤ 3
  rw [List.length_map]
  omega
theorem line_len {r : Ro} (h : r.Ok 100) : (lineT r).length ≤ 36 := by
  have z := PySem.StrLaws.join_length_le " " (lineL r)
  have s := len_sum fun w hw => (word_sgs h w hw).2.2
  have f := line_few r
  have e : (" " : Str).length = 1 := by decide +kernel
  rw [e] at z
  show (Str.join " " (lineL r)).length ≤ 36
  omega
theorem text_len {rs : List Ro} (h : ∀ r ∈ rs, r.Ok 100) (hl : rs.length ≤ 101) : (textT rs).length ≤ 4000 := by
  have z := PySem.StrLaws.join_length_le "\n" (rs.map lineT)
  have s := len_sum (l := rs.map lineT) (b := 36) fun w hw => by
    obtain ⟨r, hr, rfl⟩ := List.mem_map.mp hw
    exact line_len (h r hr)
  have e : ("\n" : Str).length = 1 := by decide +kernel
  rw [e] at z
  rw [List.length_map] at z s
  show (Str.join "\n" (rs.map lineT)).length ≤ 4000
  omega
theorem line_sgs {r : Ro} (h : r.Ok 100) : ∀ c ∈ sgs (lineT r), c = 32 ∨ c = 45 ∨ (48 ≤ c ∧ c ≤ 57) ∨ (97 ≤ c ∧ c ≤ 122) := by
  intro c hc
  unfold lineT at hc
  rw [sp_eq] at hc
  rcases mem_join hc with e | ⟨w, hw, hcw⟩
  · exact .inl e
  · exact .inr ((word_sgs h w hw).1 c hcw)
theorem line_words {r : Ro} (h : r.Ok 100) : Txt.split (lineT r) " " = lineL r := by
  unfold lineT
  rw [sp_eq]
  refine split_join 32 (fun e => by cases e) fun w hw hc => ?_
  have := (word_sgs h w hw).1 32 hc
  omega
theorem empty_words : Txt.split Str.empty " " = [Str.empty] := by
  rw [sp_eq]
  exact split_join 32 (ls := [Str.empty]) (by simp) fun w hw hc => by
    rw [List.mem_singleton.mp hw] at hc
    cases hc
def linesL (rs : List Ro) : List Str := if rs = [] then [Str.empty] else rs.map lineT
theorem text_lines {rs : List Ro} (h : ∀ r ∈ rs, r.Ok 100) : Txt.split (textT rs) "\n" = linesL rs := by
  unfold linesL textT
  rw [nl_eq]
  by_cases e : rs = []
  · rw [if_pos e, e]
    exact split_join 10 (ls := [Str.empty]) (by simp) fun w hw hc => by
      rw [List.mem_singleton.mp hw] at hc
      cases hc
  · rw [if_neg e]
    refine split_join 10 (fun z => e (List.map_eq_nil_iff.mp z)) fun w hw hc => ?_
    obtain ⟨r, hr, rfl⟩ := List.mem_map.mp hw
    have := line_sgs (h r hr) 10 hc
    omega
theorem line_at {r : Ro} (h : r.Ok 100) {i : Nat} {x : V} (hx : (roV r)[i]? = some x) : ∃ w, (lineL r)[i]? = some w ∧ ((∃ n : Int, x = .int n ∧ w = tx n ∧ n.natAbs.log2 < 1920) ∨ x = .str w) := by
  cases i with
  | zero => cases hx; exact ⟨_, rfl, .inr rfl⟩
  | succ i =>
    have hx : ((roN r).map V.int)[i]? = some x := hx
    rw [List.getElem?_map] at hx
    cases e : (roN r)[i]? with
    | none => rw [e] at hx; cases hx
    | some n =>
      rw [e] at hx
      cases hx
      refine ⟨tx n, by show ((roN r).map tx)[i]? = _; rw [List.getElem?_map, e]; rfl, .inl ⟨n, rfl, rfl, ?_⟩⟩
      have := ok_nums h n (List.mem_of_getElem? e)
      exact log_small (by omega)
theorem fit_small {x : Str} {m k : Nat} (hm : mostOf x = some ((m : Nat) : Int)) (hx : ¬ x = "word") (h : k ≤ m) : fitsB x (.int (k : Int)) = true := by
  show (if x = "word" then inWord (k : Int) else match mostOf x with | some m => decide (0 ≤ (k : Int)) && decide ((k : Int) ≤ m) | none => false) = true
  rw [if_neg hx, hm]
  show (decide (0 ≤ (k : Int)) && decide ((k : Int) ≤ (m : Int))) = true
  rw [decide_eq_true (by omega), decide_eq_true (by omega)]
  rfl
theorem row_true {r : Ro} (h : r.Ok 100) : rowB (roV r) = true := by
  have hs := h.sign
  show (decide (roS r ∈ signsL) && (decide (((roN r).map V.int).length = (wantsL (roS r)).length) && ((wantsL (roS r)).zip ((roN r).map V.int)).all fun p => fitsB p.1 p.2)) = true
  rw [decide_eq_true hs, Bool.true_and]
  cases r with
  | push w =>
    have h : inW w := h
    unfold inW at h
    have e : wantsL (roS (.push w)) = (["word"] : List Str) := (by decide +kernel : wantsL "push" = (["word"] : List Str))
    rw [e]
    show (fitsB "word" (.int w) && true) = true
    have e2 : fitsB "word" (.int w) = inWord w := by
      show (if ("word" : Str) = "word" then inWord w else match mostOf "word" with | some m => decide (0 ≤ w) && decide (w ≤ m) | none => false) = inWord w
      rw [if_pos rfl]
    rw [e2]
    show ((decide (-2147483648 ≤ w) && decide (w < 2147483648)) && true) = true
    rw [decide_eq_true (by omega), decide_eq_true (by omega)]
    rfl
  | low s k =>
    obtain ⟨x, e, e2, e3⟩ := (by decide +kernel : ∀ s ∈ lowL, ∃ x ∈ (["box", "make", "part"] : List Str), wantsL s = [x] ∧ mostOf x = some ((7 : Nat) : Int) ∧ ¬ x = "word") s h.1
    rw [show wantsL (roS (.low s k)) = [x] from e2]
    show (fitsB x (.int (k : Int)) && true) = true
    rw [fit_small e3.1 e3.2 (by have := h.2; omega)]
    rfl
  | pla s k =>
    have e := (by decide +kernel : ∀ s ∈ plaL, wantsL s = (["place"] : List Str)) s h.1
    rw [show wantsL (roS (.pla s k)) = (["place"] : List Str) from e]
    show (fitsB "place" (.int (k : Int)) && true) = true
    rw [fit_small (m := 99) (by decide +kernel) (by decide +kernel) (by have := h.2; omega)]
    rfl
  | kin c k =>
    rw [show wantsL (roS (.kin c k)) = (["make", "place"] : List Str) from (by decide +kernel : wantsL "kin" = (["make", "place"] : List Str))]
    show (fitsB "make" (.int (c : Int)) && (fitsB "place" (.int (k : Int)) && true)) = true
    rw [fit_small (m := 7) (by decide +kernel) (by decide +kernel) (by have := h.1; omega), fit_small (m := 99) (by decide +kernel) (by decide +kernel) (by have := h.2; omega)]
    rfl
  | fld s c f =>
    have e := (by decide +kernel : ∀ s ∈ fldL, wantsL s = (["make", "field"] : List Str)) s h.1
    rw [show wantsL (roS (.fld s c f)) = (["make", "field"] : List Str) from e]
    show (fitsB "make" (.int (c : Int)) && (fitsB "field" (.int (f : Int)) && true)) = true
    rw [fit_small (m := 7) (by decide +kernel) (by decide +kernel) (by have := h.2.1; omega), fit_small (m := 7) (by decide +kernel) (by decide +kernel) (by have := h.2.2; omega)]
    rfl
  | bare s =>
    have e := (by decide +kernel : ∀ s ∈ baL, wantsL s = []) s h
    rw [show wantsL (roS (.bare s)) = [] from e]
    rfl
theorem ty_ints {K : PySem.W.Frag} {H : Hp} (s : Str) (ns : List Int) : TyAll K H (.str s :: ns.map V.int) := fun x hx => by
  rcases List.mem_cons.mp hx with e | e
  · rw [e]; exact ⟨_, .str s⟩
  · obtain ⟨n, _, rfl⟩ := List.mem_map.mp e
    exact ⟨_, .int n⟩
theorem parts_few {x y : Str} (h : x.length ≤ 100000) : (Builtin.Str.partsBetween x (Builtin.Str.occurrences x y 0 x.length (x.length + 1)) y.length).length ≤ sizeLine ∧ (Txt.split x y).length ≤ sizeLine := by
  have h1 := PySem.StrLaws.occ_length_le x y 0 x.length (x.length + 1)
  have h2 := PyProof.Rows.split_le x y
  have h3 : sizeLine = 16777216 := by decide
  rw [PyProof.Rows.len_partsBetween]
  omega
theorem few_sizeLine {n : Nat} (h : n ≤ 1000000) : n ≤ sizeLine := by
  have h3 : sizeLine = 16777216 := by decide
  omega
theorem join_small {sep : Str} {l : List Str} {b : Nat} (hs : sep.length ≤ 1) (h : ∀ w ∈ l, w.length ≤ b) (hb : (b + 1) * l.length ≤ 1000000) : JoinOk sep l = true := by
  refine PyProof.Rows.joinOk_of ?_
  have s := len_sum h
  have e : l.length * sep.length ≤ l.length := by
    have := Nat.mul_le_mul_left l.length hs
    omega
  rw [Nat.add_mul, Nat.one_mul] at hb
  omega
def full (w : Str) : Bool := decide (¬ w = (Str.ofString ""))
def wordsL (x : Str) : List Str := (Txt.split x " ").filter full
theorem full_of {w : Str} (h : 1 ≤ w.length) : full w = true := decide_eq_true fun e => by
  rw [e] at h
  exact absurd h (by decide +kernel)
theorem words_line {r : Ro} (h : r.Ok 100) : wordsL (lineT r) = lineL r := by
  unfold wordsL
  rw [line_words h]
  exact List.filter_eq_self.mpr fun w hw => full_of (word_sgs h w hw).2.1
theorem words_empty : wordsL Str.empty = [] := by
  unfold wordsL
  rw [empty_words]
  decide +kernel
theorem tjoin (sep : Str) (l : List Str) : Txt.join sep l = Str.join sep l := eq_of_beq (PyProof.Rows.join_closes rfl)
theorem line_tj (r : Ro) : Txt.join " " (lineL r) = lineT r := tjoin _ _
theorem text_tj (rs : List Ro) : Txt.join "\n" (rs.map lineT) = textT rs := tjoin _ _

/-! ### lines and their words -/
def toS (l : List Nat) : Str := ⟨l.toArray⟩
theorem toS_sgs (x : Str) : toS (sgs x) = x := sgs_inj rfl
theorem sgs_toS (l : List Nat) : sgs (toS l) = l := rfl
theorem len_sgs (x : Str) : x.length = (sgs x).length := by show x.cps.size = _; simp [sgs]
def sp1 (c : Nat) : List Nat → List Nat → List (List Nat)
  | cur, [] => [cur]
  | cur, x :: l => if x = c then cur :: sp1 c [] l else sp1 c (cur ++ [x]) l
theorem sp1_ne (c : Nat) : ∀ l cur : List Nat, sp1 c cur l ≠ []
  | [], cur => by intro h; cases h
  | x :: l, cur => by
    rw [sp1]
    by_cases h : x = c
    · rw [if_pos h]; intro z; cases z
    · rw [if_neg h]; exact sp1_ne c l _
theorem sp1_join (c : Nat) : ∀ l cur : List Nat, sgs (Str.join ⟨#[c]⟩ ((sp1 c cur l).map toS)) = cur ++ l
  | [], cur => by
    show sgs (toS cur) = cur ++ []
    rw [List.append_nil]
    rfl
  | x :: l, cur => by
    rw [sp1]
    by_cases h : x = c
    · rw [if_pos h, List.map_cons]
      subst h
      have ih := sp1_join x l []
      cases e : sp1 x [] l with
      | nil => exact absurd e (sp1_ne _ _ _)
      | cons y r =>
        rw [e] at ih
        rw [List.map_cons] at ih ⊢
        rw [sgs_join2, ih]
        rfl
    · rw [if_neg h, sp1_join c l (cur ++ [x]), List.append_assoc]
      rfl
theorem sp1_free (c : Nat) : ∀ l cur : List Nat, c ∉ cur → ∀ p ∈ sp1 c cur l, c ∉ p
  | [], cur, h, p, hp => by
    rw [sp1] at hp
    rw [List.mem_singleton.mp hp]
    exact h
  | x :: l, cur, h, p, hp => by
    rw [sp1] at hp
    by_cases e : x = c
    · rw [if_pos e] at hp
      rcases List.mem_cons.mp hp with z | z
      · rw [z]; exact h
      · exact sp1_free c l [] (by simp) p z
    · rw [if_neg e] at hp
      refine sp1_free c l (cur ++ [x]) (fun z => ?_) p hp
      rcases List.mem_append.mp z with y | y
      · exact h y
      · exact e (List.mem_singleton.mp y).symm
theorem split_sp1 (c : Nat) (x : Str) : Txt.split x ⟨#[c]⟩ = (sp1 c [] (sgs x)).map toS := by
  have e : Str.join ⟨#[c]⟩ ((sp1 c [] (sgs x)).map toS) = x := sgs_inj (sp1_join c (sgs x) [])
  have z := split_join c (ls := (sp1 c [] (sgs x)).map toS) (fun y => sp1_ne _ _ _ (List.map_eq_nil_iff.mp y)) (fun l hl => by
    obtain ⟨p, hp, rfl⟩ := List.mem_map.mp hl
    exact sp1_free c _ _ (by simp) p hp)
  rw [e] at z
  exact z
/-- a word that is ended -/
def fl (cur : List Nat) : List (List Nat) := if cur = [] then [] else [cur]
/-- the words of a line, its remark left out -/
def wd : List Nat → List Nat → List (List Nat)
  | cur, [] => fl cur
  | cur, c :: l => if c = 35 then fl cur else if c = 32 then fl cur ++ wd [] l else wd (cur ++ [c]) l
theorem full_toS (cur : List Nat) : [toS cur].filter full = (fl cur).map toS := by
  unfold fl
  by_cases h : cur = []
  · rw [if_pos h, h]
    decide +kernel
  · rw [if_neg h, List.filter_cons, if_pos]
    · rfl
    · refine decide_eq_true fun z => h ?_
      have := congrArg sgs z
      exact this.trans (by decide +kernel)
theorem wd_sp1 : ∀ l cur : List Nat, ((sp1 32 cur (l.takeWhile (· != 35))).map toS).filter full = (wd cur l).map toS
  | [], cur => full_toS cur
  | x :: l, cur => by
    rw [wd]
    by_cases h : x = 35
    · rw [if_pos h, List.takeWhile_cons, if_neg (by simp [h])]
      exact full_toS cur
    · rw [if_neg h, List.takeWhile_cons, if_pos (by simp [h]), sp1]
      by_cases h2 : x = 32
      · rw [if_pos h2, if_pos h2, List.map_cons, List.map_append, ← wd_sp1 l [], ← full_toS]
        rw [← List.filter_append]
        rfl
      · rw [if_neg h2, if_neg h2]
        exact wd_sp1 l _
theorem take_while {c : Nat} : ∀ {l : List Nat} {i : Nat}, l[i]? = some c → (∀ k, k < i → l[k]? ≠ some c) → l.take i = l.takeWhile (· != c)
  | [], i, h, _ => by simp at h
  | x :: l, 0, h, _ => by
    have h : x = c := by simpa using h
    rw [List.takeWhile_cons, if_neg (by simp [h])]
    rfl
  | x :: l, i + 1, h, hk => by
    have h0 : x ≠ c := fun e => hk 0 (Nat.succ_pos _) (by rw [e]; rfl)
    rw [List.takeWhile_cons, if_pos (by simp [h0]), List.take_succ_cons, take_while (l := l) (i := i) (by simpa using h) fun k hk' => by
      have := hk (k + 1) (by omega)
      simpa using this]
theorem while_all {c : Nat} : ∀ {l : List Nat}, (∀ a ∈ l, a ≠ c) → l.takeWhile (· != c) = l
  | [], _ => rfl
  | x :: l, h => by rw [List.takeWhile_cons, if_pos (by simp [h x List.mem_cons_self]), while_all fun a ha => h a (List.mem_cons_of_mem _ ha)]
theorem at_one {x : Str} {c i : Nat} : PySem.StrLaws.At x ⟨#[c]⟩ x.length i ↔ (sgs x)[i]? = some c := by
  unfold PySem.StrLaws.At
  have e : ∀ (l : List Nat), (i + 1 ≤ l.length ∧ ((⟨l⟩ : Array Nat).extract i (i + 1) == #[c]) = true) ↔ l[i]? = some c := fun l => by
    constructor
    · rintro ⟨h1, h2⟩
      have h3 := eq_of_beq h2
      have h4 := congrArg Array.toList h3
      rw [Array.toList_extract] at h4
      have h5 : (l.drop i).take 1 = [c] := by
        simpa [List.extract] using h4
      have hi : i < l.length := by omega
      rw [List.drop_eq_getElem_cons hi] at h5
      rw [List.getElem?_eq_getElem hi]
      have := (List.cons.inj h5).1
      rw [this]
    · intro h
      obtain ⟨hi, h2⟩ := List.getElem?_eq_some_iff.mp h
      refine ⟨by omega, beq_iff_eq.mpr (Array.toList_inj.mp ?_)⟩
      rw [Array.toList_extract]
      show List.extract l i (i + 1) = [c]
      unfold List.extract
      rw [List.drop_eq_getElem_cons hi, h2, show i + 1 - i = 1 by omega]
      rfl
  exact e x.cps.toList
theorem kept_sgs (x : Str) : sgs (keptS x "#") = (sgs x).takeWhile (· != 35) := by
  unfold keptS
  rw [ht_eq]
  rcases PySem.StrLaws.occ_head x ⟨#[35]⟩ 1 (Nat.le_refl _) with ⟨h1, h2⟩ | ⟨i, r, h1, h2, h3⟩
  · rw [h1]
    show sgs x = _
    symm
    refine while_all fun a ha => ?_
    obtain ⟨i, hi⟩ := List.getElem?_of_mem ha
    have := h2 i
    rw [at_one, hi] at this
    exact fun e => this (congrArg some e)
  · rw [h1]
    show sgs (Builtin.Str.strSub x 0 i) = _
    rw [PyProof.Rows.strSub_mk]
    show (List.drop 0 (sgs x)).take (i - 0) = _
    rw [List.drop_zero, Nat.sub_zero]
    exact take_while (at_one.mp h2) fun k hk e => h3 k hk (at_one.mpr e)
theorem words_wd (x : Str) : (Txt.split (keptS x "#") " ").filter full = (wd [] (sgs x)).map toS := by
  rw [sp_eq, split_sp1, kept_sgs]
  exact wd_sp1 _ _
theorem kept_len (x : Str) : (keptS x "#").length ≤ x.length := by
  rw [len_sgs, len_sgs, kept_sgs]
  exact (List.takeWhile_sublist _).length_le
/-! words as they are put together -/
theorem wd_few : ∀ l cur : List Nat, (wd cur l).length ≤ l.length + 1 ∧ ∀ w ∈ wd cur l, w ≠ [] ∧ w.length ≤ cur.length + l.length ∧ ∀ c ∈ w, c ∈ cur ∨ c ∈ l
  | [], cur => by
    rw [wd]
    unfold fl
    by_cases h : cur = []
    · rw [if_pos h]; simp
    · rw [if_neg h]
      refine ⟨by simp, fun w hw => ?_⟩
      rw [List.mem_singleton.mp hw]
      exact ⟨h, by simp, fun c hc => .inl hc⟩
  | x :: l, cur => by
    have ffl : (fl cur).length ≤ 1 ∧ ∀ w ∈ fl cur, w ≠ [] ∧ w.length ≤ cur.length ∧ ∀ c ∈ w, c ∈ cur := by
      unfold fl
      by_cases h : cur = []
      · rw [if_pos h]; simp
      · rw [if_neg h]
        refine ⟨by simp, fun w hw => ?_⟩
        rw [List.mem_singleton.mp hw]
        exact ⟨h, Nat.le_refl _, fun c hc => hc⟩
    rw [wd]
    by_cases h1 : x = 35
    · rw [if_pos h1]
      refine ⟨by simp; omega, fun w hw => ?_⟩
      obtain ⟨a, b, c⟩ := ffl.2 w hw
      exact ⟨a, by simp; omega, fun k hk => .inl (c k hk)⟩
    · rw [if_neg h1]
      by_cases h2 : x = 32
      · rw [if_pos h2]
        have ih := wd_few l []
        refine ⟨by rw [List.length_append, List.length_cons]; omega, fun w hw => ?_⟩
        rcases List.mem_append.mp hw with z | z
        · obtain ⟨a, b, c⟩ := ffl.2 w z
          exact ⟨a, by simp; omega, fun k hk => .inl (c k hk)⟩
        · obtain ⟨a, b, c⟩ := ih.2 w z
          refine ⟨a, by simp at b ⊢; omega, fun k hk => ?_⟩
          rcases c k hk with y | y
          · simp at y
          · exact .inr (List.mem_cons_of_mem _ y)
      · rw [if_neg h2]
        have ih := wd_few l (cur ++ [x])
        refine ⟨by rw [List.length_cons]; omega, fun w hw => ?_⟩
        obtain ⟨a, b, c⟩ := ih.2 w hw
        refine ⟨a, by simp at b ⊢; omega, fun k hk => ?_⟩
        rcases c k hk with y | y
        · rcases List.mem_append.mp y with y | y
          · exact .inl y
          · exact .inr (by rw [List.mem_singleton.mp y]; exact List.mem_cons_self)
        · exact .inr (List.mem_cons_of_mem _ y)
/-- what may stand behind the words -/
def Rem (r : List Nat) : Prop := ∀ cur, wd cur r = fl cur
theorem Rem.nil : Rem [] := fun _ => rfl
theorem Rem.hash (r : List Nat) : Rem (35 :: r) := fun cur => by rw [wd, if_pos rfl]
theorem fl_nil : fl [] = [] := rfl
theorem Rem.blank {r : List Nat} (h : Rem r) : Rem (32 :: r) := fun cur => by
  rw [wd, if_neg (by decide), if_pos rfl, h, fl_nil, List.append_nil]
theorem Rem.blanks {r : List Nat} (h : Rem r) : ∀ n, Rem (List.replicate n 32 ++ r)
  | 0 => h
  | n + 1 => by
    rw [List.replicate_succ]
    exact Rem.blank (Rem.blanks h n)
theorem wd_rem {r : List Nat} (h : Rem r) : ∀ {l cur : List Nat}, 35 ∉ l → wd cur (l ++ r) = wd cur l
  | [], cur, _ => h cur
  | x :: l, cur, hl => by
    have h1 : x ≠ 35 := fun e => hl (by rw [e]; exact List.mem_cons_self)
    have h2 : 35 ∉ l := fun e => hl (List.mem_cons_of_mem _ e)
    rw [List.cons_append, wd, wd, if_neg h1, if_neg h1, wd_rem h h2, wd_rem h h2]
theorem wd_word : ∀ {w l cur : List Nat}, 35 ∉ w → 32 ∉ w → wd cur (w ++ l) = wd (cur ++ w) l
  | [], l, cur, _, _ => by rw [List.append_nil]; rfl
  | x :: w, l, cur, h1, h2 => by
    rw [List.cons_append, wd, if_neg (fun e => h1 (by rw [e]; exact List.mem_cons_self)), if_neg (fun e => h2 (by rw [e]; exact List.mem_cons_self)), wd_word (fun e => h1 (List.mem_cons_of_mem _ e)) (fun e => h2 (List.mem_cons_of_mem _ e)), List.append_assoc]
    rfl
theorem wd_blanks (l : List Nat) : ∀ n, wd [] (List.replicate n 32 ++ l) = wd [] l
  | 0 => rfl
  | n + 1 => by
    rw [List.replicate_succ, List.cons_append, wd, if_neg (by decide), if_pos rfl, fl_nil, wd_blanks l n]
    rfl
/-- a word free of blanks and remarks -/
def Wo (w : List Nat) : Prop := w ≠ [] ∧ 35 ∉ w ∧ 32 ∉ w
theorem wd_last {w r : List Nat} (h : Wo w) (hr : Rem r) : wd [] (w ++ r) = [w] := by
  rw [wd_word h.2.1 h.2.2, hr]
  unfold fl
  rw [List.nil_append, if_neg h.1]
theorem wd_then {w l : List Nat} (h : Wo w) (n : Nat) : wd [] (w ++ (List.replicate (n + 1) 32 ++ l)) = w :: wd [] l := by
  rw [wd_word h.2.1 h.2.2, List.replicate_succ, List.cons_append, wd, if_neg (by decide), if_pos rfl, wd_blanks, List.nil_append]
  unfold fl
  rw [if_neg h.1]
  rfl
theorem wd_line (b : Nat) {r : List Nat} (hr : Rem r) : ∀ (ws : List (List Nat)) {w : List Nat}, Wo w → (∀ v ∈ ws, Wo v) → wd [] (w ++ ((ws.map fun v => List.replicate (b + 1) 32 ++ v).flatten ++ r)) = w :: ws
  | [], w, h, _ => wd_last h hr
  | v :: ws, w, h, hw => by
    rw [List.map_cons, List.flatten_cons, List.append_assoc, List.append_assoc, wd_then h, wd_line b hr ws (hw v List.mem_cons_self) fun u hu => hw u (List.mem_cons_of_mem _ hu)]
/-! numbers of words -/
def dgt (c : Nat) : Bool := decide (48 ≤ c) && decide (c ≤ 57)
def figs (d : List Nat) : Bool := decide (1 ≤ d.length) && (decide (d.length ≤ 10) && (!decide (d.head? = some 48) && d.all dgt))
def numO (w : List Nat) : Option Int :=
  if w = [48] then some 0
  else if w.head? = some 45 then (if figs w.tail = true then some (-(PySem.NumText.digitsVal w.tail : Int)) else none)
  else (if figs w = true then some (PySem.NumText.digitsVal w : Int) else none)
def numV (w : List Nat) : V := match numO w with | some n => .int n | none => .non
theorem num_tx {n : Int} (h : n.natAbs < 10 ^ 10) : numO (sgs (tx n)) = some n := by
  by_cases h0 : n = 0
  · subst h0
    decide +kernel
  by_cases hn : 0 ≤ n
  · obtain ⟨m, rfl⟩ := Int.eq_ofNat_of_zero_le hn
    obtain ⟨c, l, e, hc⟩ := dg_head m (by omega)
    have hd := fun k hk => dg_in (m := m) (c := k) (by rw [e]; exact hk)
    have hl := dg_len (m := m) (by omega)
    have hc1 := hd c List.mem_cons_self
    have vb := PySem.W.KIN.val_back m
    have ll : (c :: l).length = (Nat.toDigits 10 m).length := by rw [← e, List.length_map]
    rw [tx_pos]
    rw [e] at vb ⊢
    have hf : figs (c :: l) = true := by
      unfold figs
      rw [decide_eq_true (by omega), decide_eq_true (by omega), decide_eq_false (by simp [hc]), Bool.true_and, Bool.true_and]
      show (c :: l).all dgt = true
      rw [List.all_eq_true]
      intro k hk
      have := hd k hk
      unfold dgt
      rw [decide_eq_true this.1, decide_eq_true this.2]
      rfl
    unfold numO
    rw [if_neg (fun y => hc (List.cons.inj y).1), if_neg (by simp; omega), if_pos hf, vb]
  · obtain ⟨m, rfl⟩ : ∃ m : Nat, n = -(m : Int) := ⟨n.natAbs, by omega⟩
    have hm : 0 < m := by omega
    obtain ⟨c, l, e, hc⟩ := dg_head m hm
    have hd := fun k hk => dg_in (m := m) (c := k) (by rw [e]; exact hk)
    have hl := dg_len (m := m) (by omega)
    have vb := PySem.W.KIN.val_back m
    have ll : (c :: l).length = (Nat.toDigits 10 m).length := by rw [← e, List.length_map]
    rw [tx_neg hm]
    rw [e] at vb ⊢
    have hf : figs (c :: l) = true := by
      unfold figs
      rw [decide_eq_true (by omega), decide_eq_true (by omega), decide_eq_false (by simp [hc]), Bool.true_and, Bool.true_and]
      show (c :: l).all dgt = true
      rw [List.all_eq_true]
      intro k hk
      have := hd k hk
      unfold dgt
      rw [decide_eq_true this.1, decide_eq_true this.2]
      rfl
    unfold numO
    rw [if_neg (fun y => absurd (List.cons.inj y).1 (by decide)), if_pos (show (45 :: c :: l).head? = some 45 from rfl)]
    show (if figs (c :: l) = true then some (-(PySem.NumText.digitsVal (c :: l) : Int)) else none) = _
    rw [if_pos hf, vb]
theorem numV_tx {n : Int} (h : n.natAbs < 10 ^ 10) : numV (sgs (tx n)) = .int n := by
  unfold numV
  rw [num_tx h]
theorem wo_tx (n : Int) : Wo (sgs (tx n)) := by
  refine ⟨fun e => ?_, fun h => by have := tx_in h; omega, fun h => by have := tx_in h; omega⟩
  by_cases hn : 0 ≤ n
  · obtain ⟨m, rfl⟩ := Int.eq_ofNat_of_zero_le hn
    rw [tx_pos] at e
    have := PySem.toDigits_len_ge 10 m
    have := congrArg List.length e
    rw [List.length_map] at this
    simp at this
  · obtain ⟨m, rfl⟩ : ∃ m : Nat, n = -(m : Int) := ⟨n.natAbs, by omega⟩
    rw [tx_neg (by omega)] at e
    cases e
theorem tx_len {n : Int} (h : n.natAbs < 10 ^ 10) : (sgs (tx n)).length ≤ 11 := by
  by_cases hn : 0 ≤ n
  · obtain ⟨m, rfl⟩ := Int.eq_ofNat_of_zero_le hn
    have hl := dg_len (m := m) (by omega)
    rw [tx_pos, List.length_map]
    omega
  · obtain ⟨m, rfl⟩ : ∃ m : Nat, n = -(m : Int) := ⟨n.natAbs, by omega⟩
    have hl := dg_len (m := m) (by omega)
    rw [tx_neg (by omega), List.length_cons, List.length_map]
    omega
theorem wo_sign : ∀ s ∈ signsL, Wo (sgs s) := fun s hs => by
  obtain ⟨h1, h2, h3⟩ := sign_sgs s hs
  refine ⟨fun e => ?_, fun h => by have := h1 _ h; omega, fun h => by have := h1 _ h; omega⟩
  rw [len_sgs, e] at h2
  exact absurd h2 (by decide)
/-! what a line is -/
def rowV (ws : List (List Nat)) : List V := match ws with | [] => [] | w :: ws => .str (toS w) :: ws.map numV
def KLine (l : Str) : Option Ro → Prop
  | none => wd [] (sgs l) = []
  | some r => wd [] (sgs l) = (lineL r).map sgs ∧ r.Ok 100
def badW (ws : List (List Nat)) : Bool := match ws with | [] => false | w :: ws => !rowB (.str (toS w) :: ws.map numV)
def Plain (l : Str) : Prop := (∀ c ∈ sgs l, c < 128 ∧ c ≠ 10) ∧ (sgs l).length ≤ 100
def Kn (ls : List Str) (ks : List (Option Ro)) : Prop := ks.length ≤ ls.length ∧ ∀ (i : Nat) (l : Str) (k : Option Ro), ls[i]? = some l → ks[i]? = some k → KLine l k
theorem row_of {r : Ro} (h : r.Ok 100) : rowV ((lineL r).map sgs) = roV r := by
  show .str (toS (sgs (roS r))) :: ((((roN r).map tx).map sgs).map numV) = _
  rw [toS_sgs, List.map_map, List.map_map]
  refine congrArg _ (List.map_congr_left fun n hn => ?_)
  have := ok_nums h n hn
  exact numV_tx (by omega)
theorem ty_nums {K : PySem.W.Frag} {H : Hp} (w : List Nat) (ws : List (List Nat)) : TyAll K H (rowV (w :: ws)) := fun x hx => by
  rcases List.mem_cons.mp hx with e | e
  · rw [e]; exact ⟨_, .str _⟩
  · obtain ⟨n, _, rfl⟩ := List.mem_map.mp e
    unfold numV
    cases numO n with
    | none => exact ⟨_, .non⟩
    | some k => exact ⟨_, .int k⟩
/-! lines as they are put together -/
def Asc (l : List Nat) : Prop := ∀ c ∈ l, c < 128 ∧ c ≠ 10
theorem Asc.app {l m : List Nat} (h : Asc l) (g : Asc m) : Asc (l ++ m) := fun c hc => (List.mem_append.mp hc).elim (h c) (g c)
theorem Asc.nil : Asc [] := fun c hc => by simp at hc
theorem Asc.rep (n : Nat) : Asc (List.replicate n 32) := fun c hc => by
  rw [(List.mem_replicate.mp hc).2]
  exact ⟨by decide, by decide⟩
theorem Asc.tx (n : Int) : Asc (sgs (tx n)) := fun c hc => by have := tx_in hc; omega
theorem Asc.sign {s : Str} (h : s ∈ signsL) : Asc (sgs s) := fun c hc => by have := (sign_sgs s h).1 c hc; omega
theorem Asc.flat {ls : List (List Nat)} (h : ∀ l ∈ ls, Asc l) : Asc ls.flatten := fun c hc => by
  obtain ⟨l, hl, hcl⟩ := List.mem_flatten.mp hc
  exact h l hl c hcl
theorem rep_flat (n : Nat) (c : Nat) : (List.replicate n [c]).flatten = List.replicate n c := by
  induction n with
  | zero => rfl
  | succ n ih => rw [List.replicate_succ, List.flatten_cons, ih, List.replicate_succ]; rfl
theorem rep_sgs (x : Str) (n : Nat) : sgs (repS x n) = (List.replicate n (sgs x)).flatten := rfl
theorem blank_rep (n : Nat) : sgs (repS " " n) = List.replicate n 32 := by
  rw [rep_sgs, show sgs (" " : Str) = [32] by decide +kernel, rep_flat]
theorem len_rep (x : Str) (n : Nat) : (repS x n).length = n * x.length := by
  rw [len_sgs, len_sgs, rep_sgs]
  induction n with
  | zero => simp
  | succ n ih => rw [List.replicate_succ, List.flatten_cons, List.length_append, ih, Nat.succ_mul, Nat.add_comm]
theorem len_app (x y : Str) : (x ++ y).length = x.length + y.length := by rw [len_sgs, len_sgs, len_sgs, sgs_app, List.length_append]
theorem row_words {r : Ro} (h : r.Ok 100) {a b : Nat} {rem : List Nat} (hr : Rem rem) {l : Str} (e : sgs l = List.replicate a 32 ++ sgs (roS r) ++ (((roN r).map tx).map fun v => List.replicate (b + 1) 32 ++ sgs v).flatten ++ rem) : KLine l (some r) := by
  refine ⟨?_, h⟩
  have z := wd_line b hr (((roN r).map tx).map sgs) (w := sgs (roS r)) (wo_sign _ h.sign) (fun v hv => by
    obtain ⟨y, hy, rfl⟩ := List.mem_map.mp hv
    obtain ⟨n, _, rfl⟩ := List.mem_map.mp hy
    exact wo_tx n)
  rw [List.map_map] at z
  rw [e, List.append_assoc, List.append_assoc, wd_blanks]
  exact z
def blankL : List Str := ["", "   ", "# dup", "  #", "#"]
theorem blank_ok : ∀ x ∈ blankL, wd [] (sgs x) = [] ∧ (∀ c ∈ sgs x, c < 128 ∧ c ≠ 10) ∧ (sgs x).length ≤ 100 := by decide +kernel
theorem Kn.snoc {ls : List Str} {ks : List (Option Ro)} {l : Str} {k : Option Ro} (h : Kn ls ks) (e : ks.length = ls.length) (hk : KLine l k) : Kn (ls ++ [l]) (ks ++ [k]) := by
  refine ⟨by rw [List.length_append, List.length_append, e]; exact Nat.le_refl _, fun i l' k' h1 h2 => ?_⟩
  by_cases hi : i < ls.length
  · rw [List.getElem?_append_left hi] at h1
    rw [List.getElem?_append_left (by omega)] at h2
    exact h.2 i l' k' h1 h2
  · have hl := (List.getElem?_eq_some_iff.mp h1).1
    rw [List.length_append, List.length_singleton] at hl
    have ei : i = ls.length := by omega
    subst ei
    rw [List.getElem?_append_right (Nat.le_refl _), Nat.sub_self] at h1
    rw [← e, List.getElem?_append_right (Nat.le_refl _), Nat.sub_self] at h2
    cases h1
    cases h2
    exact hk
theorem Kn.ok {ls : List Str} {ks : List (Option Ro)} (h : Kn ls ks) : ∀ r ∈ ks.filterMap id, r.Ok 100 := by
  intro r hr
  obtain ⟨k, hk, e⟩ := List.mem_filterMap.mp hr
  have e : k = some r := e
  subst e
  obtain ⟨i, hi⟩ := List.getElem?_of_mem hk
  have hil := (List.getElem?_eq_some_iff.mp hi).1
  have := h.1
  exact (h.2 i _ _ (List.getElem?_eq_getElem (by omega)) hi).2
theorem cut_few {xs : List V} : (cutV xs (some 3) (some 62)).length ≤ 59 := by
  unfold cutV
  rw [show (some (3 : Int)) = some ((3 : Nat) : Int) from rfl, show (some (62 : Int)) = some ((62 : Nat) : Int) from rfl, HT.sIx_nat, HT.sIx_nat, List.length_take, List.length_drop]
  omega
theorem Plain.of {ls : List Str} (h : ∀ l ∈ ls, Plain l) {l : Str} (hl : Plain l) : ∀ x ∈ ls ++ [l], Plain x := fun x hx => (List.mem_append.mp hx).elim (h x) fun z => by rw [List.mem_singleton.mp z]; exact hl
/-! wrong lines -/
def badB (l : Str) : Bool := badW (wd [] (sgs l)) && (decide (35 ∉ sgs l) && (decide (∀ c ∈ sgs l, c < 128 ∧ c ≠ 10) && decide ((sgs l).length ≤ 50)))
structure BadL (l : Str) : Prop where
  bad : badW (wd [] (sgs l)) = true
  free : 35 ∉ sgs l
  asc : Asc (sgs l)
  len : (sgs l).length ≤ 50
theorem BadL.of {l : Str} (h : badB l = true) : BadL l := by
  unfold badB at h
  simp only [Bool.and_eq_true, decide_eq_true_eq] at h
  exact ⟨h.1, h.2.1, h.2.2.1, h.2.2.2⟩
theorem str_len {s : Str} (h : s ∈ signsL) : s.length ≤ 5 := (sign_sgs s h).2.2
theorem bad_one {s : Str} {n : Int} (hs : s ∈ signsL) (hn : n.natAbs < 10 ^ 10) (hb : rowB [.str s, .int n] = false) : BadL (s ++ " " ++ tx n) := by
  have e : sgs (s ++ " " ++ tx n) = sgs s ++ (List.replicate 1 32 ++ sgs (tx n)) := by
    rw [sgs_app, sgs_app, List.append_assoc]
    rw [show sgs (" " : Str) = [32] by decide +kernel]
    rfl
  have ln := tx_len hn
  have ls := str_len hs
  rw [len_sgs] at ls
  refine ⟨?_, ?_, ?_, ?_⟩
  · have w2 : wd [] (sgs (tx n)) = [sgs (tx n)] := by
      have := wd_last (wo_tx n) Rem.nil
      rw [List.append_nil] at this
      exact this
    rw [e, wd_then (wo_sign s hs) 0, w2]
    show (!rowB [.str (toS (sgs s)), numV (sgs (tx n))]) = true
    rw [toS_sgs, numV_tx hn, hb]
    rfl
  · rw [e]
    intro h
    rcases List.mem_append.mp h with h | h
    · exact (wo_sign s hs).2.1 h
    · rcases List.mem_append.mp h with h | h
      · exact absurd (List.mem_replicate.mp h).2 (by decide)
      · exact (wo_tx n).2.1 h
  · rw [e]
    exact (Asc.sign hs).app ((Asc.rep 1).app (.tx n))
  · rw [e, List.length_append, List.length_append, List.length_replicate]
    omega
theorem row_one {s x : Str} {n : Int} (hs : wantsL s = [x]) (hf : fitsB x (.int n) = false) : rowB [.str s, .int n] = false := by
  show (decide (s ∈ signsL) && (decide ([V.int n].length = (wantsL s).length) && ((wantsL s).zip [V.int n]).all fun p => fitsB p.1 p.2)) = false
  rw [hs]
  show (decide (s ∈ signsL) && (true && (fitsB x (.int n) && true))) = false
  rw [hf]
  simp
theorem row_len {s : Str} {n : Int} (hs : (wantsL s).length ≠ 1) : rowB [.str s, .int n] = false := by
  show (decide (s ∈ signsL) && (decide ([V.int n].length = (wantsL s).length) && ((wantsL s).zip [V.int n]).all fun p => fitsB p.1 p.2)) = false
  rw [decide_eq_false (show ¬ [V.int n].length = (wantsL s).length from fun z => hs z.symm)]
  simp
theorem fit_out {x : Str} {m n : Int} (hm : mostOf x = some m) (hx : ¬ x = "word") (h : n < 0 ∨ m < n) : fitsB x (.int n) = false := by
  show (if x = "word" then inWord n else match mostOf x with | some m => decide (0 ≤ n) && decide (n ≤ m) | none => false) = false
  rw [if_neg hx, hm]
  show (decide (0 ≤ n) && decide (n ≤ m)) = false
  rcases h with h | h
  · rw [decide_eq_false (by omega)]; rfl
  · rw [decide_eq_false (show ¬ n ≤ m by omega), Bool.and_false]
theorem bad_push {n : Int} (h : n < -2147483648 ∨ 2147483647 < n) (hn : n.natAbs < 10 ^ 10) : BadL ("push" ++ " " ++ tx n) := by
  refine bad_one (by decide +kernel) hn (row_one (x := "word") (by decide +kernel) ?_)
  show (if ("word" : Str) = "word" then inWord n else match mostOf "word" with | some m => decide (0 ≤ n) && decide (n ≤ m) | none => false) = false
  rw [if_pos rfl]
  show (decide (-2147483648 ≤ n) && decide (n < 2147483648)) = false
  rcases h with h | h
  · rw [decide_eq_false (by omega)]; rfl
  · rw [decide_eq_false (show ¬ n < 2147483648 by omega), Bool.and_false]
theorem bad_pla {s : Str} (hs : s ∈ plaL) {n : Int} (h : n < 0 ∨ 99 < n) (hn : n.natAbs < 10 ^ 10) : BadL (s ++ " " ++ tx n) := by
  have e := (by decide +kernel : ∀ s ∈ plaL, wantsL s = (["place"] : List Str) ∧ s ∈ signsL) s hs
  exact bad_one e.2 hn (row_one e.1 (fit_out (m := 99) (by decide +kernel) (by decide +kernel) h))
theorem bad_low {s : Str} (hs : s ∈ lowL) {n : Int} (h : n < 0 ∨ 7 < n) (hn : n.natAbs < 10 ^ 10) : BadL (s ++ " " ++ tx n) := by
  obtain ⟨x, _, e2, e3, e4, e5⟩ := (by decide +kernel : ∀ s ∈ lowL, ∃ x ∈ (["box", "make", "part"] : List Str), wantsL s = [x] ∧ mostOf x = some (7 : Int) ∧ ¬ x = "word" ∧ s ∈ signsL) s hs
  exact bad_one e5 hn (row_one e2 (fit_out e3 e4 h))
theorem bad_bare {s : Str} (hs : s ∈ baL) {n : Int} (hn : n.natAbs < 10 ^ 10) : BadL (s ++ " " ++ tx n) := by
  have e := (by decide +kernel : ∀ s ∈ baL, (wantsL s).length ≠ 1 ∧ s ∈ signsL) s hs
  exact bad_one e.2 hn (row_len e.1)
def moreL : List Str := ["kin", "fill", "get", "put"]
theorem bad_more {s : Str} (hs : s ∈ moreL) {n : Int} (hn : n.natAbs < 10 ^ 10) : BadL (s ++ " " ++ tx n) := by
  have e := (by decide +kernel : ∀ s ∈ moreL, (wantsL s).length ≠ 1 ∧ s ∈ signsL) s hs
  exact bad_one e.2 hn (row_len e.1)
def kinT : List Str := [" 8 0", " 7 100", " -1 3", " 3 -1"]
def fldT : List Str := [" 8 0", " 0 8", " -1 3", " 3 -1"]
theorem bad_kin : ∀ t ∈ kinT, badB ("kin" ++ t) = true ∧ t.length ≤ 6 := by decide +kernel
theorem bad_fld : ∀ s ∈ fldL, ∀ t ∈ fldT, badB (s ++ t) = true ∧ t.length ≤ 6 := by decide +kernel
def fewL : List Str := ["push", "load", "store", "jump", "zero", "make", "begin", "call"]
theorem bad_few : ∀ s ∈ fewL, ∀ k, k < 3 → badB (s ++ repS " " k) = true := by decide +kernel
theorem bad_many : ∀ s ∈ fewL ++ moreL, badB (s ++ " 1 2 3") = true := by decide +kernel
def illL : List Str := ["01", "-0", "+1", "00", "--1", "1-", "-", "- 1", "1.", "1_0", "x", "1,", "0x1", "12345678901"]
def illH : List Str := ["push ", "load ", "jump "]
theorem bad_ill : ∀ s ∈ illH, ∀ t ∈ illL, badB (s ++ t) = true ∧ s.length ≤ 5 ∧ t.length ≤ 11 := by decide +kernel
def badT (s : Str) : List Str := [upS s, s ++ "s", Txt.slice s (some 1) none, Txt.slice s none (some 1), "1 " ++ s, s ++ ",", "pop 1"]
theorem bad_sign : ∀ s ∈ signsL, ∀ t ∈ badT s, badB t = true := by decide +kernel
theorem pick {l : List Str} {n : Nat} (h0 : 0 < n) (hn : l.length = n) (e : Int) : ∃ x ∈ l, atI (l.map V.str) (e % (n : Int)) = some (.str x) := by
  obtain ⟨j, ej, lj⟩ := modN (e := e) h0
  have hx := List.getElem?_eq_getElem (l := l) (i := j) (by omega)
  refine ⟨l[j]'(by omega), List.getElem_mem _, ?_⟩
  rw [ej]
  exact atI_nat (by rw [List.getElem?_map, hx]; rfl)
theorem two_at (x y : Int) (e : Int) : ∃ v, atI [V.int x, V.int y] (e % 2) = some (.int v) ∧ (v = x ∨ v = y) := by
  obtain ⟨j, ej, lj⟩ := modN (e := e) (n := 2) (by decide)
  have ej : e % 2 = (j : Int) := ej
  rw [ej]
  rcases (by omega : j = 0 ∨ j = 1) with rfl | rfl
  · exact ⟨x, atI_nat rfl, .inl rfl⟩
  · exact ⟨y, atI_nat rfl, .inr rfl⟩
def remL : List Str := ["", "", " # dup", "#", "  # 1"]
theorem rem_ok : ∀ r ∈ remL, (Rem (sgs r)) ∧ Asc (sgs r) ∧ (sgs r).length ≤ 6 := by
  intro r hr
  have hr : r = "" ∨ r = "" ∨ r = " # dup" ∨ r = "#" ∨ r = "  # 1" := by simpa [remL] using hr
  rcases hr with rfl | rfl | rfl | rfl | rfl
  · refine ⟨?_, by unfold Asc; decide +kernel, by decide +kernel⟩
    rw [show sgs ("" : Str) = [] by decide +kernel]; exact Rem.nil
  · refine ⟨?_, by unfold Asc; decide +kernel, by decide +kernel⟩
    rw [show sgs ("" : Str) = [] by decide +kernel]; exact Rem.nil
  · refine ⟨?_, by unfold Asc; decide +kernel, by decide +kernel⟩
    rw [show sgs (" # dup" : Str) = [32, 35, 32, 100, 117, 112] by decide +kernel]; exact (Rem.hash _).blank
  · refine ⟨?_, by unfold Asc; decide +kernel, by decide +kernel⟩
    rw [show sgs ("#" : Str) = [35] by decide +kernel]; exact Rem.hash _
  · refine ⟨?_, by unfold Asc; decide +kernel, by decide +kernel⟩
    rw [show sgs ("  # 1" : Str) = [32, 32, 35, 32, 49] by decide +kernel]; exact (Rem.hash _).blank.blank
theorem BadL.rem {l r : Str} (h : BadL l) (hr : r ∈ remL) : badW (wd [] (sgs (l ++ r))) = true ∧ Plain (l ++ r) := by
  obtain ⟨h1, h2, h3⟩ := rem_ok r hr
  have hl := h.len
  refine ⟨?_, ?_, ?_⟩
  · rw [sgs_app, wd_rem h1 h.free]; exact h.bad
  · rw [sgs_app]; exact h.asc.app h2
  · rw [sgs_app, List.length_append]; omega
/-! the texts of the law -/
theorem cut_to {xs : List V} {k : Nat} (h : k ≤ xs.length) : cutV xs none (some (k : Int)) = xs.take k := by
  unfold cutV
  rw [HT.sIx_none, HT.sIx_nat, List.drop_zero, Nat.sub_zero]
  exact List.take_eq_take_iff.mpr (by omega)
theorem cut_from {xs : List V} {k : Nat} (h : k ≤ xs.length) : cutV xs (some (k : Int)) none = xs.drop k := by
  unfold cutV
  rw [HT.sIx_none, HT.sIx_nat, Nat.min_eq_left h]
  exact List.take_of_length_le (by rw [List.length_drop]; omega)
theorem split_plain {ls : List Str} (h0 : ls ≠ []) (h : ∀ l ∈ ls, Plain l) : Txt.split (Txt.join "\n" ls) "\n" = ls := by
  rw [tjoin, nl_eq]
  exact split_join 10 h0 fun l hl hc => ((h l hl).1 10 hc).2 rfl
theorem join_len {ls : List Str} (h : ∀ l ∈ ls, Plain l) (hl : ls.length ≤ 150) : (Txt.join "\n" ls).length ≤ 100000 := by
  have z := PySem.StrLaws.join_length_le "\n" ls
  have s := len_sum (l := ls) (b := 100) fun w hw => by rw [len_sgs]; exact (h w hw).2
  have e : ("\n" : Str).length = 1 := by decide +kernel
  rw [e] at z
  rw [tjoin]
  omega
theorem plain_asc {ls : List Str} (h : ∀ l ∈ ls, Plain l) : ∀ l ∈ ls, (∀ c ∈ sgs l, c < 128) ∧ (sgs l).length ≤ 100 := fun l hl => ⟨fun c hc => ((h l hl).1 c hc).1, (h l hl).2⟩
theorem plain_join {ls : List Str} (h : ∀ l ∈ ls, Plain l) (hl : ls.length ≤ 150) : JoinOk "\n" ls = true := join_small (b := 100) (by decide +kernel) (fun w hw => by rw [len_sgs]; exact (h w hw).2) (by omega)
theorem read_pre {ls : List Str} {ks : List (Option Ro)} (hpn : ∀ l ∈ ls, Plain l) (hl : ls.length ≤ 150) (hkl : ks.length = ls.length) (hkn : Kn ls ks) : ∃ ls' ks', Txt.split (Txt.join "\n" ls) "\n" = ls' ∧ (Txt.join "\n" ls).length ≤ 100000 ∧ (∀ l ∈ ls', (∀ c ∈ sgs l, c < 128) ∧ (sgs l).length ≤ 100) ∧ ls'.length ≤ 200 ∧ Kn ls' ks' ∧ ks'.length = ls'.length ∧ ks'.filterMap id = ks.filterMap id := by
  by_cases h0 : ls = []
  · subst h0
    have hk : ks = [] := List.length_eq_zero_iff.mp hkl
    subst hk
    refine ⟨[Str.empty], [none], ?_, join_len hpn hl, ?_, by decide, ⟨Nat.le_refl _, fun i l k h1 h2 => ?_⟩, rfl, rfl⟩
    · rw [tjoin, nl_eq]
      exact split_join 10 (ls := [Str.empty]) (by simp) fun w hw hc => by
        rw [List.mem_singleton.mp hw] at hc
        cases hc
    · intro l hl
      rw [List.mem_singleton.mp hl]
      exact ⟨fun c hc => (by cases hc), Nat.zero_le _⟩
    · have e1 := List.mem_singleton.mp (List.mem_of_getElem? h1)
      have e2 := List.mem_singleton.mp (List.mem_of_getElem? h2)
      subst e1 e2
      exact (by decide +kernel : wd [] (sgs Str.empty) = [])
  · exact ⟨ls, ks, split_plain h0 hpn, join_len hpn hl, plain_asc hpn, by omega, hkn, hkl, rfl⟩
/-- a text with a wrong line at k -/
structure Bads (lb : List Str) (ks : List (Option Ro)) (k : Nat) : Prop where
  plain : ∀ l ∈ lb, Plain l
  few : lb.length ≤ 150
  kn : Kn lb (ks.take k)
  at_ : ∃ l, lb[k]? = some l ∧ badW (wd [] (sgs l)) = true
theorem Bads.of {ls : List Str} {ks : List (Option Ro)} {k : Nat} {y r : Str} (hpn : ∀ l ∈ ls, Plain l) (hl : ls.length ≤ 59) (hkl : ks.length = ls.length) (hkn : Kn ls ks) (hk : k ≤ ls.length) (hy : BadL y) (hr : r ∈ remL) : Bads (ls.take k ++ [y ++ r] ++ ls.drop k) ks k := by
  obtain ⟨b1, b2⟩ := hy.rem hr
  have tl : (ls.take k).length = k := by rw [List.length_take]; omega
  have at_ : (ls.take k ++ [y ++ r] ++ ls.drop k)[k]? = some (y ++ r) := by
    rw [List.append_assoc, List.getElem?_append_right (by omega), tl, Nat.sub_self]
    rfl
  refine ⟨fun l hl' => ?_, ?_, ⟨?_, fun i l q h1 h2 => ?_⟩, _, at_, b1⟩
  · rcases List.mem_append.mp hl' with h | h
    · rcases List.mem_append.mp h with h | h
      · exact hpn l (List.mem_of_mem_take h)
      · rw [List.mem_singleton.mp h]; exact b2
    · exact hpn l (List.mem_of_mem_drop h)
  · simp; omega
  · simp; omega
  · have hi := (List.getElem?_eq_some_iff.mp h2).1
    rw [List.length_take] at hi
    rw [List.append_assoc, List.getElem?_append_left (by omega), List.getElem?_take_of_lt (by omega)] at h1
    rw [List.getElem?_take_of_lt (by omega)] at h2
    exact hkn.2 i l q h1 h2
theorem Bads.more {ls lb : List Str} {ks : List (Option Ro)} {k : Nat} {y : Str} (h : Bads lb ks k) (hf : lb.length ≤ 60) (hpn : ∀ l ∈ ls, Plain l) (hy : BadL y) : Bads (lb ++ [y] ++ ls.take 1) ks k := by
  obtain ⟨l0, h0, hb0⟩ := h.at_
  have hk := (List.getElem?_eq_some_iff.mp h0).1
  have hyl := hy.len
  refine ⟨fun l hl' => ?_, ?_, ⟨?_, fun i l q h1 h2 => ?_⟩, l0, ?_, hb0⟩
  · rcases List.mem_append.mp hl' with h' | h'
    · rcases List.mem_append.mp h' with h' | h'
      · exact h.plain l h'
      · rw [List.mem_singleton.mp h']; exact ⟨hy.asc, by omega⟩
    · exact hpn l (List.mem_of_mem_take h')
  · simp; omega
  · have := h.kn.1
    simp at this ⊢; omega
  · have hi := (List.getElem?_eq_some_iff.mp h2).1
    have := h.kn.1
    rw [List.append_assoc, List.getElem?_append_left (by omega)] at h1
    exact h.kn.2 i l q h1 h2
  · rw [List.append_assoc, List.getElem?_append_left hk]
    exact h0
theorem at_ok (n : Int) : PySem.SeqAt.shaped (.tuple [.str "at", .int n]) = true := by
  show (PyData.canLayAll0 [.str "at", .int n] && decide (PyData.depthAll [.str "at", .int n] + 1 ≤ 64)) = true
  have e1 : PyData.canLayAll0 [.str "at", .int n] = true := by
    show (PyData.canLay0 (.str "at") && (PyData.canLay0 (.int n) && PyData.canLayAll0 [])) = true
    rw [show PyData.canLay0 (.str "at") = true by decide +kernel]
    rfl
  rw [e1]
  rfl
theorem at_self (n : Int) : PyData.eqv (.tuple [.str "at", .int n]) (.tuple [.str "at", .int n]) = true := PySem.SeqAt.eqv_refl _ (PySem.SeqAt.canLay_of_shaped (at_ok n))

/-- what a slice of the first eight holds -/
theorem cut8 (ns : List Int) : cutV (ns.map V.int) none (some 8) = (ns.take 8).map V.int := by
  unfold cutV
  rw [HT.sIx_none, show (some (8 : Int)) = some ((8 : Nat) : Int) from rfl, HT.sIx_nat, List.drop_zero, List.length_map, Nat.sub_zero, ← List.map_take]
  exact congrArg (List.map V.int) (List.take_eq_take_iff.mpr (by omega))
/-- a cell of the script, or what is made of it: some int -/
def sp_law_cell (K : PySem.W.Frag) : Sp := fun vs H Q _ => ∃ (a : Addr) (ns : List Int) (k : Int), vs = [.ref a, .int k] ∧ SqL K H a (ns.map V.int) ∧ 0 ≤ k ∧ k ≤ 1000 ∧ ∀ (v : Int) (H' : Hp), Same H H' → Q (.int v) H'
def sp_law_line (K : PySem.W.Frag) : Sp := fun vs H Q _ => ∃ (t : Addr) (r : Ro) (c : Int), vs = [.ref t, .int c] ∧ SqT K H t (roV r) ∧ r.Ok 100 ∧ ∀ (l : Str) (H' : Hp), Same H H' → KLine l (some r) → Plain l → Q (.str l) H'
theorem signs_cut : Txt.split ("push load store dup swap drop add sub mul div rem less same jump zero kin make fill begin get put call" ++ " toss say give") " " = signsL := by decide +kernel
def sp_law_signs (K : PySem.W.Frag) : Sp := fun vs H Q _ => vs = [] ∧ ∀ (r : Addr) (H' : Hp), Same H H' → H r = none → H' r = some (.lst (signsL.map V.str)) → Q (.ref r) H'
def sp_law_word (_K : PySem.W.Frag) : Sp := fun vs H Q _ => ∃ c : Int, vs = [.int c] ∧ ∀ (n : Int) (H' : Hp), Same H H' → inW n → Q (.int n) H'
def sp_law_row (K : PySem.W.Frag) : Sp := fun vs H Q _ => ∃ (c d : Int) (m : Nat), vs = [.int c, .int d, .int (m : Int)] ∧ 0 < m ∧ ∀ (r : Ro) (t : Addr) (H' : Hp), r.Ok m → Same H H' → SqT K H' t (roV r) → Q (.ref t) H'
def sp_law_lines (K : PySem.W.Frag) : Sp := fun vs H Q _ => ∃ (a : Addr) (ns : List Int), vs = [.ref a] ∧ SqL K H a (ns.map V.int) ∧ ns.length ≤ 63 ∧ ∀ (t pl pr : Addr) (ls : List Str) (ks : List (Option Ro)) (us : List V) (H' : Hp), Same H H' → SqT K H' t [.ref pl, .ref pr] → H pl = none → H' pl = some (.lst (ls.map V.str)) → H pr = none → H' pr = some (.lst us) → RosAt K H' us (ks.filterMap id) → ks.length = ls.length → Kn ls ks → (∀ l ∈ ls, Plain l) → ls.length ≤ 59 → Q (.ref t) H'
def sp_is_whole (K : PySem.W.Frag) : Sp := fun vs H Q _ => ∃ (v : V) (t : String), vs = [v] ∧ TyV K H v t ∧ Q (.bl (isInt v)) H
def sp_is_word (_K : PySem.W.Frag) : Sp := fun vs H Q _ => ∃ n : Int, vs = [.int n] ∧ Q (.bl (inWord n)) H
def sp_fits (K : PySem.W.Frag) : Sp := fun vs H Q _ => ∃ (x : Str) (v : V) (t : String), vs = [.str x, v] ∧ TyV K H v t ∧ (x = "word" ∨ ∃ m : Int, getP kd_MOST x = some (.int m)) ∧ Q (.bl (fitsB x v)) H
def sp_wants (K : PySem.W.Frag) : Sp := fun vs H Q _ => ∃ (x : Str), vs = [.str x] ∧ ∀ (v : V) (H' : Hp), Same H H' → (∃ p, v = .ref p ∧ SqT K H' p ((wantsL x).map V.str)) → Q v H'
def sp_is_row (K : PySem.W.Frag) : Sp := fun vs H Q _ => ∃ (v : V) (t : String), vs = [v] ∧ TyV K H v t ∧
  ((t ≠ "tuple" ∧ ∀ H', Same H H' → Q (.bl false) H') ∨ (∃ (p : Addr) (xs : List V), v = .ref p ∧ SqT K H p xs ∧ xs.length ≤ 120 ∧ TyAll K H xs ∧ ∀ H', Same H H' → Q (.bl (rowB xs)) H'))
theorem one_inB (c : Nat) : (!(Builtin.Str.occurrences ("0123456789" : Str) ⟨#[c]⟩ 0 ("0123456789" : Str).length 1).isEmpty) = dgt c := by
  rw [PySem.StrLaws.found_one]
  have e : ("0123456789" : Str).cps.toList = [48, 49, 50, 51, 52, 53, 54, 55, 56, 57] := by decide +kernel
  rw [e]
  unfold dgt
  rw [← Bool.decide_and]
  refine decide_eq_decide.mpr ⟨fun h => ?_, fun h => ?_⟩
  · simp at h; omega
  · simp; omega
theorem one_ne {c : Nat} (h : c ≠ 48) : ¬ (⟨#[c]⟩ : Str) = "0" := by
  have e : ("0" : Str) = ⟨#[48]⟩ := by decide +kernel
  rw [e]
  intro y
  have := congrArg sgs y
  exact h (List.cons.inj this).1
theorem ascii_of {x : Str} (h : ∀ c ∈ sgs x, c < 128) : x.cps.all (· < 128) = true := by
  rw [← Array.all_toList, List.all_eq_true]
  intro c hc
  exact decide_eq_true (h c hc)
theorem lc_txt {own : Nat} {ix : List Nat} {σ : St} {x : Str} {g : TG} {tt : TT} {te : TE} {H1 : Hp} {Q : VK} {D : Addr} (Pv : Nat → List V → Hp → Prop) (hn : x.cps.size ≤ sizeLine) (h0 : Pv 0 [] (upd H1 D (.lst []))) (hD : ∀ i ys H, Pv i ys H → H D = some (.lst ys) ∧ ys.length ≤ i)
    (hs : ∀ i c ys H2, x.cps[i]? = some c → Pv i ys H2 → g (.str ⟨#[c]⟩) (blkSt own ix σ) H2 fun σ2 H4 => σ2.drop own = (ix.map fun i => (σ[i]?).getD none) ∧ tt σ2 H4 fun b H5 => if b = true then te σ2 H5 fun v H6 => H6 D = some (.lst ys) ∧ Pv (i + 1) (ys ++ [v]) (upd H6 D (.lst (ys ++ [v]))) else Pv (i + 1) ys H5)
    (hd : ∀ ys H2, Pv x.cps.size ys H2 → Q (.ref D) H2) :
    LcW (Itx x) own ix σ g tt te D H1 Q := by
  refine ⟨fun i m ys H => m = x.cps.size - i ∧ i ≤ x.cps.size ∧ Pv i ys H, ⟨x.cps.size, by simp, Nat.zero_le _, h0⟩, ?_⟩
  rintro i m ys H2 ⟨rfl, hi, p⟩
  obtain ⟨q1, q2⟩ := hD i ys H2 p
  refine ⟨q1, ?_⟩
  by_cases hlt : i < x.cps.size
  · refine .inr ⟨hlt, by omega, Pv (i + 1), fun ys' H' p' => ⟨x.cps.size - (i + 1), by omega, rfl, hlt, p'⟩, fun v H3 y => ?_⟩
    obtain ⟨e1, c, e2, e3⟩ := y
    subst e1 e3
    exact hs i c ys _ e2 p
  · have e : i = x.cps.size := by omega
    subst e
    exact .inl ⟨Nat.le_refl _, hd ys H2 p⟩
theorem zero_one {d : List Nat} (c : Nat) (h : d.head? = some c) : decide (V.str (⟨#[c]⟩ : Str) = V.str ("0" : Str)) = decide (d.head? = some 48) := by
  rw [h]
  refine decide_eq_decide.mpr ⟨fun e => ?_, fun e => ?_⟩
  · have e1 : (⟨#[c]⟩ : Str) = "0" := V.str.inj e
    by_cases hc : c = 48
    · rw [hc]
    · exact absurd e1 (one_ne hc)
  · rw [Option.some.inj e]
    exact congrArg V.str (by decide +kernel)
/-- the value of a word, by its figures -/
theorem num_by {w d : List Nat} (hd : d = if w.head? = some 45 then w.tail else w) (h48 : ¬ w = [48]) : numV w = if figs d = true then .int (if w.head? = some 45 then -(PySem.NumText.digitsVal d : Int) else (PySem.NumText.digitsVal d : Int)) else .non := by
  subst hd
  unfold numV numO
  rw [if_neg h48]
  by_cases h : w.head? = some 45
  · rw [if_pos h, if_pos h, if_pos h]
    by_cases f : figs w.tail = true
    · rw [if_pos f, if_pos f]
    · rw [if_neg f, if_neg f]
  · rw [if_neg h, if_neg h, if_neg h]
    by_cases f : figs w = true
    · rw [if_pos f, if_pos f]
    · rw [if_neg f, if_neg f]
theorem figs_no {d : List Nat} (h : ¬ (1 ≤ d.length ∧ d.length ≤ 10 ∧ ¬ d.head? = some 48 ∧ d.all dgt = true)) : ¬ figs d = true := by
  unfold figs
  simp only [Bool.and_eq_true, decide_eq_true_eq, Bool.not_eq_true', decide_eq_false_iff_not]
  exact h
theorem figs_yes {d : List Nat} (h : 1 ≤ d.length ∧ d.length ≤ 10 ∧ ¬ d.head? = some 48 ∧ d.all dgt = true) : figs d = true := by
  unfold figs
  simp only [Bool.and_eq_true, decide_eq_true_eq, Bool.not_eq_true', decide_eq_false_iff_not]
  exact h
def sp_number_of (K : PySem.W.Frag) : Sp := fun vs H Q _ => ∃ (w : List Nat), vs = [.str (toS w)] ∧ w ≠ [] ∧ w.length ≤ 200 ∧ (∀ c ∈ w, c < 128) ∧ ∀ H', Same H H' → Q (numV w) H'
def sp_words_of (K : PySem.W.Frag) : Sp := fun vs H Q _ => ∃ (x : Str), vs = [.str x] ∧ x.length ≤ 1000 ∧ ∀ (p : Addr) (H' : Hp), Same H H' → H p = none → H' p = some (.lst (((wd [] (sgs x)).map toS).map V.str)) → Q (.ref p) H'
def sp_read (K : PySem.W.Frag) (mg : Str → Option Value) : Sp := fun vs H Q E => ∃ (x : Str) (ls : List Str) (ks : List (Option Ro)), vs = [.str x] ∧ Txt.split x "\n" = ls ∧ x.length ≤ 100000 ∧ (∀ l ∈ ls, (∀ c ∈ sgs l, c < 128) ∧ (sgs l).length ≤ 100) ∧ ls.length ≤ 200 ∧ Kn ls ks ∧
  ((ks.length = ls.length ∧ ∀ (p : Addr) (us : List V) (H' : Hp), Same H H' → H p = none → H' p = some (.lst us) → RosAt K H' us (ks.filterMap id) → Q (.ref p) H') ∨
   (∃ l, ls[ks.length]? = some l ∧ badW (wd [] (sgs l)) = true ∧ ∀ (C dx : Addr) (H' : Hp), mg "NoRow" = some (.ref C) → Same H H' → H dx = none → H' dx = some (.ext (XD dx [("at", .int (ks.length : Int))])) → E (.ref C) (some dx) H'))
def sp_law_told (K : PySem.W.Frag) : Sp := fun vs H Q _ => ∃ (x : Str) (ls : List Str) (ks : List (Option Ro)) (l : Str), vs = [.str x] ∧ Txt.split x "\n" = ls ∧ x.length ≤ 100000 ∧ (∀ l ∈ ls, (∀ c ∈ sgs l, c < 128) ∧ (sgs l).length ≤ 100) ∧ ls.length ≤ 200 ∧ Kn ls ks ∧ ls[ks.length]? = some l ∧ badW (wd [] (sgs l)) = true ∧
  ∀ (p : Addr) (H' : Hp), Same H H' → SqT K H' p [.str "at", .int (ks.length : Int)] → Q (.ref p) H'
def sp_law_beside (_K : PySem.W.Frag) : Sp := fun vs H Q _ => ∃ (c : Int), vs = [.int c] ∧ ∀ (l : Str) (H' : Hp), Same H H' → BadL l → Q (.str l) H'
def sp_law_few (_K : PySem.W.Frag) : Sp := fun vs H Q _ => ∃ (c : Int), vs = [.int c] ∧ ∀ (l : Str) (H' : Hp), Same H H' → BadL l → Q (.str l) H'
def sp_law_ill (_K : PySem.W.Frag) : Sp := fun vs H Q _ => ∃ (c : Int), vs = [.int c] ∧ ∀ (l : Str) (H' : Hp), Same H H' → BadL l → Q (.str l) H'
def sp_law_wrong (_K : PySem.W.Frag) : Sp := fun vs H Q _ => ∃ (c : Int), vs = [.int c] ∧ ∀ (l : Str) (H' : Hp), Same H H' → BadL l → Q (.str l) H'
def sp_law (K : PySem.W.Frag) : Sp := fun vs H Q _ => ∃ (a : Addr) (ns : List Int), vs = [.ref a] ∧ SqL K H a (ns.map V.int) ∧ ns.length ≤ 63 ∧ ∀ H', Q (.bl true) H'
structure PEw (X : Cx) (e : Expr) (t : TE) : Prop where
  h : PE X e t
structure PSw (X : Cx) (s : Stmt) (t : TS) : Prop where
  h : PS X s t
theorem psw_forL {X : Cx} {tg : Expr} {es : List Expr} {p pos : Pos} {tl : TE} {g : TG} {body : List Stmt} {tb : TS} (hp : PassesOwn (model X.prog X.w) X.A X.env X.xe) (hc : X.calm = true) (hi : PEw X (.List es p) tl) (hg : PG X tg g) (hb : PSs X body tb) : PSw X (.For tg (.List es p) body [] pos) (tFor (iList X.K tl) g tb) := ⟨ps_for hp hc (pi_list hi.h) hg hb (fun _ => rfl)⟩
theorem psw_setL {X : Cx} {i : Nat} {x : Str} {es : List Expr} {p pos pos' : Pos} {tl : TE} (hN : X.N.Nodup) (hi : X.N[i]? = some x) (hx : Loc X.env.scope x) (he : PEw X (.List es p) tl) (hf : X.fn x = true ∨ X.env.scope.names.lookup x = some .local) : PSw X (.Assign [.Name x pos'] (.List es p) pos) (tAsg tl (gName i)) := ⟨ps_set hN hi hx he.h rfl hf⟩
theorem pss_consW {X : Cx} {st : Stmt} {t : TS} {rest : List Stmt} {u : TS} (h1 : PSw X st t) (h2 : PSs X rest u) : PSs X (st :: rest) (tSeq t u) := pss_cons h1.h h2
theorem pa_cT {X : Cx} {es0 es : List Expr} {n : Nat} {pos : Pos} {te : TE} {t : TA} (ha : PE X (.Tuple es0 n pos) te) (hr : PA X es t) : PA X (.Tuple es0 n pos :: es) (tCons te t) := pa_cons ha hr rfl
theorem pa_cL {X : Cx} {es0 es : List Expr} {pos : Pos} {te : TE} {t : TA} (ha : PE X (.List es0 pos) te) (hr : PA X es t) : PA X (.List es0 pos :: es) (tCons te t) := pa_cons ha hr rfl
theorem pa_cC {X : Cx} {c : Const} {es : List Expr} {j} {pos : Pos} {te : TE} {t : TA} (ha : PE X (.Constant c j pos) te) (hr : PA X es t) : PA X (.Constant c j pos :: es) (tCons te t) := pa_cons ha hr rfl
theorem pa_cD {X : Cx} {es : List Expr} {pos : Pos} {te : TE} {t : TA} (ha : PE X (.Dict [] [] pos) te) (hr : PA X es t) : PA X (.Dict [] [] pos :: es) (tCons te t) := pa_cons ha hr rfl
def NS (e : Expr) : Prop := ∀ (es : List Expr) (env : Env), starEach (e :: es) env = (false, eval e env) :: starEach es env
theorem ns_T {es : List Expr} {n : Nat} {pos : Pos} : NS (.Tuple es n pos) := fun _ _ => rfl
theorem ns_L {es : List Expr} {pos : Pos} : NS (.List es pos) := fun _ _ => rfl
theorem ns_C {c : Const} {j} {pos : Pos} : NS (.Constant c j pos) := fun _ _ => rfl
theorem ns_D {pos : Pos} : NS (.Dict [] [] pos) := fun _ _ => rfl
theorem pa_ns {X : Cx} {e : Expr} {es : List Expr} {te : TE} {t : TA} (h : NS e) (ha : PE X e te) (hr : PA X es t) : PA X (e :: es) (tCons te t) := pa_cons ha hr (h _ _)
theorem pe_lst8 {X : Cx} {pos : Pos} {e1 e2 e3 e4 e5 e6 e7 e8 : Expr} {t1 t2 t3 t4 t5 t6 t7 t8 : TE} (h1 : PE X e1 t1) (n1 : NS e1) (h2 : PE X e2 t2) (n2 : NS e2) (h3 : PE X e3 t3) (n3 : NS e3) (h4 : PE X e4 t4) (n4 : NS e4) (h5 : PE X e5 t5) (n5 : NS e5) (h6 : PE X e6 t6) (n6 : NS e6) (h7 : PE X e7 t7) (n7 : NS e7) (h8 : PE X e8 t8) (n8 : NS e8) : PE X (.List [e1, e2, e3, e4, e5, e6, e7, e8] pos) (tLst (tCons t1 (tCons t2 (tCons t3 (tCons t4 (tCons t5 (tCons t6 (tCons t7 (tCons t8 tNil))))))))) := pe_lst (pa_ns n1 h1 (pa_ns n2 h2 (pa_ns n3 h3 (pa_ns n4 h4 (pa_ns n5 h5 (pa_ns n6 h6 (pa_ns n7 h7 (pa_ns n8 h8 pa_nil))))))))
theorem pe_lst14 {X : Cx} {pos : Pos} {e1 e2 e3 e4 e5 e6 e7 e8 e9 e10 e11 e12 e13 e14 : Expr} {t1 t2 t3 t4 t5 t6 t7 t8 t9 t10 t11 t12 t13 t14 : TE} (h1 : PE X e1 t1) (n1 : NS e1) (h2 : PE X e2 t2) (n2 : NS e2) (h3 : PE X e3 t3) (n3 : NS e3) (h4 : PE X e4 t4) (n4 : NS e4) (h5 : PE X e5 t5) (n5 : NS e5) (h6 : PE X e6 t6) (n6 : NS e6) (h7 : PE X e7 t7) (n7 : NS e7) (h8 : PE X e8 t8) (n8 : NS e8) (h9 : PE X e9 t9) (n9 : NS e9) (h10 : PE X e10 t10) (n10 : NS e10) (h11 : PE X e11 t11) (n11 : NS e11) (h12 : PE X e12 t12) (n12 : NS e12) (h13 : PE X e13 t13) (n13 : NS e13) (h14 : PE X e14 t14) (n14 : NS e14) : PE X (.List [e1, e2, e3, e4, e5, e6, e7, e8, e9, e10, e11, e12, e13, e14] pos) (tLst (tCons t1 (tCons t2 (tCons t3 (tCons t4 (tCons t5 (tCons t6 (tCons t7 (tCons t8 (tCons t9 (tCons t10 (tCons t11 (tCons t12 (tCons t13 (tCons t14 tNil))))))))))))))) := pe_lst (pa_ns n1 h1 (pa_ns n2 h2 (pa_ns n3 h3 (pa_ns n4 h4 (pa_ns n5 h5 (pa_ns n6 h6 (pa_ns n7 h7 (pa_ns n8 h8 (pa_ns n9 h9 (pa_ns n10 h10 (pa_ns n11 h11 (pa_ns n12 h12 (pa_ns n13 h13 (pa_ns n14 h14 pa_nil))))))))))))))
section
variable {P : Program} {w : World} {K : PySem.W.Frag} {mg : Str → Option Value} {base : Heap}
theorem sc_i_NoRow : FnScope ["self", "at"] ["self", "at"] (defScope i_NoRow) := ⟨rfl, rfl, rfl, by decide +kernel, rfl, by decide +kernel, by decide +kernel⟩
theorem ok_i_NoRow {f : Addr} {fd : FuncData} (F : Fun K "__init__" "NoRow.__init__" i_NoRow f fd) : FnOk P w K mg base CX0 1 f fd ["self", "at"] (spInit K ["at"]) := by
  refine F.ok sc_i_NoRow (fun vs H Q E h => ?_) (fun cdv A outer s H vs Q E hr h => ?_)
  · obtain ⟨a, C, ys, rfl, hl, _⟩ := h
    exact congrArg (· + 1) hl
  obtain ⟨a, C, ys, rfl, hl, hk, hno, e, q⟩ := h
  obtain ⟨y0, rfl⟩ := ex1 hl
  refine ⟨_, (pss_one (ps_xf (pv 0) (pv 1) rfl)), ?_⟩
  refine ⟨_, rfl, _, rfl, a, C, rfl, hk, hno _ (List.Mem.head _), .inl ⟨e, fun dx hd hda => ?_⟩⟩
  exact q dx hd hda
theorem sc__law_cell : FnScope ["_law_script", "_law_k", "_law_far", "_law_cell_here"] ["_law_script", "_law_k"] (defScope s_law_cell) := ⟨rfl, rfl, rfl, by decide +kernel, rfl, by decide +kernel, by decide +kernel⟩
theorem ok__law_cell {f : Addr} {fd : FuncData} (F : Fun K "_law_cell" "_law_cell" s_law_cell f fd) (z_len : mg "len" = none) : FnOk P w K mg base CX0 1 f fd ["_law_script", "_law_k"] (sp_law_cell K) := by
  refine F.ok sc__law_cell (fun vs H Q E h => ?_) (fun cdv A outer s H vs Q E hr h => ?_)
  · obtain ⟨a, ns, k, rfl, hS, h0, h1, q⟩ := h
    rfl
  obtain ⟨a, ns, k, rfl, hS, h0, h1, q⟩ := h
  refine ⟨_, (pss_cons (ps_if (pt_cmpR op_lt (pv 1) (pe_callB call_len_seq rfl z_len bt_len (pa_cons (pv 0) pa_nil)) (nomark _)) (pss_one (ps_ret (pe_ix ix_list (pv 0) (pv 1) (fun _ _ => rfl)))) pss_nil)
      (pss_cons (ps_set (i := 2) sc__law_cell.nd rfl (Or.inl rfl) (pe_op op_mul pe_int (pe_op op_add (pv 1) pe_int)))
      (pss_cons (ps_for PassesOwn.never rfl (pi_list (pe_slice sl_list (pv 0) po_none (po_some pe_int))) (pg_name (i := 3) sc__law_cell.nd rfl (Or.inl rfl)) (pss_one (ps_set (i := 2) sc__law_cell.nd rfl (Or.inl rfl) (pe_op op_add (pe_op op_mul (pv 2) pe_int) (pe_op op_mod (pv 3) pe_int)))))
      (pss_one (ps_ret (pe_op op_mod (pe_op op_mulB (pv 2) (pv 2)) pe_int)))))), ?_⟩
  refine ⟨_, rfl, _, rfl, a, _, rfl, .inl hS, _, _, rfl, rfl, _, rfl, ?_⟩
  refine ite2 (fun c => ?_) (fun c => ?_)
  · have c' : k < (((ns.map V.int).length : Nat) : Int) := of_decide_eq_true c
    rw [List.length_map] at c'
    have hk : k.toNat < ns.length := by omega
    have ek : ((k.toNat : Nat) : Int) = k := by omega
    refine ⟨_, rfl, _, rfl, a, _, _, _, rfl, rfl, hS, (?_ : atI (ns.map V.int) k = some (.int ns[k.toNat])), q _ _ (Same.refl _)⟩
    have z : atI (ns.map V.int) ((k.toNat : Nat) : Int) = some (.int ns[k.toNat]) := atI_nat (by rw [List.getElem?_map, List.getElem?_eq_getElem hk]; rfl)
    rw [ek] at z
    exact z
  · walk_at "rd"
    refine ⟨a, _, rfl, hS, fun p hp => ?_⟩
    refine ⟨p, rfl, ⟨_, SqL.of upd_same⟩, ?_⟩
    have sm : Same H (upd H p (.lst (cutV (ns.map V.int) none (some 8)))) := fun b o e => by rw [upd_ne (ne_of_none e hp)]; exact e
    rw [cut8] at sm ⊢
    refine for_list (xs := (ns.take 8).map V.int) (fun i σ H2 => ∃ (far : Int) (v : Option V), σ = [some (.ref a), some (.int k), some (.int far), v] ∧ H2 = upd H p (.lst ((ns.take 8).map V.int)) ∧ 0 ≤ far ∧ far < 2000000000 * (32 : Int) ^ i) ?_ ?_ ?_ ?_
    · exact ⟨_, none, rfl, rfl, by omega, by simp; omega⟩
    · rintro i σ H2 hi ⟨far, v, rfl, rfl, _⟩
      exact SqL.of upd_same
    · rintro i y σ H2 hi ⟨far, v, rfl, rfl, f0, f1⟩
      obtain ⟨z, rfl⟩ : ∃ z, y = V.int z := by
        rw [List.getElem?_map] at hi
        cases e : (ns.take 8)[i]? with
        | none => rw [e] at hi; cases hi
        | some z => rw [e] at hi; exact ⟨z, (Option.some.inj hi).symm⟩
      have hp1 : (1 : Int) ≤ 32 ^ i := by
        have := Int.pow_pos (n := 32) (m := i) (by decide)
        omega
      have hm0 := Int.emod_nonneg z (show (1000033 : Int) ≠ 0 by decide)
      have hm1 := Int.emod_lt_of_pos z (show (0 : Int) < 1000033 by decide)
      walk_at "rd"
      rw [Int.pow_succ]
      omega
    · rintro σ H2 ⟨far, v, rfl, rfl, f0, f1⟩
      have hl : ((ns.take 8).map V.int).length ≤ 8 := by simp; omega
      have hp8 : (32 : Int) ^ ((ns.take 8).map V.int).length ≤ 32 ^ 8 := by
        have := Nat.pow_le_pow_right (n := 32) (by decide) hl
        exact_mod_cast this
      have e8 : (32 : Int) ^ 8 = 1099511627776 := by decide
      rw [e8] at hp8
      refine ⟨_, rfl, _, rfl, _, _, rfl, rfl, ⟨⟨by omega, by omega⟩, by omega, by omega⟩, _, _, rfl, rfl, (by show (0 : Int) < 998244353; decide), q _ _ sm⟩
theorem sc__law_line : FnScope ["_law_row_here", "_law_cell_here", "_law_line_here", "_law_number"] ["_law_row_here", "_law_cell_here"] (defScope s_law_line) := ⟨rfl, rfl, rfl, by decide +kernel, rfl, by decide +kernel, by decide +kernel⟩
theorem ok__law_line {f : Addr} {fd : FuncData} (F : Fun K "_law_line" "_law_line" s_law_line f fd) (z_str : mg "str" = none) : FnOk P w K mg base CX0 1 f fd ["_law_row_here", "_law_cell_here"] (sp_law_line K) := by
  refine F.ok sc__law_line (fun vs H Q E h => ?_) (fun cdv A outer s H vs Q E hr h => ?_)
  · obtain ⟨t, r, c, rfl, hT, hok, q⟩ := h
    rfl
  obtain ⟨t, r, c, rfl, hT, hok, q⟩ := h
  refine ⟨_, (pss_cons (ps_set (i := 2) sc__law_line.nd rfl (Or.inl rfl) (pe_op op_add_str (pe_op op_mulS pe_str (pe_op op_mod (pv 1) pe_int)) (pe_ix ix_tup (pv 0) pe_int (fun _ _ => rfl))))
      (pss_cons (ps_for PassesOwn.never rfl (pi_tup (pe_slice sl_tupG (pv 0) (po_some pe_int) po_none)) (pg_name (i := 3) sc__law_line.nd rfl (Or.inl rfl)) (pss_one (ps_set (i := 2) sc__law_line.nd rfl (Or.inl rfl) (pe_op op_add_str (pe_op op_add_str (pv 2) (pe_op op_mulS pe_str (pe_op op_add pe_int (pe_op op_mod (pe_op op_fdiv (pv 1) pe_int) pe_int)))) (pe_callTy call_str_int rfl z_str bt_str (pa_cons (pv 3) pa_nil))))))
      (pss_cons (ps_set (i := 2) sc__law_line.nd rfl (Or.inl rfl) (pe_op op_add_str (pv 2) (pe_op op_mulS pe_str (pe_op op_mod (pe_op op_fdiv (pv 1) pe_int) pe_int))))
      (pss_cons (ps_if (pt_cmpR op_eq (pe_op op_mod (pe_op op_fdiv (pv 1) pe_int) pe_int) pe_int (nomark _)) (pss_one (ps_set (i := 2) sc__law_line.nd rfl (Or.inl rfl) (pe_op op_add_str (pe_op op_add_str (pe_op op_add_str (pv 2) pe_str) (pe_op op_mulS pe_str (pe_op op_mod (pe_op op_fdiv (pv 1) pe_int) pe_int))) pe_str))) pss_nil)
      (pss_one (ps_ret (pv 2))))))), ?_⟩
  obtain ⟨na, ea, la⟩ := modN (e := c) (n := 3) (by decide)
  obtain ⟨nb, eb, lb⟩ := modN (e := c / 3) (n := 3) (by decide)
  obtain ⟨nd, ed, ld⟩ := modN (e := c / 9) (n := 3) (by decide)
  obtain ⟨ng, eg, lg⟩ := modN (e := c / 108) (n := 3) (by decide)
  have b1 : (" " : Str).length = 1 := by decide +kernel
  have hsg := sign_sgs _ hok.sign
  have few := roN_few r
  refine ⟨_, rfl, _, _, rfl, rfl, (by show (0 : Int) < 3; decide), " ", na, rfl, congrArg V.int ea, by omega, by omega, ?_⟩
  refine ⟨_, rfl, t, _, _, _, rfl, rfl, hT, atI_nat (j := 0) rfl, _, _, rfl, rfl, (by rw [len_rep, b1]; exact few_sizeLine (by omega)), ?_⟩
  refine ⟨_, rfl, _, rfl, t, _, rfl, hT, fun cc H2 s2 hc => ?_⟩
  have hc : SqT K H2 cc ((roN r).map V.int) := by
    have z : SqT K H2 cc (cutV (roV r) (some 1) none) := hc
    rw [show cutV (roV r) (some 1) none = (roN r).map V.int from cut_one] at z
    exact z
  refine ⟨cc, rfl, ⟨_, hc⟩, ?_⟩
  refine for_tup (xs := (roN r).map V.int) (fun i σ H3 => ∃ (o : Option V) (l : Str), σ = [some (.ref t), some (.int c), some (.str l), o] ∧ Same H H3 ∧ SqT K H3 cc ((roN r).map V.int) ∧ sgs l = List.replicate na 32 ++ sgs (roS r) ++ ((((roN r).take i).map tx).map fun v => List.replicate (nb + 1) 32 ++ sgs v).flatten ∧ (sgs l).length ≤ 10 + 20 * i) ⟨none, _, rfl, s2, hc, ?_, ?_⟩ ?_ ?_ ?_
  · rw [sgs_app, blank_rep, List.take_zero, List.map_nil, List.map_nil, List.flatten_nil, List.append_nil]
  · rw [← len_sgs, len_app, len_rep, b1]; omega
  · rintro i σ H3 hi ⟨o, l, rfl, s3, hc3, e3, l3⟩
    exact hc3
  · rintro i y σ H3 hy ⟨o, l, rfl, s3, hc3, e3, l3⟩
    rw [List.getElem?_map] at hy
    cases e : (roN r)[i]? with
    | none => rw [e] at hy; cases hy
    | some n =>
      rw [e] at hy
      cases hy
      have hil := (List.getElem?_eq_some_iff.mp e).1
      have hn := ok_nums hok n (List.mem_of_getElem? e)
      have ln := tx_len (n := n) (by omega)
      have l3' : l.length ≤ 10 + 20 * i := by rw [len_sgs]; exact l3
      refine ⟨_, rfl, _, rfl, _, _, rfl, rfl, ⟨by decide, by decide⟩, _, _, rfl, rfl, (by show (0 : Int) < 3; decide), _, _, rfl, rfl, " ", nb + 1, rfl, congrArg V.int (by show 1 + c / 3 % 3 = _; rw [show c / 3 % 3 = (nb : Int) from eb]; omega), by omega, by omega, _, _, rfl, rfl, (by rw [len_rep, b1]; exact few_sizeLine (by omega)), ?_⟩
      refine ⟨_, rfl, n, rfl, log_small (by omega), _, _, rfl, rfl, (by show _ + (tx n).length ≤ _; rw [len_app, len_rep, b1, len_sgs (tx n)]; exact few_sizeLine (by omega)), ?_⟩
      refine ⟨_, l ++ repS " " (nb + 1) ++ tx n, rfl, s3, hc3, ?_, ?_⟩
      · rw [sgs_app, sgs_app, blank_rep, e3, List.take_add_one, e, List.map_append, List.map_append, List.flatten_append]
        simp only [List.append_assoc]
        congr 3
        show List.replicate (nb + 1) 32 ++ sgs (tx n) = (List.replicate (nb + 1) 32 ++ sgs (tx n)) ++ []
        rw [List.append_nil]
      · rw [← len_sgs, len_app, len_app, len_rep, b1, len_sgs (tx n)]; omega
  · rintro σ H3 ⟨o, l, rfl, s3, hc3, e3, l3⟩
    rw [List.length_map] at e3 l3
    rw [List.take_of_length_le (Nat.le_refl _)] at e3
    have l3' : l.length ≤ 50 := by rw [len_sgs]; omega
    refine ⟨_, rfl, _, rfl, _, _, rfl, rfl, ⟨by decide, by decide⟩, _, _, rfl, rfl, (by show (0 : Int) < 3; decide), " ", nd, rfl, congrArg V.int ed, by omega, by omega, _, _, rfl, rfl, (by rw [len_rep, b1]; exact few_sizeLine (by omega)), ?_⟩
    have pl : Asc (sgs l) := by
      rw [e3]
      refine ((Asc.rep _).app (.sign hok.sign)).app (.flat fun x hx => ?_)
      obtain ⟨y, hy, rfl⟩ := List.mem_map.mp hx
      obtain ⟨n, _, rfl⟩ := List.mem_map.mp hy
      exact (Asc.rep _).app (.tx n)
    have q0 := fun (rem : Str) (hr : Rem (sgs rem)) (ha : Asc (sgs rem)) (hl : (sgs rem).length ≤ 50) => q (l ++ rem) H3 s3 (row_words hok (rem := sgs rem) hr (by rw [sgs_app, e3])) ⟨by rw [sgs_app]; exact pl.app ha, by rw [sgs_app, List.length_append]; omega⟩
    refine ⟨_, rfl, _, _, rfl, rfl, ⟨by decide, by decide⟩, _, _, rfl, rfl, (by show (0 : Int) < 4; decide), rfl, _, rfl, ite2 (fun z => ?_) (fun z => ?_)⟩
    · refine ⟨_, rfl, _, _, rfl, rfl, (by rw [len_app, len_rep, b1, show (Str.ofString "# push").length = 6 by decide +kernel]; exact few_sizeLine (by omega)), ?_⟩
      have b2 : (Str.ofString " #").length = 2 := by decide +kernel
      refine ⟨_, rfl, _, _, rfl, rfl, ⟨by decide, by decide⟩, _, _, rfl, rfl, (by show (0 : Int) < 3; decide), Str.ofString " #", ng, rfl, congrArg V.int eg, by omega, by omega, _, _, rfl, rfl, (by rw [len_app, len_app, len_rep, len_rep, b1, b2, show (Str.ofString "# push").length = 6 by decide +kernel]; exact few_sizeLine (by omega)), ?_⟩
      refine ⟨_, _, rfl, rfl, (by rw [len_app, len_app, len_app, len_rep, len_rep, b1, b2, show (Str.ofString "# push").length = 6 by decide +kernel, show (Str.ofString " 1 ~").length = 4 by decide +kernel]; exact few_sizeLine (by omega)), ?_⟩
      have e1 : sgs (Str.ofString "# push") = [35, 32, 112, 117, 115, 104] := by decide +kernel
      have e2 : sgs (Str.ofString " #") = [32, 35] := by decide +kernel
      have e3 : sgs (Str.ofString " 1 ~") = [32, 49, 32, 126] := by decide +kernel
      have q1 := q0 (repS " " nd ++ Str.ofString "# push" ++ repS (Str.ofString " #") ng ++ Str.ofString " 1 ~") ?_ ?_ ?_
      · refine ⟨_, rfl, ?_⟩
        have ea : ∀ x a b c d : Str, x ++ (a ++ b ++ c ++ d) = x ++ a ++ b ++ c ++ d := fun x a b c d => sgs_inj (by simp only [sgs_app, List.append_assoc])
        rw [ea] at q1
        exact q1
      · rw [sgs_app, sgs_app, sgs_app, blank_rep, e1]
        simp only [List.append_assoc]
        exact Rem.blanks (Rem.hash _) _
      · rw [sgs_app, sgs_app, sgs_app, blank_rep, e1, rep_sgs, e2, e3]
        refine (((Asc.rep _).app (by unfold Asc; decide)).app (.flat fun x hx => ?_)).app (by unfold Asc; decide)
        rw [(List.mem_replicate.mp hx).2]
        unfold Asc
        decide
      · rw [← len_sgs, len_app, len_app, len_app, len_rep, len_rep, b1, b2, show (Str.ofString "# push").length = 6 by decide +kernel, show (Str.ofString " 1 ~").length = 4 by decide +kernel]
        omega
    · dsimp only [tNext]
      refine ⟨_, rfl, ?_⟩
      refine q0 (repS " " nd) ?_ ?_ ?_
      · rw [blank_rep]
        have := Rem.blanks Rem.nil nd
        rw [List.append_nil] at this
        exact this
      · rw [blank_rep]; exact Asc.rep _
      · rw [blank_rep, List.length_replicate]; omega
theorem sc__law_signs : FnScope ["_law_some"] [] (defScope s_law_signs) := ⟨rfl, rfl, rfl, by decide +kernel, rfl, by decide +kernel, by decide +kernel⟩
theorem ok__law_signs {f : Addr} {fd : FuncData} (F : Fun K "_law_signs" "_law_signs" s_law_signs f fd) : FnOk P w K mg base CX0 1 f fd [] (sp_law_signs K) := by
  refine F.ok sc__law_signs (fun vs H Q E h => ?_) (fun cdv A outer s H vs Q E hr h => ?_)
  · obtain ⟨rfl, q⟩ := h
    rfl
  obtain ⟨rfl, q⟩ := h
  refine ⟨_, (pss_cons (ps_set (i := 0) sc__law_signs.nd rfl (Or.inl rfl) pe_str)
      (pss_one (ps_ret (pe_bm PySem.F.plainAttrs_str PySem.F.slot_str_split PySem.F.type_str_split mt_split (pe_op op_add_str (pv 0) pe_str) (pa_cons pe_str pa_nil))))), ?_⟩
  exact ⟨_, rfl, _, _, rfl, rfl, by decide +kernel, rfl, _, _, rfl, rfl, by decide +kernel, by decide +kernel, by decide +kernel, by decide +kernel, fun p hp => by rw [signs_cut]; exact q p _ (same_new hp _) hp upd_same⟩
theorem sc__law_word : FnScope ["_law_cell_here", "_law_edge"] ["_law_cell_here"] (defScope s_law_word) := ⟨rfl, rfl, rfl, by decide +kernel, rfl, by decide +kernel, by decide +kernel⟩
theorem ok__law_word {f : Addr} {fd : FuncData} (F : Fun K "_law_word" "_law_word" s_law_word f fd) (z_max : mg "max" = none) (z_min : mg "min" = none) : FnOk P w K mg base CX0 1 f fd ["_law_cell_here"] (sp_law_word K) := by
  refine F.ok sc__law_word (fun vs H Q E h => ?_) (fun cdv A outer s H vs Q E hr h => ?_)
  · obtain ⟨c, rfl, q⟩ := h
    rfl
  obtain ⟨c, rfl, q⟩ := h
  refine ⟨_, (pss_cons (ps_if (pt_cmpR op_eq (pe_op op_mod (pv 0) pe_int) pe_int (nomark _)) (pss_one (ps_ret (pe_op op_sub (pe_op op_mod (pe_op op_fdiv (pv 0) pe_int) pe_int) pe_int))) pss_nil)
      (pss_cons (ps_if (pt_cmpR op_eq (pe_op op_mod (pv 0) pe_int) pe_int (nomark _)) (pss_one (ps_ret (pe_op op_sub (pe_op op_mod (pe_op op_mul (pe_op op_fdiv (pv 0) pe_int) pe_int) pe_int) pe_int))) pss_nil)
      (pss_cons (ps_if (pt_cmpR op_eq (pe_op op_mod (pv 0) pe_int) pe_int (nomark _)) (pss_cons (ps_set (i := 1) sc__law_word.nd rfl (Or.inl rfl) (pe_op op_sub (pe_op op_add (pe_op op_shl pe_int (pe_op op_mod (pe_op op_fdiv (pv 0) pe_int) pe_int)) (pe_op op_mod (pe_op op_fdiv (pv 0) pe_int) pe_int)) pe_int))
      (pss_one (ps_ret (pe_callB (call_max2 rfl) rfl z_max bt_max (pa_cons (pe_callB (call_min2 rfl) rfl z_min bt_min (pa_cons (pe_ix ix_list (pe_lst (pa_cons (pv 1) (pa_cons (pe_op op_sub pe_int (pv 1)) pa_nil))) (pe_op op_mod (pe_op op_fdiv (pv 0) pe_int) pe_int) (fun _ _ => rfl)) (pa_cons pe_int pa_nil))) (pa_cons (pe_op op_sub pe_int pe_int) pa_nil)))))) pss_nil)
      (pss_one (ps_ret (pe_op op_sub (pe_op op_mod (pe_op op_fdiv (pv 0) pe_int) pe_int) pe_int)))))), ?_⟩
  have d4 : (0 : Int) < 4 ∧ (4 : Int) < 1073741824 := by decide
  refine ⟨_, rfl, _, _, rfl, rfl, (by show (0 : Int) < 4; decide), rfl, _, rfl, ?_⟩
  refine ite2 (fun _ => ?_) (fun _ => ?_)
  · refine ⟨_, rfl, _, _, rfl, rfl, d4, _, _, rfl, rfl, (by show (0 : Int) < 9; decide), _, _, rfl, rfl, q _ _ (Same.refl _) ?_⟩
    show -2147483648 ≤ c / 4 % 9 - 4 ∧ c / 4 % 9 - 4 ≤ 2147483647
    omega
  refine ⟨_, rfl, _, _, rfl, rfl, (by show (0 : Int) < 4; decide), rfl, _, rfl, ?_⟩
  refine ite2 (fun _ => ?_) (fun _ => ?_)
  · refine ⟨_, rfl, _, _, rfl, rfl, d4, _, _, rfl, rfl, .inr ⟨by decide, by decide⟩, _, _, rfl, rfl, (by show (0 : Int) < 4294967296; decide), _, _, rfl, rfl, q _ _ (Same.refl _) ?_⟩
    show -2147483648 ≤ c / 4 * 2654435761 % 4294967296 - 2147483648 ∧ c / 4 * 2654435761 % 4294967296 - 2147483648 ≤ 2147483647
    omega
  refine ⟨_, rfl, _, _, rfl, rfl, (by show (0 : Int) < 4; decide), rfl, _, rfl, ?_⟩
  refine ite2 (fun _ => ?_) (fun _ => ?_)
  · refine ⟨_, rfl, _, _, rfl, rfl, d4, _, _, rfl, rfl, (by show (0 : Int) < 32; decide), _, _, rfl, rfl, ⟨by show 0 ≤ c / 4 % 32; omega, by show c / 4 % 32 ≤ 1000000; omega, by decide⟩, ?_⟩
    refine ⟨_, rfl, _, _, rfl, rfl, (by show (0 : Int) < 128 ∧ (128 : Int) < 1073741824; decide), _, _, rfl, rfl, (by show (0 : Int) < 3; decide), _, _, rfl, rfl, _, _, rfl, rfl, ?_⟩
    obtain ⟨e, he⟩ : ∃ e : Int, e = 1 * 2 ^ (c / 4 % 32).toNat + c / 128 % 3 - 1 := ⟨_, rfl⟩
    refine ⟨_, rfl, _, rfl, _, _, rfl, rfl, (by show 2 ≤ sizeLine; decide), fun l hl => ?_⟩
    have s1 := same_fresh hl (.lst [.int (1 * 2 ^ (c / 4 % 32).toNat + c / 128 % 3 - 1), .int (0 - (1 * 2 ^ (c / 4 % 32).toNat + c / 128 % 3 - 1))])
    refine ⟨_, rfl, _, _, rfl, rfl, (by show (0 : Int) < 384 ∧ (384 : Int) < 1073741824; decide), _, _, rfl, rfl, (by show (0 : Int) < 2; decide), ?_⟩
    obtain ⟨x, hx⟩ : ∃ x : Int, atI [V.int e, V.int (0 - e)] (c / 384 % 2) = some (V.int x) := by
      rcases (by omega : c / 384 % 2 = 0 ∨ c / 384 % 2 = 1) with z | z <;> rw [z]
      · exact ⟨_, atI_nat (j := 0) rfl⟩
      · exact ⟨_, atI_nat (j := 1) rfl⟩
    rw [he] at hx
    refine ⟨l, _, _, _, rfl, rfl, SqL.of upd_same, hx, ?_⟩
    refine ⟨_, _, rfl, _, _, rfl, rfl, _, _, rfl, q _ _ s1 ?_⟩
    show -2147483648 ≤ (if (0 - 2147483648 : Int) > (if (2147483647 : Int) < x then 2147483647 else x) then (0 - 2147483648 : Int) else if (2147483647 : Int) < x then 2147483647 else x) ∧ (if (0 - 2147483648 : Int) > (if (2147483647 : Int) < x then 2147483647 else x) then (0 - 2147483648 : Int) else if (2147483647 : Int) < x then 2147483647 else x) ≤ 2147483647
    split <;> split <;> omega
  · refine ⟨_, rfl, _, _, rfl, rfl, d4, _, _, rfl, rfl, (by show (0 : Int) < 4294967296; decide), _, _, rfl, rfl, q _ _ (Same.refl _) ?_⟩
    show -2147483648 ≤ c / 4 % 4294967296 - 2147483648 ∧ c / 4 % 4294967296 - 2147483648 ≤ 2147483647
    omega
theorem sc__law_row : FnScope ["_law_cell_here", "_law_other", "_law_many", "_law_sign"] ["_law_cell_here", "_law_other", "_law_many"] (defScope s_law_row) := ⟨rfl, rfl, rfl, by decide +kernel, rfl, by decide +kernel, by decide +kernel⟩
theorem ok__law_row {f : Addr} {fd : FuncData} (F : Fun K "_law_row" "_law_row" s_law_row f fd) (h__law_signs : Has P w K mg base CX0 "_law_signs" 1 [] (sp_law_signs K)) (h__law_word : Has P w K mg base CX0 "_law_word" 1 ["_law_cell_here"] (sp_law_word K)) : FnOk P w K mg base CX0 2 f fd ["_law_cell_here", "_law_other", "_law_many"] (sp_law_row K) := by
  refine F.ok sc__law_row (fun vs H Q E h => ?_) (fun cdv A outer s H vs Q E hr h => ?_)
  · obtain ⟨c, d, m, rfl, hm, q⟩ := h
    rfl
  obtain ⟨c, d, m, rfl, hm, q⟩ := h
  refine ⟨_, (pss_cons (ps_set (i := 3) sc__law_row.nd rfl (Or.inl rfl) (pe_ix ix_list (pe_ch0 h__law_signs (hr.mono (by decide)) rfl) (pe_op op_mod (pv 0) pe_int) (fun _ _ => rfl)))
      (pss_cons (ps_if (pt_cmpR op_eq (pv 3) pe_str (nomark _)) (pss_one (ps_ret (pe_tup (pa_cons (pv 3) (pa_cons (pe_ch h__law_word (hr.mono (by decide)) rfl (pa_cons (pv 1) pa_nil)) pa_nil))))) pss_nil)
      (pss_cons (ps_if (pt_cmpR op_in_seq (pv 3) (pe_tup (pa_cons pe_str (pa_cons pe_str pa_nil))) rfl) (pss_one (ps_ret (pe_tup (pa_cons (pv 3) (pa_cons (pe_op op_mod (pv 1) (pv 2)) pa_nil))))) pss_nil)
      (pss_cons (ps_if (pt_cmpR op_eq (pv 3) pe_str (nomark _)) (pss_one (ps_ret (pe_tup (pa_cons (pv 3) (pa_cons (pe_op op_mod (pe_op op_fdiv (pv 0) pe_int) pe_int) (pa_cons (pe_op op_mod (pv 1) (pv 2)) pa_nil)))))) pss_nil)
      (pss_cons (ps_if (pt_cmpR op_in_seq (pv 3) (pe_tup (pa_cons pe_str (pa_cons pe_str (pa_cons pe_str pa_nil)))) rfl) (pss_one (ps_ret (pe_tup (pa_cons (pv 3) (pa_cons (pe_op op_mod (pe_op op_fdiv (pv 0) pe_int) pe_int) (pa_cons (pe_op op_mod (pv 1) pe_int) pa_nil)))))) pss_nil)
      (pss_cons (ps_if (pt_cmpR op_in_seq (pv 3) (pe_tup (pa_cons pe_str (pa_cons pe_str (pa_cons pe_str (pa_cons pe_str (pa_cons pe_str pa_nil)))))) rfl) (pss_one (ps_ret (pe_tup (pa_cons (pv 3) (pa_cons (pe_op op_mod (pv 1) pe_int) pa_nil))))) pss_nil)
      (pss_one (ps_ret (pe_tup (pa_cons (pv 3) pa_nil)))))))))), ?_⟩
  refine ⟨rfl, fun sl H1 s1 n1 g1 => ?_⟩
  obtain ⟨i, hi, hil⟩ := modN (e := c) (n := 25) (by decide)
  have hsl : signsL.length = 25 := rfl
  have hxi := List.getElem?_eq_getElem (l := signsL) (i := i) (by omega)
  have hx := List.getElem_mem (l := signsL) (n := i) (by omega)
  generalize signsL[i] = x at hxi hx
  refine ⟨_, rfl, _, _, rfl, rfl, (by show (0 : Int) < 25; decide), sl, _, _, .str x, rfl, rfl, SqL.of g1, ?_, ?_⟩
  · show atI (signsL.map V.str) (c % 25) = some (.str x)
    rw [show c % 25 = (i : Int) from hi]
    exact atI_nat (by rw [List.getElem?_map, hxi]; rfl)
  clear hxi hsl hil hi g1 n1
  obtain ⟨pd, hpd, lpd⟩ := modN (e := d) hm
  obtain ⟨d8, hd8, ld8⟩ := modN (e := d) (n := 8) (by decide)
  obtain ⟨c8, hc8, lc8⟩ := modN (e := c / 25) (n := 8) (by decide)
  refine ⟨_, rfl, rfl, _, rfl, stepS (fun z => ?_) (fun z1 => ?_)⟩
  · refine ⟨_, rfl, _, rfl, d, rfl, fun w H2 s2 hw => ⟨(by show 2 ≤ sizeLine; decide), fun t ht => ?_⟩⟩
    exact q (.push w) t _ hw (s1.trans (s2.trans (same_new ht _))) (SqT.of (by rw [upd_same, z]; rfl))
  dsimp only [tNext]
  refine ⟨_, rfl, (by show 2 ≤ sizeLine; decide), fun t ht => ⟨t, _, rfl, .inr (SqT.of upd_same), rfl, rfl, _, rfl, ?_⟩⟩
  have s2 := s1.trans (same_new ht (.tup [.str "jump", .str "zero"]))
  generalize upd H1 t (.tup [.str "jump", .str "zero"]) = H2 at s2 ⊢
  clear ht s1
  refine stepL (l := ["jump", "zero"]) (fun z => ?_) (fun z2 => ?_)
  · refine ⟨_, rfl, _, rfl, _, rfl, _, _, rfl, rfl, (by show (0 : Int) < (m : Int); omega), (by show 2 ≤ sizeLine; decide), fun t ht => ?_⟩
    exact q (.pla x pd) t _ ⟨z, lpd⟩ (s2.trans (same_new ht _)) (SqT.of (by rw [upd_same]; show some (HO.tup [.str x, .int (d % (m : Int))]) = _; rw [hpd]; rfl))
  dsimp only [tNext]
  refine ⟨_, rfl, rfl, _, rfl, stepS (fun z => ?_) (fun z3 => ?_)⟩
  · refine ⟨_, rfl, _, rfl, _, _, rfl, rfl, ⟨by decide, by decide⟩, _, _, rfl, rfl, (by show (0 : Int) < 8; decide), _, rfl, _, rfl, _, _, rfl, rfl, (by show (0 : Int) < (m : Int); omega), (by show 3 ≤ sizeLine; decide), fun t ht => ?_⟩
    exact q (.kin c8 pd) t _ ⟨lc8, lpd⟩ (s2.trans (same_new ht _)) (SqT.of (by rw [upd_same, z]; show some (HO.tup [.str "kin", .int (c / 25 % 8), .int (d % (m : Int))]) = _; rw [hpd, show c / 25 % 8 = (c8 : Int) from hc8]; rfl))
  dsimp only [tNext]
  refine ⟨_, rfl, (by show 3 ≤ sizeLine; decide), fun t ht => ⟨t, _, rfl, .inr (SqT.of upd_same), rfl, rfl, _, rfl, ?_⟩⟩
  have s3 := s2.trans (same_new ht (.tup [.str "fill", .str "get", .str "put"]))
  generalize upd H2 t (.tup [.str "fill", .str "get", .str "put"]) = H3 at s3 ⊢
  clear ht s2
  refine stepL (l := ["fill", "get", "put"]) (fun z => ?_) (fun z4 => ?_)
  · refine ⟨_, rfl, _, rfl, _, _, rfl, rfl, ⟨by decide, by decide⟩, _, _, rfl, rfl, (by show (0 : Int) < 8; decide), _, rfl, _, _, rfl, rfl, (by show (0 : Int) < 8; decide), (by show 3 ≤ sizeLine; decide), fun t ht => ?_⟩
    exact q (.fld x c8 d8) t _ ⟨z, lc8, ld8⟩ (s3.trans (same_new ht _)) (SqT.of (by rw [upd_same]; show some (HO.tup [.str x, .int (c / 25 % 8), .int (d % 8)]) = _; rw [show d % 8 = (d8 : Int) from hd8, show c / 25 % 8 = (c8 : Int) from hc8]; rfl))
  dsimp only [tNext]
  refine ⟨_, rfl, (by show 5 ≤ sizeLine; decide), fun t ht => ⟨t, _, rfl, .inr (SqT.of upd_same), rfl, rfl, _, rfl, ?_⟩⟩
  have s4 := s3.trans (same_new ht (.tup [.str "load", .str "store", .str "make", .str "begin", .str "call"]))
  generalize upd H3 t (.tup [.str "load", .str "store", .str "make", .str "begin", .str "call"]) = H4 at s4 ⊢
  clear ht s3
  refine stepL (l := ["load", "store", "make", "begin", "call"]) (fun z => ?_) (fun z5 => ?_)
  · refine ⟨_, rfl, _, rfl, _, _, rfl, rfl, (by show (0 : Int) < 8; decide), (by show 2 ≤ sizeLine; decide), fun t ht => ?_⟩
    exact q (.low x d8) t _ ⟨z, ld8⟩ (s4.trans (same_new ht _)) (SqT.of (by rw [upd_same]; show some (HO.tup [.str x, .int (d % 8)]) = _; rw [show d % 8 = (d8 : Int) from hd8]; rfl))
  dsimp only [tNext]
  refine ⟨_, rfl, (by show 1 ≤ sizeLine; decide), fun t ht => ?_⟩
  exact q (.bare x) t _ (bare_else x hx z1 z2 z3 z4 z5) (s4.trans (same_new ht _)) (SqT.of (by rw [upd_same]; rfl))
theorem sc__law_lines : FnScope ["_law_script", "_law_lines_here", "_law_rows", "_law_k", "_law_cell_here", "_law_other"] ["_law_script"] (defScope s_law_lines) := ⟨rfl, rfl, rfl, by decide +kernel, rfl, by decide +kernel, by decide +kernel⟩
theorem ok__law_lines {f : Addr} {fd : FuncData} (F : Fun K "_law_lines" "_law_lines" s_law_lines f fd) (z_len : mg "len" = none) (z_range : mg "range" = none) (h__law_cell : Has P w K mg base CX0 "_law_cell" 1 ["_law_script", "_law_k"] (sp_law_cell K)) (h__law_line : Has P w K mg base CX0 "_law_line" 1 ["_law_row_here", "_law_cell_here"] (sp_law_line K)) (h__law_row : Has P w K mg base CX0 "_law_row" 2 ["_law_cell_here", "_law_other", "_law_many"] (sp_law_row K)) : FnOk P w K mg base CX0 3 f fd ["_law_script"] (sp_law_lines K) := by
  refine F.ok sc__law_lines (fun vs H Q E h => ?_) (fun cdv A outer s H vs Q E hr h => ?_)
  · obtain ⟨a, ns, rfl, hS, h63, q⟩ := h
    rfl
  obtain ⟨a, ns, rfl, hS, h63, q⟩ := h
  refine ⟨_, (pss_cons (ps_set (i := 1) sc__law_lines.nd rfl (Or.inl rfl) (pe_lst pa_nil))
      (pss_cons (ps_set (i := 2) sc__law_lines.nd rfl (Or.inl rfl) (pe_lst pa_nil))
      (pss_cons (ps_for PassesOwn.never rfl (pi_range1 rfl z_range (pa_cons (pe_callB call_len_seq rfl z_len bt_len (pa_cons (pe_slice sl_list (pv 0) (po_some pe_int) (po_some pe_int)) pa_nil)) pa_nil)) (pg_name (i := 3) sc__law_lines.nd rfl (Or.inl rfl)) (pss_cons (ps_set (i := 4) sc__law_lines.nd rfl (Or.inl rfl) (pe_ch h__law_cell (hr.mono (by decide)) rfl (pa_cons (pv 0) (pa_cons (pe_op op_add pe_int (pv 3)) pa_nil))))
      (pss_cons (ps_set (i := 5) sc__law_lines.nd rfl (Or.inl rfl) (pe_op op_add (pe_op op_fdiv (pe_ch h__law_cell (hr.mono (by decide)) rfl (pa_cons (pv 0) (pa_cons (pe_op op_add pe_int (pv 3)) pa_nil))) pe_int) (pv 3)))
      (pss_one (ps_if (pt_cmpR op_eq (pe_op op_mod (pv 4) pe_int) pe_int (nomark _)) (pss_one (ps_expr (pe_bm PySem.F.plainAttrs_list PySem.F.slot_list_append PySem.F.type_list_append mt_append (pv 1) (pa_cons (pe_ix ix_list (pe_lst (pa_cons pe_str (pa_cons pe_str (pa_cons pe_str (pa_cons pe_str (pa_cons pe_str pa_nil)))))) (pe_op op_mod (pe_op op_fdiv (pv 4) pe_int) pe_int) (fun _ _ => rfl)) pa_nil)))) (pss_cons (ps_expr (pe_bm PySem.F.plainAttrs_list PySem.F.slot_list_append PySem.F.type_list_append mt_append (pv 2) (pa_cons (pe_ch h__law_row (hr.mono (by decide)) rfl (pa_cons (pe_op op_fdiv (pv 4) pe_int) (pa_cons (pv 5) (pa_cons pe_int pa_nil)))) pa_nil)))
      (pss_one (ps_expr (pe_bm PySem.F.plainAttrs_list PySem.F.slot_list_append PySem.F.type_list_append mt_append (pv 1) (pa_cons (pe_ch h__law_line (hr.mono (by decide)) rfl (pa_cons (pe_ix ix_list (pv 2) (pe_un un_neg pe_int) (fun _ _ => rfl)) (pa_cons (pv 5) pa_nil))) pa_nil))))))))))
      (pss_one (ps_ret (pe_tup (pa_cons (pv 1) (pa_cons (pv 2) pa_nil)))))))), ?_⟩
  refine ⟨(by show 0 ≤ sizeLine; decide), fun pl hpl => ?_⟩
  have s1 := same_new hpl (.lst [])
  have g1 := upd_same (H := H) (a := pl) (o := .lst [])
  generalize upd H pl (.lst []) = H1 at s1 g1 ⊢
  refine ⟨(by show 0 ≤ sizeLine; decide), fun pr hpr => ?_⟩
  have s2 := same_new hpr (.lst [])
  have g2 := upd_same (H := H1) (a := pr) (o := .lst [])
  generalize upd H1 pr (.lst []) = H2 at s2 g2 ⊢
  have hne : pl ≠ pr := fun e => by rw [e] at g1; rw [g1] at hpr; cases hpr
  have hprH := fresh_of s1 hpr
  have S2 := s1.trans s2
  refine ⟨_, rfl, _, rfl, _, rfl, a, _, rfl, S2.seq hS, fun c hc => ?_⟩
  have s3 := same_new hc (.lst (cutV (ns.map V.int) (some 3) (some 62)))
  have g3 := upd_same (H := H2) (a := c) (o := .lst (cutV (ns.map V.int) (some 3) (some 62)))
  have cf := cut_few (xs := ns.map V.int)
  generalize cutV (ns.map V.int) (some 3) (some 62) = cs at s3 g3 cf ⊢
  generalize upd H2 c _ = H3 at s3 g3 ⊢
  have S3 := S2.trans s3
  refine ⟨c, cs, rfl, .inl (SqL.of g3), _, rfl, by omega, by omega, ?_⟩
  refine for_range (lo := 0) (n := ((cs.length : Nat) : Int).toNat) (fun i σ H4 => ∃ (o3 o4 o5 : Option V) (ls : List Str) (ks : List (Option Ro)) (us : List V), σ = [some (.ref a), some (.ref pl), some (.ref pr), o3, o4, o5] ∧ Same H H4 ∧ H4 pl = some (.lst (ls.map V.str)) ∧ H4 pr = some (.lst us) ∧ RosAt K H4 us (ks.filterMap id) ∧ ks.length = ls.length ∧ Kn ls ks ∧ (∀ l ∈ ls, Plain l) ∧ ls.length = i)
    ⟨none, none, none, [], [], [], rfl, S3, s3 _ _ (s2 _ _ g1), s3 _ _ g2, .nil, rfl, ⟨Nat.le_refl _, fun i l k h => by simp at h⟩, (fun l h => nomatch h), rfl⟩ ?_ ?_
  · rintro i σ H4 hi ⟨o3, o4, o5, ls, ks, us, rfl, s4, gl, gr, hR, hkl, hkn, hpn, hln⟩
    have hi' : i < 59 := by omega
    have ul : us.length ≤ i := by
      rw [hR.1, ← hln, ← hkl]
      exact List.length_filterMap_le _ _
    refine ⟨_, rfl, _, rfl, _, _, rfl, rfl, a, ns, _, rfl, s4.seq hS, by omega, by omega, fun v1 H5 s5 => ?_⟩
    refine ⟨_, rfl, _, rfl, _, _, rfl, rfl, a, ns, _, rfl, (s4.trans s5).seq hS, by omega, by omega, fun v2 H6 s6 => ?_⟩
    refine ⟨_, _, rfl, rfl, ⟨by decide, by decide⟩, _, rfl, _, _, rfl, rfl, ?_⟩
    have S6 := s5.trans s6
    have gl6 := S6 _ _ gl
    have gr6 := S6 _ _ gr
    have hR6 := hR.same S6
    have s6 := s4.trans S6
    clear gl gr hR S6 s4 s5
    refine ⟨_, rfl, _, _, rfl, rfl, (by show (0 : Int) < 7; decide), rfl, _, rfl, ite2 (fun z => ?_) (fun z => ?_)⟩
    · obtain ⟨j, ej, lj⟩ := modN (e := v1 / 7) (n := 5) (by decide)
      have hbl : blankL.length = 5 := rfl
      have hxj := List.getElem?_eq_getElem (l := blankL) (i := j) (by omega)
      have hxm := List.getElem_mem (l := blankL) (n := j) (by omega)
      generalize blankL[j] = x at hxj hxm
      obtain ⟨b1, b2, b3⟩ := blank_ok x hxm
      refine ⟨_, rfl, .inl ⟨rfl, _, SqL.of gl6⟩, (by show 5 ≤ sizeLine; decide), fun D hD => ?_⟩
      have s7 := same_new hD (.lst (blankL.map V.str))
      have gD : upd H6 D (.lst [.str "", .str "   ", .str "# dup", .str "  #", .str "#"]) D = some (.lst (blankL.map V.str)) := upd_same
      have s7 : Same H6 (upd H6 D (.lst [.str "", .str "   ", .str "# dup", .str "  #", .str "#"])) := s7
      generalize upd H6 D _ = H7 at s7 gD ⊢
      refine ⟨_, rfl, _, _, rfl, rfl, ⟨by decide, by decide⟩, _, _, rfl, rfl, (by show (0 : Int) < 5; decide), D, _, _, .str x, rfl, rfl, SqL.of gD, ?_, ?_⟩
      · show atI (blankL.map V.str) (v1 / 7 % 5) = some (.str x)
        rw [show v1 / 7 % 5 = (j : Int) from ej]
        exact atI_nat (by rw [List.getElem?_map, hxj]; rfl)
      have gl7 := s7 _ _ gl6
      have gr7 := s7 _ _ gr6
      refine ⟨pl, _, _, rfl, rfl, gl7, small1000 (by rw [List.length_map]; omega), ?_⟩
      refine ⟨_, _, _, ls ++ [x], ks ++ [none], us, rfl, Same_upd (s6.trans s7) hpl _, ?_, ?_, ?_, ?_, ?_, ?_, ?_⟩
      · rw [upd_same, List.map_append]; rfl
      · rw [upd_ne hne.symm]; exact gr7
      · rw [List.filterMap_append, show List.filterMap id [none] = ([] : List Ro) from rfl, List.append_nil]
        exact (hR6.same s7).updL gl7
      · rw [List.length_append, List.length_append, hkl]; rfl
      · exact hkn.snoc hkl b1
      · exact Plain.of hpn ⟨b2, b3⟩
      · rw [List.length_append, hln]; rfl
    · refine ⟨_, rfl, .inl ⟨rfl, _, SqL.of gr6⟩, _, rfl, _, _, rfl, rfl, ⟨by decide, by decide⟩, _, rfl, _, _, 100, rfl, by decide, fun r t H7 ok s7 ht => ?_⟩
      have gr7 := s7 _ _ gr6
      refine ⟨pr, us, _, rfl, rfl, gr7, small1000 (by omega), ?_⟩
      have gl8 : upd H7 pr (.lst (us ++ [.ref t])) pl = some (.lst (ls.map V.str)) := by rw [upd_ne hne]; exact s7 _ _ gl6
      have gr8 : upd H7 pr (.lst (us ++ [.ref t])) pr = some (.lst (us ++ [.ref t])) := upd_same
      have hR8 : RosAt K (upd H7 pr (.lst (us ++ [.ref t]))) (us ++ [.ref t]) (ks.filterMap id ++ [r]) := (RosAt.snoc (hR6.same s7) ht).updL gr7
      have s8 : Same H (upd H7 pr (.lst (us ++ [.ref t]))) := Same_upd (s6.trans s7) hprH _
      have hT8 := tup_updL (o := .lst (us ++ [.ref t])) ht gr7
      generalize upd H7 pr _ = H8 at gl8 gr8 hR8 s8 hT8 ⊢
      refine ⟨_, rfl, .inl ⟨rfl, _, SqL.of gl8⟩, _, rfl, _, rfl, pr, _, _, .ref t, rfl, rfl, SqL.of gr8, atI_last _ _, _, rfl, t, r, _, rfl, hT8, ok, fun l H9 s9 hkl9 hpl9 => ?_⟩
      have gl9 := s9 _ _ gl8
      refine ⟨pl, _, _, rfl, rfl, gl9, small1000 (by rw [List.length_map]; omega), ?_⟩
      refine ⟨_, _, _, ls ++ [l], ks ++ [some r], us ++ [.ref t], rfl, Same_upd (s8.trans s9) hpl _, ?_, ?_, ?_, ?_, ?_, ?_, ?_⟩
      · rw [upd_same, List.map_append]; rfl
      · rw [upd_ne hne.symm]; exact s9 _ _ gr8
      · rw [List.filterMap_append, show List.filterMap id [some r] = ([r] : List Ro) from rfl]
        exact (hR8.same s9).updL gl9
      · rw [List.length_append, List.length_append, hkl]; rfl
      · exact hkn.snoc hkl hkl9
      · exact Plain.of hpn hpl9
      · rw [List.length_append, hln]; rfl
  · rintro σ H4 ⟨o3, o4, o5, ls, ks, us, rfl, s4, gl, gr, hR, hkl, hkn, hpn, hln⟩
    refine ⟨_, rfl, _, rfl, (by show 2 ≤ sizeLine; decide), fun t ht => ?_⟩
    have s5 := same_new ht (.tup [.ref pl, .ref pr])
    exact q t pl pr ls ks us _ (s4.trans s5) (SqT.of upd_same) hpl (s5 _ _ gl) hprH (s5 _ _ gr) (hR.same s5) hkl hkn hpn (by omega)
theorem sc_is_whole : FnScope ["thing"] ["thing"] (defScope s_is_whole) := ⟨rfl, rfl, rfl, by decide +kernel, rfl, by decide +kernel, by decide +kernel⟩
theorem ok_is_whole {f : Addr} {fd : FuncData} (F : Fun K "is_whole" "is_whole" s_is_whole f fd) (z_bool : mg "bool" = none) (z_int : mg "int" = none) (z_isinstance : mg "isinstance" = none) : FnOk P w K mg base CX0 1 f fd ["thing"] (sp_is_whole K) := by
  refine F.ok sc_is_whole (fun vs H Q E h => ?_) (fun cdv A outer s H vs Q E hr h => ?_)
  · obtain ⟨v, t, rfl, hv, q⟩ := h
    rfl
  obtain ⟨v, t, rfl, hv, q⟩ := h
  refine ⟨_, (pss_one (ps_ret (pe_and (pe_callB call_isi rfl z_isinstance bt_isinstance (pa_cons (pv 0) (pa_cons (pe_bltn (v := .ty "int") rfl z_int bt_int rfl) pa_nil))) (pe_one (pe_not (pe_callB call_isi rfl z_isinstance bt_isinstance (pa_cons (pv 0) (pa_cons (pe_bltn (v := .ty "bool") rfl z_bool bt_bool rfl) pa_nil)))))))), ?_⟩
  cases hv with
  | int n =>
    refine ⟨_, rfl, _, _, _, _, rfl, .int n, rfl, _, rfl, iteT ?_⟩
    exact ⟨_, rfl, _, _, _, _, rfl, .int n, rfl, _, rfl, q⟩
  | bl b =>
    refine ⟨_, rfl, _, _, _, _, rfl, .bl b, rfl, _, rfl, iteT ?_⟩
    exact ⟨_, rfl, _, _, _, _, rfl, .bl b, rfl, _, rfl, q⟩
  | non => exact ⟨_, rfl, _, _, _, _, rfl, .non, rfl, _, rfl, iteF q⟩
  | str x => exact ⟨_, rfl, _, _, _, _, rfl, .str x, rfl, _, rfl, iteF q⟩
  | lst h => exact ⟨_, rfl, _, _, _, _, rfl, .lst h, rfl, _, rfl, iteF q⟩
  | tup h => exact ⟨_, rfl, _, _, _, _, rfl, .tup h, rfl, _, rfl, iteF q⟩
  | dct h => exact ⟨_, rfl, _, _, _, _, rfl, .dct h, rfl, _, rfl, iteF q⟩
theorem sc_is_word : FnScope ["number"] ["number"] (defScope s_is_word) := ⟨rfl, rfl, rfl, by decide +kernel, rfl, by decide +kernel, by decide +kernel⟩
theorem ok_is_word {f : Addr} {fd : FuncData} (F : Fun K "is_word" "is_word" s_is_word f fd) {t_HALF : Tok} (g_HALF : mg "HALF" = some (.int 2147483648 t_HALF)) (r_HALF : RelV (.int 2147483648) (.int 2147483648 t_HALF)) : FnOk P w K mg base CX0 1 f fd ["number"] (sp_is_word K) := by
  refine F.ok sc_is_word (fun vs H Q E h => ?_) (fun cdv A outer s H vs Q E hr h => ?_)
  · obtain ⟨n, rfl, q⟩ := h
    rfl
  obtain ⟨n, rfl, q⟩ := h
  refine ⟨_, (pss_one (ps_ret (pe_chain op_le op_lt (pe_un un_neg (pe_glob rfl g_HALF r_HALF)) (pv 0) (pe_glob rfl g_HALF r_HALF)))), ?_⟩
  walk_at "rd"
  refine ite2 (fun z => ?_) (fun z => ?_)
  · refine ⟨_, _, rfl, rfl, ?_⟩
    unfold inWord at q
    rw [z, Bool.true_and] at q
    exact q
  · unfold inWord at q
    rw [Bool.eq_false_iff.mpr z, Bool.false_and] at q
    exact q
theorem sc_fits : FnScope ["want", "thing"] ["want", "thing"] (defScope s_fits) := ⟨rfl, rfl, rfl, by decide +kernel, rfl, by decide +kernel, by decide +kernel⟩
theorem ok_fits {f : Addr} {fd : FuncData} (F : Fun K "fits" "fits" s_fits f fd) {d_MOST : Addr} (g_MOST : mg "MOST" = some (.ref d_MOST)) (c_MOST : DiD K w d_MOST kd_MOST) (h_is_whole : Has P w K mg base CX0 "is_whole" 1 ["thing"] (sp_is_whole K)) (h_is_word : Has P w K mg base CX0 "is_word" 1 ["number"] (sp_is_word K)) : FnOk P w K mg base CX0 2 f fd ["want", "thing"] (sp_fits K) := by
  refine F.ok sc_fits (fun vs H Q E h => ?_) (fun cdv A outer s H vs Q E hr h => ?_)
  · obtain ⟨x, v, t, rfl, hv, hx, q⟩ := h
    rfl
  obtain ⟨x, v, t, rfl, hv, hx, q⟩ := h
  refine ⟨_, (pss_cons (ps_if (pt_not (pt_val (pe_ch h_is_whole (hr.mono (by decide)) rfl (pa_cons (pv 1) pa_nil)))) (pss_one (ps_ret pe_bl)) pss_nil)
      (pss_cons (ps_if (pt_cmpR op_eq (pv 0) pe_str (nomark _)) (pss_one (ps_ret (pe_ch h_is_word (hr.mono (by decide)) rfl (pa_cons (pv 1) pa_nil)))) pss_nil)
      (pss_one (ps_ret (pe_chain op_le op_le pe_int (pv 1) (pe_ix ix_dictK (pe_glob (v := .ref d_MOST) rfl g_MOST rfl) (pv 0) (fun _ _ => rfl))))))), ?_⟩
  refine ⟨_, rfl, v, t, rfl, hv, _, rfl, ?_⟩
  cases v with
  | int i =>
    refine iteF ?_
    refine ⟨_, rfl, rfl, _, rfl, ?_⟩
    refine ite2 (fun z => ?_) (fun z => ?_)
    · have z' : x = "word" := V.str.inj (of_decide_eq_true z)
      refine ⟨_, rfl, i, rfl, ?_⟩
      have q : Q (.bl (if x = "word" then inWord i else match mostOf x with | some m => decide (0 ≤ i) && decide (i ≤ m) | none => false)) H := q
      rw [if_pos z'] at q
      exact q
    · have z' : ¬ x = "word" := fun y => z (decide_eq_true (congrArg V.str y))
      obtain ⟨m, hm⟩ : ∃ m : Int, getP kd_MOST x = some (.int m) := hx.resolve_left z'
      have hmo : mostOf x = some m := by unfold mostOf; rw [hm]; rfl
      have q : Q (.bl (if x = "word" then inWord i else match mostOf x with | some m => decide (0 ≤ i) && decide (i ≤ m) | none => false)) H := q
      rw [if_neg z', hmo] at q
      have q : Q (.bl (decide (0 ≤ i) && decide (i ≤ m))) H := q
      dsimp only [tNext]
      refine ⟨_, rfl, _, _, rfl, rfl, _, rfl, ?_⟩
      refine ite2 (fun y => ?_) (fun y => ?_)
      · refine ⟨_, rfl, d_MOST, kd_MOST, x, _, rfl, rfl, c_MOST, hm, fun v hv => ?_⟩
        have hv' := hv H
        cases hv'
        refine ⟨_, _, rfl, rfl, ?_⟩
        rw [y, Bool.true_and] at q
        exact q
      · rw [Bool.eq_false_iff.mpr y, Bool.false_and] at q
        exact q
  | _ => exact iteT q
theorem sc_wants : FnScope ["sign"] ["sign"] (defScope s_wants) := ⟨rfl, rfl, rfl, by decide +kernel, rfl, by decide +kernel, by decide +kernel⟩
theorem ok_wants {f : Addr} {fd : FuncData} (F : Fun K "wants" "wants" s_wants f fd) {d_WANTS : Addr} (g_WANTS : mg "WANTS" = some (.ref d_WANTS)) (c_WANTS : DiD K w d_WANTS kd_WANTS) : FnOk P w K mg base CX0 1 f fd ["sign"] (sp_wants K) := by
  refine F.ok sc_wants (fun vs H Q E h => ?_) (fun cdv A outer s H vs Q E hr h => ?_)
  · obtain ⟨x, rfl, q⟩ := h
    rfl
  obtain ⟨x, rfl, q⟩ := h
  refine ⟨_, (pss_one (ps_ret (pe_getK (pe_glob (v := .ref d_WANTS) rfl g_WANTS rfl) (pa_cons (pv 0) (pa_cons (pe_tup pa_nil) pa_nil))))), ?_⟩
  refine ⟨d_WANTS, kd_WANTS, rfl, c_WANTS, _, rfl, by show 0 ≤ sizeLine; decide, fun p hp => ⟨x, .ref p, rfl, fun hn => q _ _ (same_new hp _) ⟨p, rfl, ?_⟩, fun dt hd v hv => ?_⟩⟩
  · rw [wants_none hn]
    exact SqT.of upd_same
  · have e := wants_some hd
    subst e
    obtain ⟨a, xs, rfl, h1, h2⟩ := RdV.tupInv (hv _)
    have z := rd_strs h2
    subst z
    exact q _ _ (same_new hp _) ⟨a, rfl, h1⟩
theorem sc_is_row : FnScope ["thing", "sign", "wanted"] ["thing"] (defScope s_is_row) := ⟨rfl, rfl, rfl, by decide +kernel, rfl, by decide +kernel, by decide +kernel⟩
theorem ok_is_row {f : Addr} {fd : FuncData} (F : Fun K "is_row" "is_row" s_is_row f fd) (z_all : mg "all" = none) (z_isinstance : mg "isinstance" = none) (z_len : mg "len" = none) (z_str : mg "str" = none) (z_tuple : mg "tuple" = none) (z_zip : mg "zip" = none) {d_SIGNS : Addr} (g_SIGNS : mg "SIGNS" = some (.ref d_SIGNS)) (c_SIGNS : ∀ H : Hp, RdV K H (.ref d_SIGNS) kd_SIGNS) (o_SIGNS : ∃ o, K.lookup d_SIGNS = some o ∧ o.cls = .type "tuple" ∧ o.dict = none) (h_fits : Has P w K mg base CX0 "fits" 2 ["want", "thing"] (sp_fits K)) (h_wants : Has P w K mg base CX0 "wants" 1 ["sign"] (sp_wants K)) : FnOk P w K mg base CX0 3 f fd ["thing"] (sp_is_row K) := by
  refine F.ok sc_is_row (fun vs H Q E h => ?_) (fun cdv A outer s H vs Q E hr h => ?_)
  · obtain ⟨v, t, rfl, hv, hc⟩ := h
    rfl
  obtain ⟨v, t, rfl, hv, hc⟩ := h
  refine ⟨_, (pss_cons (ps_if (PW.pt (pw_or (pt_not (pt_val (pe_callB call_isi rfl z_isinstance bt_isinstance (pa_cons (pv 0) (pa_cons (pe_bltn (v := .ty "tuple") rfl z_tuple bt_tuple rfl) pa_nil))))) (pw_or1 (pt_cmpR op_eq (pe_callB call_len_seq rfl z_len bt_len (pa_cons (pv 0) pa_nil)) pe_int (nomark _))))) (pss_one (ps_ret pe_bl)) pss_nil)
      (pss_cons (ps_set (i := 1) sc_is_row.nd rfl (Or.inl rfl) (pe_ix ix_tup (pv 0) pe_int (fun _ _ => rfl)))
      (pss_cons (ps_if (PW.pt (pw_or (pt_not (pt_val (pe_callB call_isi rfl z_isinstance bt_isinstance (pa_cons (pv 1) (pa_cons (pe_bltn (v := .ty "str") rfl z_str bt_str rfl) pa_nil))))) (pw_or1 (pt_cmpR op_notIn_seq (pv 1) (pe_glob (v := .ref d_SIGNS) rfl g_SIGNS rfl) rfl)))) (pss_one (ps_ret pe_bl)) pss_nil)
      (pss_cons (ps_set (i := 2) sc_is_row.nd rfl (Or.inl rfl) (pe_ch h_wants (hr.mono (by decide)) rfl (pa_cons (pv 1) pa_nil)))
      (pss_cons (ps_if (pt_cmpR op_ne (pe_callB call_len_seq rfl z_len bt_len (pa_cons (pv 0) pa_nil)) (pe_op op_add (pe_callB call_len_seq rfl z_len bt_len (pa_cons (pv 2) pa_nil)) pe_int) (nomark _)) (pss_one (ps_ret pe_bl)) pss_nil)
      (pss_one (ps_ret (pe_callB (call_all rfl) rfl z_all bt_all (pa_cons (pe_lc 2 ["want", "number"] [] ⟨rfl, rfl, rfl, rfl, rfl, rfl, rfl, rfl⟩ (pi_zip false false rfl z_zip (pa_cons (pv 2) (pa_cons (pe_slice sl_tupG (pv 0) (po_some pe_int) po_none) pa_nil))) (fun _ _ _ _ => ⟨(show PG _ _ (gTup K 2 _) from (pg_tup rfl (pgs_cons (pg_name (i := 0) (show List.Nodup (["want", "number"] : List Str) by decide +kernel) rfl (Or.inl rfl)) (pgs_cons (pg_name (i := 1) (show List.Nodup (["want", "number"] : List Str) by decide +kernel) rfl (Or.inl rfl)) pgs_nil)))), pif_nil, (pe_ch h_fits (hr.mono (by decide)) rfl (pa_cons (pv 0) (pa_cons (pv 1) pa_nil)))⟩)) pa_nil))))))))), ?_⟩
  rcases hc with ⟨hne, q⟩ | ⟨p, xs, rfl, hT, h120, hA, q⟩
  · have q := q H (Same.refl _)
    cases hv with
    | tup h => exact absurd rfl hne
    | int n => exact ⟨_, rfl, _, _, _, _, rfl, .int n, rfl, _, rfl, iteT q⟩
    | bl b => exact ⟨_, rfl, _, _, _, _, rfl, .bl b, rfl, _, rfl, iteT q⟩
    | non => exact ⟨_, rfl, _, _, _, _, rfl, .non, rfl, _, rfl, iteT q⟩
    | str x => exact ⟨_, rfl, _, _, _, _, rfl, .str x, rfl, _, rfl, iteT q⟩
    | lst h => exact ⟨_, rfl, _, _, _, _, rfl, .lst h, rfl, _, rfl, iteT q⟩
    | dct h => exact ⟨_, rfl, _, _, _, _, rfl, .dct h, rfl, _, rfl, iteT q⟩
  refine ⟨_, rfl, _, _, _, _, rfl, .tup hT, rfl, _, rfl, iteF ?_⟩
  refine ⟨_, rfl, p, xs, rfl, .inr hT, rfl, _, rfl, ?_⟩
  cases xs with
  | nil => exact ifY rfl (q H (Same.refl _))
  | cons x0 xs =>
    refine ifN (fun e => by have := V.int.inj e; simp at this; omega) ?_
    dsimp only [tNext]
    refine ⟨_, rfl, p, _, _, _, rfl, rfl, hT, atI_nat (j := 0) rfl, ?_⟩
    obtain ⟨t0, ht0⟩ := hA x0 List.mem_cons_self
    cases ht0 with
    | tup h => exact ⟨_, rfl, _, _, _, _, rfl, .tup h, rfl, _, rfl, iteT (q H (Same.refl _))⟩
    | int n => exact ⟨_, rfl, _, _, _, _, rfl, .int n, rfl, _, rfl, iteT (q H (Same.refl _))⟩
    | bl b => exact ⟨_, rfl, _, _, _, _, rfl, .bl b, rfl, _, rfl, iteT (q H (Same.refl _))⟩
    | non => exact ⟨_, rfl, _, _, _, _, rfl, .non, rfl, _, rfl, iteT (q H (Same.refl _))⟩
    | lst h => exact ⟨_, rfl, _, _, _, _, rfl, .lst h, rfl, _, rfl, iteT (q H (Same.refl _))⟩
    | dct h => exact ⟨_, rfl, _, _, _, _, rfl, .dct h, rfl, _, rfl, iteT (q H (Same.refl _))⟩
    | str x =>
      refine ⟨_, rfl, _, _, _, _, rfl, .str x, rfl, _, rfl, iteF ?_⟩
      refine ⟨_, rfl, d_SIGNS, signsL.map V.str, rfl, .inr (signs_tup c_SIGNS H), rfl, flat_strs _, _, rfl, ?_⟩
      show if (!inV (.str x) (signsL.map V.str)) = true then _ else _
      rw [inV_strs]
      by_cases hs : x ∈ signsL
      · refine ifNn hs ?_
        dsimp only [tNext]
        refine ⟨_, rfl, x, rfl, fun v H1 s1 ⟨p2, hv2, h2⟩ => ?_⟩
        subst hv2
        refine ⟨_, rfl, p, _, rfl, .inr (s1.tup hT), _, rfl, p2, _, rfl, .inr h2, _, _, rfl, rfl, rfl, _, rfl, ?_⟩
        have qr : rowB (.str x :: xs) = (decide (x ∈ signsL) && (decide (xs.length = (wantsL x).length) && ((wantsL x).zip xs).all fun p => fitsB p.1 p.2)) := rfl
        rw [decide_eq_true hs, Bool.true_and] at qr
        by_cases hl : xs.length = (wantsL x).length
        · rw [decide_eq_true hl, Bool.true_and] at qr
          refine ifNn (by rw [List.length_cons, List.length_map, hl]; rfl) ?_
          dsimp only [tNext]
          refine ⟨_, rfl, _, rfl, _, rfl, p, _, rfl, s1.tup hT, fun c H2 s2 hc => ?_⟩
          rw [cut_one] at hc
          refine ⟨p2, c, _, _, rfl, s2.tup h2, hc, fun D hD => ?_⟩
          have S2 := s1.trans s2
          refine lc_zip xs.length (fun i zs H3 => Same H2 H3 ∧ H3 D = some (.lst zs) ∧ zs = ((List.zipWith fitsB (wantsL x) xs).take i).map V.bl) (Nat.le_of_lt (small1000 (by simp at h120; omega))) (by rw [List.length_map]; omega) (Nat.le_refl _) (.inr (Nat.le_refl _)) ⟨same_new hD _, upd_same, rfl⟩ ?_ ?_ ?_
          · rintro i zs H3 hi ⟨s3, d3, rfl⟩
            exact ⟨d3, by rw [List.length_map, List.length_take]; omega, s3.tup (s2.tup h2), s3.tup hc⟩
          · rintro i u v zs H3 T hu hv hi ⟨s3, d3, rfl⟩ hTn
            rw [List.getElem?_map] at hu
            cases eu : (wantsL x)[i]? with
            | none => rw [eu] at hu; cases hu
            | some wt =>
              rw [eu] at hu
              cases hu
              have sT := same_new hTn (.tup [.str wt, v])
              obtain ⟨tv, htv⟩ := hA v (List.mem_cons_of_mem _ (List.mem_of_getElem? hv))
              refine ⟨T, _, rfl, SqT.of upd_same, rfl, _, _, rfl, _, _, rfl, rfl, rfl, ?_⟩
              refine ⟨_, rfl, _, rfl, wt, v, tv, rfl, htv.same (S2.trans (s3.trans sT)), wants_known x wt (List.mem_of_getElem? eu), ?_⟩
              refine ⟨sT _ _ d3, fun b ob e => ?_, upd_same, ?_⟩
              · rw [upd_ne (ne_of_none e hD)]
                exact sT b ob (s3 b ob e)
              · have hz : (List.zipWith fitsB (wantsL x) xs)[i]? = some (fitsB wt v) := by rw [List.getElem?_zipWith, eu, hv]
                obtain ⟨hlt, hz'⟩ := List.getElem?_eq_some_iff.mp hz
                rw [List.take_succ_eq_append_getElem hlt, List.map_append, hz']
                rfl
          · rintro zs H3 ⟨s3, d3, rfl⟩
            have e : (List.zipWith fitsB (wantsL x) xs).take xs.length = List.zipWith fitsB (wantsL x) xs := List.take_of_length_le (by rw [List.length_zipWith]; omega)
            rw [e] at d3
            refine ⟨D, _, rfl, SqL.of d3, ?_⟩
            have z := q H3 (S2.trans s3)
            rw [qr, all_zip] at z
            exact z
        · rw [decide_eq_false hl, Bool.false_and] at qr
          refine ifYn (fun z => hl ?_) ?_
          · have := V.int.inj z
            rw [List.length_cons, List.length_map] at this
            omega
          · have z := q H1 s1
            rw [qr] at z
            exact z
      · refine ifYn hs ?_
        have z := q H (Same.refl _)
        have qr : rowB (.str x :: xs) = (decide (x ∈ signsL) && (decide (xs.length = (wantsL x).length) && ((wantsL x).zip xs).all fun p => fitsB p.1 p.2)) := rfl
        rw [decide_eq_false hs, Bool.false_and] at qr
        rw [qr] at z
        exact z
theorem sc_number_of : FnScope ["word", "figures"] ["word"] (defScope s_number_of) := ⟨rfl, rfl, rfl, by decide +kernel, rfl, by decide +kernel, by decide +kernel⟩
theorem ok_number_of {f : Addr} {fd : FuncData} (F : Fun K "number_of" "number_of" s_number_of f fd) (z_all : mg "all" = none) (z_int : mg "int" = none) (z_len : mg "len" = none) {t_FIGURES : Tok} (g_FIGURES : mg "FIGURES" = some (.str "0123456789" t_FIGURES)) (r_FIGURES : RelV (.str "0123456789") (.str "0123456789" t_FIGURES)) {t_MOST_FIGURES : Tok} (g_MOST_FIGURES : mg "MOST_FIGURES" = some (.int 10 t_MOST_FIGURES)) (r_MOST_FIGURES : RelV (.int 10) (.int 10 t_MOST_FIGURES)) : FnOk P w K mg base CX0 1 f fd ["word"] (sp_number_of K) := by
  refine F.ok sc_number_of (fun vs H Q E h => ?_) (fun cdv A outer s H vs Q E hr h => ?_)
  · obtain ⟨w, rfl, h0, hl, ha, q⟩ := h
    rfl
  obtain ⟨w, rfl, h0, hl, ha, q⟩ := h
  refine ⟨_, (pss_cons (ps_if (pt_cmpR op_eq (pv 0) pe_str (nomark _)) (pss_one (ps_ret pe_int)) pss_nil)
      (pss_cons (ps_set (i := 1) sc_number_of.nd rfl (Or.inl rfl) (pe_ifExp (pt_val (pe_bm PySem.F.plainAttrs_str PySem.F.slot_str_startswith PySem.F.type_str_startswith mt_starts (pv 0) (pa_cons pe_str pa_nil))) (pe_slice sl_txt (pv 0) (po_some pe_int) po_none) (pv 0)))
      (pss_cons (ps_if (PW.pt (pw_or (pt_cmpR op_lt (pe_callB call_len_str rfl z_len bt_len (pa_cons (pv 1) pa_nil)) pe_int (nomark _)) (pw_or (pt_cmpR op_gt (pe_callB call_len_str rfl z_len bt_len (pa_cons (pv 1) pa_nil)) (pe_glob rfl g_MOST_FIGURES r_MOST_FIGURES) (nomark _)) (pw_or1 (pt_cmpR op_eq (pe_ix ix_str (pv 1) pe_int (fun _ _ => rfl)) pe_str (nomark _)))))) (pss_one (ps_ret pe_non)) pss_nil)
      (pss_cons (ps_if (pt_not (pt_val (pe_callB (call_all rfl) rfl z_all bt_all (pa_cons (pe_lc 1 ["figure"] [] ⟨rfl, rfl, rfl, rfl, rfl, rfl, rfl, rfl⟩ (pi_txt (pv 1)) (fun _ _ _ _ => ⟨(pg_name (i := 0) (show List.Nodup (["figure"] : List Str) by decide +kernel) rfl (Or.inl rfl)), pif_nil, (pe_cmpR op_in_str (pv 0) (pe_glob rfl g_FIGURES r_FIGURES) rfl)⟩)) pa_nil)))) (pss_one (ps_ret pe_non)) pss_nil)
      (pss_one (ps_ret (pe_callTy call_int_txt rfl z_int bt_int (pa_cons (pv 0) pa_nil)))))))), ?_⟩
  obtain ⟨c0, l0, rfl⟩ : ∃ c l, w = c :: l := by
    cases w with
    | nil => exact absurd rfl h0
    | cons c l => exact ⟨c, l, rfl⟩
  have wl : (toS (c0 :: l0)).length = l0.length + 1 := by rw [len_sgs]; rfl
  have hl' : l0.length + 1 ≤ 200 := hl
  by_cases h48 : c0 :: l0 = [48]
  · refine ⟨_, rfl, rfl, _, rfl, stepS (fun _ => ?_) (fun z => absurd (by rw [h48]; decide +kernel) z)⟩
    have := q H (Same.refl _)
    rw [show numV (c0 :: l0) = .int 0 by rw [h48]; decide +kernel] at this
    exact this
  refine ⟨_, rfl, rfl, _, rfl, stepS (fun z => absurd ((congrArg sgs z).trans (by decide +kernel)) h48) (fun _ => ?_)⟩
  dsimp only [tNext]
  obtain ⟨d, hd⟩ : ∃ d, d = if (c0 :: l0).head? = some 45 then (c0 :: l0).tail else c0 :: l0 := ⟨_, rfl⟩
  have dl : d.length ≤ l0.length + 1 := by
    rw [hd]
    split
    · exact Nat.le_succ _
    · exact Nat.le_refl _
  have da : ∀ c ∈ d, c < 128 := by
    rw [hd]
    intro c hc
    split at hc
    · exact ha c (List.mem_cons_of_mem _ hc)
    · exact ha c hc
  have nb := num_by hd h48
  refine cutR (R := ?R) (fun σ' H' => H' = H ∧ σ' = [some (.str (toS (c0 :: l0))), some (.str (toS d))]) (fun kk => ?mm) ?kk
  case mm =>
    refine ⟨_, rfl, rfl, _, _, rfl, rfl, ?_⟩
    rw [starts_cons (show sgs (toS (c0 :: l0)) = c0 :: l0 from rfl)]
    refine ⟨_, rfl, ite2 (fun z => ?_) (fun z => ?_)⟩
    · have z' : c0 = 45 := of_decide_eq_true z
      refine ⟨_, rfl, _, rfl, _, 1, rfl, rfl, rfl, few_sizeLine (by omega), ?_⟩
      have e : Txt.slice (toS (c0 :: l0)) (some 1) none = toS d := by
        rw [hd, if_pos (by rw [z']; rfl)]
        exact sgs_inj (slice_cons rfl)
      rw [e]
      dsimp only [gName]
      exact kk _ _ ⟨rfl, rfl⟩
    · have z' : ¬ c0 = 45 := fun y => z (decide_eq_true y)
      have e : toS (c0 :: l0) = toS d := by rw [hd, if_neg (by simp [z'])]
      refine ⟨_, rfl, ?_⟩
      dsimp only [gName]
      refine kk _ _ ⟨rfl, ?_⟩
      rw [← e]
      rfl
  rintro σ' H1 ⟨rfl, rfl⟩
  have tl : (toS d).length = d.length := by rw [len_sgs]; rfl
  refine ⟨_, rfl, toS d, rfl, few_sizeLine (by omega), _, _, rfl, rfl, _, rfl, ?_⟩
  by_cases c1 : ((toS d).length : Int) < 1
  · refine ifY c1 ?_
    have := q H1 (Same.refl _)
    rw [nb, if_neg (figs_no (by omega))] at this
    exact this
  refine ifN c1 ?_
  refine ⟨_, rfl, toS d, rfl, few_sizeLine (by omega), _, _, rfl, rfl, _, rfl, ?_⟩
  by_cases c2 : (10 : Int) < ((toS d).length : Int)
  · refine ifY c2 ?_
    have := q H1 (Same.refl _)
    rw [nb, if_neg (figs_no (by omega))] at this
    exact this
  refine ifN c2 ?_
  obtain ⟨c, l, ed⟩ : ∃ c l, d = c :: l := by
    cases d with
    | nil => exact absurd (show ((toS []).length : Int) < 1 by decide) c1
    | cons c l => exact ⟨c, l, rfl⟩
  refine ⟨_, rfl, toS d, 0, c, rfl, rfl, few_sizeLine (by omega), atI_nat (j := 0) (by rw [show (toS d).cps.toList = c :: l from ed]; rfl), rfl, _, rfl, ?_⟩
  rw [zero_one (d := d) c (by rw [ed]; rfl)]
  by_cases c3 : d.head? = some 48
  · rw [decide_eq_true c3]
    refine iteT ?_
    have := q H1 (Same.refl _)
    rw [nb, if_neg (figs_no fun z => z.2.2.1 c3)] at this
    exact this
  rw [decide_eq_false c3]
  refine iteF ?_
  dsimp only [tNext]
  refine ⟨_, rfl, toS d, rfl, ascii_of da, fun D hD => ?_⟩
  refine lc_txt (fun i ys H2 => Same H1 H2 ∧ H2 D = some (.lst ys) ∧ ys = ((d.take i).map dgt).map V.bl) (few_sizeLine (by show (toS d).length ≤ _; omega)) ⟨same_new hD _, upd_same, rfl⟩ ?_ ?_ ?_
  · rintro i ys H2 ⟨s2, g, rfl⟩
    exact ⟨g, by simp; omega⟩
  · rintro i k ys H2 hk ⟨s2, g, rfl⟩
    have hk' : d[i]? = some k := by
      rw [← Array.getElem?_toList] at hk
      exact hk
    refine ⟨rfl, _, rfl, _, _, rfl, rfl, g, Same_upd s2 hD _, upd_same, ?_⟩
    rw [one_inB, List.take_add_one, hk', List.map_append, List.map_append]
    rfl
  · rintro ys H2 ⟨s2, g, rfl⟩
    refine ⟨D, _, rfl, SqL.of g, ?_⟩
    rw [List.take_of_length_le (by show d.length ≤ (toS d).length; omega)]
    have ea : (d.map dgt).all id = d.all dgt := by rw [List.all_map]; rfl
    rw [ea]
    by_cases c4 : d.all dgt = true
    · rw [c4]
      refine ⟨_, rfl, iteF ?_⟩
      dsimp only [tNext]
      have hf := figs_yes (d := d) ⟨by omega, by omega, c3, c4⟩
      have z := q H2 s2
      rw [nb, if_pos hf] at z
      have hD' : PySem.NumText.AllDigits d := fun k hk => by
        have y := List.all_eq_true.mp c4 k hk
        unfold dgt at y
        simp only [Bool.and_eq_true, decide_eq_true_eq] at y
        exact y
      have dn : d ≠ [] := by rw [ed]; intro y; cases y
      refine ⟨_, rfl, toS (c0 :: l0), _, rfl, ?_, by omega, z⟩
      by_cases h45 : (c0 :: l0).head? = some 45
      · rw [if_pos h45] at hd ⊢
        have e0 : c0 = 45 := Option.some.inj h45
        refine PySem.intText_neg ?_ hD' dn (by omega)
        rw [hd, e0]
        rfl
      · rw [if_neg h45] at hd ⊢
        rw [← hd]
        exact PySem.intText_digits (x := toS d) hD' dn (by omega)
    · rw [Bool.eq_false_iff.mpr c4]
      refine ⟨_, rfl, iteT ?_⟩
      have z := q H2 s2
      rw [nb, if_neg (figs_no fun y => c4 y.2.2.2)] at z
      exact z
theorem sc_words_of : FnScope ["line", "kept"] ["line"] (defScope s_words_of) := ⟨rfl, rfl, rfl, by decide +kernel, rfl, by decide +kernel, by decide +kernel⟩
theorem ok_words_of {f : Addr} {fd : FuncData} (F : Fun K "words_of" "words_of" s_words_of f fd) : FnOk P w K mg base CX0 1 f fd ["line"] (sp_words_of K) := by
  refine F.ok sc_words_of (fun vs H Q E h => ?_) (fun cdv A outer s H vs Q E hr h => ?_)
  · obtain ⟨x, rfl, hl, q⟩ := h
    rfl
  obtain ⟨x, rfl, hl, q⟩ := h
  refine ⟨_, (pss_cons (ps_set (i := 1) sc_words_of.nd rfl (Or.inl rfl) (pe_ix ix_tup (pe_bm PySem.F.plainAttrs_str PySem.F.slot_str_partition PySem.F.type_str_partition mt_part (pv 0) (pa_cons pe_str pa_nil)) pe_int (fun _ _ => rfl)))
      (pss_one (ps_ret (pe_lc 1 ["word"] [] ⟨rfl, rfl, rfl, rfl, rfl, rfl, rfl, rfl⟩ (pi_list (pe_bm PySem.F.plainAttrs_str PySem.F.slot_str_split PySem.F.type_str_split mt_split (pv 1) (pa_cons pe_str pa_nil))) (fun _ _ _ _ => ⟨(pg_name (i := 0) (show List.Nodup (["word"] : List Str) by decide +kernel) rfl (Or.inl rfl)), (pif_one (pt_cmpR op_ne (pv 0) pe_str (nomark _))), (pv 0)⟩))))), ?_⟩
  refine ⟨_, rfl, rfl, x, "#", rfl, rfl, by decide +kernel, few_sizeLine (by omega), fun t a b ht => ?_⟩
  have s1 := same_new ht (.tup [.str (keptS x "#"), .str a, .str b])
  have g1 := upd_same (H := H) (a := t) (o := .tup [.str (keptS x "#"), .str a, .str b])
  generalize upd H t _ = H1 at s1 g1 ⊢
  refine ⟨t, _, _, _, rfl, rfl, SqT.of g1, atI_nat (j := 0) rfl, ?_⟩
  have kl := kept_len x
  have kw := words_wd x
  generalize keptS x "#" = y at kl kw g1 s1 ⊢
  have pf := parts_few (x := y) (y := " ") (by omega)
  have pl := PyProof.Rows.split_le y " "
  refine ⟨_, rfl, rfl, y, " ", rfl, rfl, by decide +kernel, few_sizeLine (by omega), pf.1, pf.2, fun l hL => ?_⟩
  have s2 := same_new hL (.lst ((Txt.split y " ").map V.str))
  have g2 := upd_same (H := H1) (a := l) (o := .lst ((Txt.split y " ").map V.str))
  generalize upd H1 l _ = H2 at s2 g2 ⊢
  have S2 := s1.trans s2
  refine ⟨l, rfl, ⟨_, SqL.of g2⟩, fun D hD => ?_⟩
  have hDH := fresh_of S2 hD
  refine lc_list (xs := (Txt.split y " ").map V.str) (fun i ys H3 => Same H2 H3 ∧ H3 D = some (.lst ys) ∧ ys = (((Txt.split y " ").take i).filter full).map V.str) (by rw [List.length_map]; exact pf.2) ⟨same_new hD _, upd_same, rfl⟩ ?_ ?_ ?_
  · rintro i ys H3 hi ⟨s3, g3, rfl⟩
    refine ⟨g3, ?_, s3.seq (SqL.of g2)⟩
    rw [List.length_map]
    refine Nat.le_trans (List.length_filter_le _ _) ?_
    rw [List.length_take]
    omega
  · rintro i v ys H3 hy ⟨s3, g3, rfl⟩
    rw [List.getElem?_map] at hy
    cases e : (Txt.split y " ")[i]? with
    | none => rw [e] at hy; cases hy
    | some w =>
      rw [e] at hy
      cases hy
      have et : (Txt.split y " ").take (i + 1) = (Txt.split y " ").take i ++ [w] := by rw [List.take_add_one, e]; rfl
      refine ⟨rfl, _, rfl, rfl, _, rfl, ?_⟩
      by_cases z : w = Str.ofString ""
      · refine ifNn (congrArg V.str z) ?_
        refine ⟨s3, g3, ?_⟩
        rw [et, List.filter_append, show [w].filter full = [] from by rw [z]; decide +kernel, List.append_nil]
      · refine ifYn (fun y => z (V.str.inj y)) ?_
        refine ⟨_, rfl, g3, Same_upd s3 hD _, upd_same, ?_⟩
        rw [et, List.filter_append, List.filter_cons, if_pos (show full w = true from decide_eq_true z), List.map_append]
        rfl
  · rintro ys H3 ⟨s3, g3, rfl⟩
    rw [List.length_map, List.take_length, kw] at g3
    exact q D H3 (S2.trans s3) hDH g3
theorem sc_read : FnScope ["text", "rows", "at", "line", "words", "row"] ["text"] (defScope s_read) := ⟨rfl, rfl, rfl, by decide +kernel, rfl, by decide +kernel, by decide +kernel⟩
theorem ok_read {f : Addr} {fd : FuncData} (F : Fun K "read" "read" s_read f fd) (z_enumerate : mg "enumerate" = none) (z_len : mg "len" = none) (z_tuple : mg "tuple" = none) {C_NoRow : Addr} (g_NoRow : mg "NoRow" = some (.ref C_NoRow)) (w_NoRow : PySem.W.ktsIn K C_NoRow "BaseException" = true) (m_NoRow : NewX P w K mg base C_NoRow ["at"]) (h_is_row : Has P w K mg base CX0 "is_row" 3 ["thing"] (sp_is_row K)) (h_number_of : Has P w K mg base CX0 "number_of" 1 ["word"] (sp_number_of K)) (h_words_of : Has P w K mg base CX0 "words_of" 1 ["line"] (sp_words_of K)) : FnOk P w K mg base (CX2 P w) 4 f fd ["text"] (sp_read K mg) := by
  refine F.okF sc_read (fun vs H Q E h => ?_) (fun cdv A outer s H vs Q E hr h => ?_)
  · obtain ⟨x, ls, ks, rfl, hx, hxl, hls, hfew, hkn, hq⟩ := h
    rfl
  obtain ⟨x, ls, ks, rfl, hx, hxl, hls, hfew, hkn, hq⟩ := h
  refine ⟨_, (pss_cons (ps_set (i := 1) sc_read.nd rfl (Or.inl rfl) (pe_lst pa_nil))
      (pss_cons (ps_for PassesOwn.leaving rfl (pi_enum rfl z_enumerate (pa_cons (pe_bm PySem.F.plainAttrs_str PySem.F.slot_str_split PySem.F.type_str_split mt_split (pv 0) (pa_cons pe_str pa_nil)) pa_nil)) (pg_tup rfl (pgs_cons (pg_name (i := 2) sc_read.nd rfl (Or.inl rfl)) (pgs_cons (pg_name (i := 3) sc_read.nd rfl (Or.inl rfl)) pgs_nil))) (pss_cons (ps_set (i := 4) sc_read.nd rfl (Or.inl rfl) (pe_ch h_words_of (hr.mono (by decide)) rfl (pa_cons (pv 3) pa_nil)))
      (pss_one (ps_if (pt_cmpR op_gt (pe_callB call_len_seq rfl z_len bt_len (pa_cons (pv 4) pa_nil)) pe_int (nomark _)) (pss_cons (ps_set (i := 5) sc_read.nd rfl (Or.inl rfl) (pe_op op_catT (pe_tup (pa_cons (pe_ix ix_list (pv 4) pe_int (fun _ _ => rfl)) pa_nil)) (pe_callTy call_tuple_of rfl z_tuple bt_tuple (pa_cons (pe_lc 1 ["word"] [] ⟨rfl, rfl, rfl, rfl, rfl, rfl, rfl, rfl⟩ (pi_list (pe_slice sl_list (pv 4) (po_some pe_int) po_none)) (fun _ _ _ _ => ⟨(pg_name (i := 0) (show List.Nodup (["word"] : List Str) by decide +kernel) rfl (Or.inl rfl)), pif_nil, (pe_ch h_number_of (hr.mono (by decide)) rfl (pa_cons (pv 0) pa_nil))⟩)) pa_nil))))
      (pss_cons (ps_if (pt_not (pt_val (pe_ch h_is_row (hr.mono (by decide)) rfl (pa_cons (pv 5) pa_nil)))) (pss_one (ps_raiseF rzF_cx m_NoRow (hr.mono (by decide)) rfl g_NoRow rfl (pa_cons (pv 2) pa_nil))) pss_nil)
      (pss_one (ps_expr (pe_bm PySem.F.plainAttrs_list PySem.F.slot_list_append PySem.F.type_list_append mt_append (pv 1) (pa_cons (pv 5) pa_nil)))))) pss_nil))))
      (pss_one (ps_ret (pv 1))))), ?_⟩
  have pf := parts_few (x := x) (y := "\n") (by omega)
  refine ⟨(by show 0 ≤ sizeLine; decide), fun p hp => ?_⟩
  have s1 := same_new hp (.lst [])
  have g1 := upd_same (H := H) (a := p) (o := .lst [])
  generalize upd H p (.lst []) = H1 at s1 g1 ⊢
  refine ⟨_, rfl, rfl, x, "\n", rfl, rfl, by decide +kernel, few_sizeLine (by omega), pf.1, pf.2, fun l hL => ?_⟩
  rw [hx]
  have s2 := same_new hL (.lst (ls.map V.str))
  have g2 := upd_same (H := H1) (a := l) (o := .lst (ls.map V.str))
  generalize upd H1 l (.lst (ls.map V.str)) = H2 at s2 g2 ⊢
  have hne : l ≠ p := fun e => by rw [e, g1] at hL; cases hL
  have gp2 := s2 _ _ g1
  refine ⟨l, _, rfl, SqL.of g2, ?_⟩
  refine for_enum (xs := ls.map V.str) (fun i σ H3 => ∃ (o2 o3 o4 o5 : Option V) (us : List V), σ = [some (.str x), some (.ref p), o2, o3, o4, o5] ∧ i ≤ ks.length ∧ Same H H3 ∧ H3 l = some (.lst (ls.map V.str)) ∧ H3 p = some (.lst us) ∧ RosAt K H3 us ((ks.take i).filterMap id)) ⟨none, none, none, none, [], rfl, Nat.zero_le _, s1.trans s2, g2, gp2, .nil⟩ ?_ ?_ ?_
  · rintro i σ H3 hi ⟨o2, o3, o4, o5, us, rfl, hik, s3, g3, gp, hR⟩
    exact SqL.of g3
  · rintro i v σ H3 T hv ⟨o2, o3, o4, o5, us, rfl, hik, s3, g3, gp, hR⟩ hT
    have ul : us.length ≤ i := by
      rw [hR.1]
      refine Nat.le_trans (List.length_filterMap_le _ _) ?_
      rw [List.length_take]
      omega
    rw [List.getElem?_map] at hv
    cases e : ls[i]? with
    | none => rw [e] at hv; cases hv
    | some y =>
      rw [e] at hv
      cases hv
      have hil := (List.getElem?_eq_some_iff.mp e).1
      obtain ⟨ya, yl⟩ := hls y (List.mem_of_getElem? e)
      have sT := same_new hT (.tup [.int (i : Int), .str y])
      have gT := upd_same (H := H3) (a := T) (o := .tup [.int (i : Int), .str y])
      generalize upd H3 T _ = H4 at sT gT ⊢
      refine ⟨T, _, rfl, SqT.of gT, rfl, _, _, rfl, _, _, rfl, rfl, ?_⟩
      refine ⟨_, rfl, y, rfl, (by rw [len_sgs]; omega), fun wl H5 s5 n5 g5 => ?_⟩
      have S5 := sT.trans s5
      obtain ⟨wf1, wf2⟩ := wd_few (sgs y) []
      cases ew : wd [] (sgs y) with
      | nil =>
        rw [ew] at g5
        refine ⟨_, rfl, wl, _, rfl, .inl (SqL.of g5), _, _, rfl, rfl, _, rfl, iteF ?_⟩
        refine ⟨_, _, _, _, us, rfl, ?_, s3.trans S5, S5 _ _ g3, S5 _ _ gp, ?_⟩
        · rcases hq with ⟨h1, _⟩ | ⟨l', h1, h2, _⟩
          · omega
          · rcases Nat.lt_or_ge i ks.length with z | z
            · omega
            · have ei : i = ks.length := by omega
              rw [← ei, e] at h1
              cases h1
              rw [ew] at h2
              cases h2
        · have ke : (ks.take (i + 1)).filterMap id = (ks.take i).filterMap id := by
            rw [List.take_add_one]
            cases ek : ks[i]? with
            | none => rw [Option.toList_none, List.append_nil]
            | some k =>
              have kl := hkn.2 i y k e ek
              cases k with
              | none =>
                rw [List.filterMap_append]
                exact List.append_nil _
              | some r =>
                have kl := kl.1
                rw [ew] at kl
                cases kl
          rw [ke]
          exact hR.same S5
      | cons w0 ws =>
        rw [ew] at g5 wf1 wf2
        have wsl : ws.length ≤ 100 := by simp at wf1; omega
        refine ⟨_, rfl, wl, _, rfl, .inl (SqL.of g5), _, _, rfl, rfl, _, rfl, ifY (by show (0 : Int) < (((ws.map toS).map V.str).length + 1 : Nat); omega) ?_⟩
        refine cutR (R := ?R) (fun σ' H' => ∃ t, Same H5 H' ∧ SqT K H' t (rowV (w0 :: ws)) ∧ σ' = [some (.str x), some (.ref p), some (.int (i : Int)), some (.str y), some (.ref wl), some (.ref t)]) (fun kk => ?mm) ?kk
        case mm =>
          refine ⟨_, rfl, wl, _, _, _, rfl, rfl, SqL.of g5, atI_nat (j := 0) rfl, (by show 1 ≤ sizeLine; decide), fun t1 h1' => ?_⟩
          have s6 := same_new h1' (.tup [.str (toS w0)])
          have g6 := upd_same (H := H5) (a := t1) (o := .tup [.str (toS w0)])
          generalize upd H5 t1 _ = H6 at s6 g6 ⊢
          refine ⟨_, rfl, _, rfl, wl, _, rfl, SqL.of (s6 _ _ g5), fun c hc => ?_⟩
          have e7 : cutV (((w0 :: ws).map toS).map V.str) (some 1) none = (ws.map toS).map V.str := cut_one
          rw [e7]
          have s7 := same_new hc (.lst ((ws.map toS).map V.str))
          have g7 := upd_same (H := H6) (a := c) (o := .lst ((ws.map toS).map V.str))
          generalize upd H6 c _ = H7 at s7 g7 ⊢
          refine ⟨c, rfl, ⟨_, SqL.of g7⟩, fun D hD => ?_⟩
          refine lc_list (xs := (ws.map toS).map V.str) (fun j ys H8 => Same H7 H8 ∧ H8 D = some (.lst ys) ∧ ys = (ws.take j).map numV) (few_sizeLine (by simp; omega)) ⟨same_new hD _, upd_same, rfl⟩ ?_ ?_ ?_
          · rintro j ys H8 hj ⟨s8, g8, rfl⟩
            exact ⟨g8, by simp; omega, s8.seq (SqL.of g7)⟩
          · rintro j v ys H8 hy ⟨s8, g8, rfl⟩
            rw [List.getElem?_map, List.getElem?_map] at hy
            cases en : ws[j]? with
            | none => rw [en] at hy; cases hy
            | some n =>
              rw [en] at hy
              cases hy
              obtain ⟨f1, f2, f3⟩ := wf2 n (List.mem_cons_of_mem _ (List.mem_of_getElem? en))
              refine ⟨rfl, _, rfl, n, rfl, f1, (by simp at f2; omega), (fun c hc => ?_), fun H9 s9 => ⟨s9 _ _ g8, Same_upd (s8.trans s9) hD _, upd_same, ?_⟩⟩
              · rcases f3 c hc with z | z
                · simp at z
                · exact ya c z
              · rw [List.take_add_one, en, List.map_append]
                rfl
          · rintro ys H8 ⟨s8, g8, rfl⟩
            rw [List.take_of_length_le (by simp)] at g8
            refine ⟨D, _, rfl, .inl ⟨SqL.of g8, fun t2 h2 => ?_⟩⟩
            have s9 := same_new h2 (.tup (ws.map numV))
            have g9 := upd_same (H := H8) (a := t2) (o := .tup (ws.map numV))
            generalize upd H8 t2 _ = H9 at s9 g9 ⊢
            have S9 := s7.trans (s8.trans s9)
            refine ⟨t1, t2, [.str (toS w0)], _, rfl, rfl, SqT.of (S9 _ _ g6), SqT.of g9, by simp, few_sizeLine (by simp; omega), fun z => ?_, fun z t3 h3 => ?_⟩
            · have e0 : rowV (w0 :: ws) = [.str (toS w0)] := by show V.str (toS w0) :: ws.map numV = _; rw [z]
              dsimp only [gName]
              exact kk _ _ ⟨t1, s6.trans S9, by rw [e0]; exact SqT.of (S9 _ _ g6), rfl⟩
            · dsimp only [gName]
              exact kk _ _ ⟨t3, s6.trans (S9.trans (same_new h3 _)), SqT.of upd_same, rfl⟩
        rintro σ' H6 ⟨t, s6, hT6, rfl⟩
        refine ⟨_, rfl, .ref t, "tuple", rfl, .tup hT6, .inr ⟨t, _, rfl, hT6, by show (ws.map numV).length + 1 ≤ 120; rw [List.length_map]; omega, ty_nums _ _, fun H7 s7 => ?_⟩⟩
        have S7 := S5.trans (s6.trans s7)
        rcases Nat.lt_or_ge i ks.length with z | z
        · have ek := List.getElem?_eq_getElem z
          have kl := hkn.2 i y _ e ek
          generalize ks[i] = k at ek kl
          cases k with
          | none => rw [show wd [] (sgs y) = [] from kl] at ew; cases ew
          | some r =>
            obtain ⟨k1, k2⟩ := kl
            have er : rowV (w0 :: ws) = roV r := by rw [← ew, k1]; exact row_of k2
            rw [er] at hT6 ⊢
            rw [row_true k2]
            refine ⟨_, rfl, iteF ?_⟩
            dsimp only [tNext]
            have gp7 := S7 _ _ gp
            refine ⟨_, rfl, .inl ⟨rfl, _, SqL.of gp7⟩, _, rfl, p, _, _, rfl, rfl, gp7, small1000 (by omega), ?_⟩
            refine ⟨_, _, _, _, us ++ [.ref t], rfl, z, Same_upd (s3.trans S7) hp _, ?_, upd_same, ?_⟩
            · rw [upd_ne hne]
              exact S7 _ _ g3
            · have ke : (ks.take (i + 1)).filterMap id = (ks.take i).filterMap id ++ [r] := by
                rw [List.take_add_one, ek, List.filterMap_append]
                rfl
              rw [ke]
              exact (RosAt.snoc (hR.same S7) (s7.tup hT6)).updL gp7
        · have ei : i = ks.length := by omega
          rcases hq with ⟨h1, _⟩ | ⟨l', h1, h2, hE⟩
          · omega
          · rw [← ei, e] at h1
            cases h1
            rw [ew] at h2
            have h2 : (!rowB (rowV (w0 :: ws))) = true := h2
            rw [show rowB (rowV (w0 :: ws)) = false by rw [← Bool.not_eq_true']; exact h2]
            refine ⟨_, rfl, iteT ?_⟩
            refine ⟨_, rfl, rfl, fun dx H8 hd s8 hdx => ?_⟩
            have S8 := s3.trans (S7.trans s8)
            rw [← ei] at hE
            exact hE _ dx H8 g_NoRow S8 (fresh_of (s3.trans S7) hd) hdx
  · rintro σ H3 ⟨o2, o3, o4, o5, us, rfl, hik, s3, g3, gp, hR⟩
    rw [List.length_map] at hik hR
    rcases hq with ⟨h1, q⟩ | ⟨l', h1, h2, _⟩
    · refine ⟨_, rfl, q p us H3 s3 hp gp ?_⟩
      rw [List.take_of_length_le (by omega)] at hR
      exact hR
    · have := (List.getElem?_eq_some_iff.mp h1).1
      omega
theorem sc__law_told : FnScope ["_law_text", "_law_caught", "e"] ["_law_text"] (defScope s_law_told) := ⟨rfl, rfl, rfl, by decide +kernel, rfl, by decide +kernel, by decide +kernel⟩
theorem ok__law_told {f : Addr} {fd : FuncData} (F : Fun K "_law_told" "_law_told" s_law_told f fd) (z_ValueError : mg "ValueError" = none) (z_bool : mg "bool" = none) (z_isinstance : mg "isinstance" = none) {C_NoCode : Addr} (g_NoCode : mg "NoCode" = some (.ref C_NoCode)) (w_NoCode : PySem.W.ktsIn K C_NoCode "BaseException" = true) {C_NoRow : Addr} (g_NoRow : mg "NoRow" = some (.ref C_NoRow)) (w_NoRow : PySem.W.ktsIn K C_NoRow "BaseException" = true) {C_Nought : Addr} (g_Nought : mg "Nought" = some (.ref C_Nought)) (e_Nought : PySem.W.excIn K C_Nought bmVE "ValueError.__new__" = true) (w_Nought : PySem.W.ktsIn K C_Nought "BaseException" = true) {C_WardenError : Addr} (g_WardenError : mg "WardenError" = some (.ref C_WardenError)) (e_WardenError : PySem.W.excIn K C_WardenError bmVE "ValueError.__new__" = true) (w_WardenError : PySem.W.ktsIn K C_WardenError "BaseException" = true) (h_read : Has P w K mg base (CX2 P w) "read" 4 ["text"] (sp_read K mg)) (kx1_NoRow : PySem.W.findIn K (.ref C_NoRow) "__getattribute__" = some (some (.builtin "BaseException.__getattribute__"))) (kx2_NoRow : PySem.W.findIn K (.ref C_NoRow) "__getattr__" = some none) (kx3_NoRow : PySem.W.findIn K (.ref C_NoRow) "__class__" = some (some (.builtin "object.__class__"))) (kx4_NoRow : PySem.W.mroIn K C_NoRow (.type "BaseException") = some true) (kx5_NoRow : PySem.W.mroIn K C_NoRow (.type "object") = some true) (kx6_NoRow : PySem.W.hasDictIn K C_NoRow = true) (m_RW : PySem.W.mroIn K C_NoRow (.ref C_WardenError) = some true) (na_NoRow : PySem.W.findIn K (.ref C_NoRow) "at" = some none) (i_RR : PySem.W.kitOne K (.ref C_NoRow) (.ref C_NoRow) = some true) (i_RV : PySem.W.kitOne K (.ref C_NoRow) (.type "ValueError") = some true) (i_RC : PySem.W.kitOne K (.ref C_NoRow) (.ref C_NoCode) = some false) (i_RN : PySem.W.kitOne K (.ref C_NoRow) (.ref C_Nought) = some false) : FnOk P w K mg base CX0 5 f fd ["_law_text"] (sp_law_told K) := by
  refine F.ok sc__law_told (fun vs H Q E h => ?_) (fun cdv A outer s H vs Q E hr h => ?_)
  · obtain ⟨x, ls, ks, l, rfl, hx, hxl, hls, hfew, hkn, hl, hb, q⟩ := h
    rfl
  obtain ⟨x, ls, ks, l, rfl, hx, hxl, hls, hfew, hkn, hl, hb, q⟩ := h
  refine ⟨_, (pss_cons (ps_set (i := 1) sc__law_told.nd rfl (Or.inl rfl) pe_non)
      (pss_cons (ps_tryF (i := 2) h_read (hr.mono (by decide)) rfl (fun _ => (pa_cons (pv 0) pa_nil)) rfl g_WardenError w_WardenError sc__law_told.nd rfl rfl (fun _ _ => (pss_one (ps_set (i := 1) sc__law_told.nd rfl (Or.inl rfl) (pv 2)))))
      (pss_cons (ps_if (PW.pt (pw_or (pt_not (pt_val (pe_callB call_isiG rfl z_isinstance bt_isinstance (pa_cons (pv 1) (pa_cons (pe_glob (v := .ref C_NoRow) rfl g_NoRow rfl) pa_nil))))) (pw_or1 (pt_not (pt_val (pe_callB call_isiG rfl z_isinstance bt_isinstance (pa_cons (pv 1) (pa_cons (pe_bltn (v := .ty "ValueError") rfl z_ValueError bt_ValueError rfl) pa_nil)))))))) (pss_one (ps_ret pe_non)) pss_nil)
      (pss_cons (ps_if (PW.pt (pw_or (pt_val (pe_callB call_isiG rfl z_isinstance bt_isinstance (pa_cons (pv 1) (pa_cons (pe_glob (v := .ref C_NoCode) rfl g_NoCode rfl) pa_nil)))) (pw_or (pt_val (pe_callB call_isiG rfl z_isinstance bt_isinstance (pa_cons (pv 1) (pa_cons (pe_glob (v := .ref C_Nought) rfl g_Nought rfl) pa_nil)))) (pw_or1 (pt_val (pe_callB call_isi rfl z_isinstance bt_isinstance (pa_cons (pe_xf (pv 1) rfl) (pa_cons (pe_bltn (v := .ty "bool") rfl z_bool bt_bool rfl) pa_nil)))))))) (pss_one (ps_ret pe_non)) pss_nil)
      (pss_one (ps_ret (pe_tup (pa_cons pe_str (pa_cons (pe_xf (pv 1) rfl) pa_nil))))))))), ?_⟩
  have kx : KX K C_NoRow := ⟨kx1_NoRow, kx2_NoRow, kx3_NoRow, kx4_NoRow, kx5_NoRow⟩
  refine ⟨_, rfl, x, ls, ks, rfl, hx, hxl, hls, hfew, hkn, .inr ⟨l, hl, hb, fun C dx H1 hC s1 hdx gd => ?_⟩⟩
  rw [g_NoRow] at hC
  cases hC
  refine ⟨C_NoRow, rfl, m_RW, fun e he => ?_⟩
  have s2 := same_new he (.ext (XcD C_NoRow e (some dx)))
  have g2 := upd_same (H := H1) (a := e) (o := .ext (XcD C_NoRow e (some dx)))
  generalize upd H1 e _ = H2 at s2 g2 ⊢
  have gd2 := s2 _ _ gd
  refine ⟨_, rfl, ?_⟩
  refine ⟨_, rfl, e, C_NoRow, _, .ref C_NoRow, _, _, rfl, g2, xcd_exc, kx, kx6_NoRow, rfl, i_RR, ?_⟩
  refine ⟨_, rfl, iteF ?_⟩
  refine ⟨_, rfl, e, C_NoRow, _, .type "ValueError", _, _, rfl, g2, xcd_exc, kx, kx6_NoRow, rfl, i_RV, ?_⟩
  refine ⟨_, rfl, iteF ?_⟩
  dsimp only [tNext]
  refine ⟨_, rfl, e, C_NoRow, _, .ref C_NoCode, _, _, rfl, g2, xcd_exc, kx, kx6_NoRow, rfl, i_RC, ?_⟩
  refine ⟨_, rfl, iteF ?_⟩
  refine ⟨_, rfl, e, C_NoRow, _, .ref C_Nought, _, _, rfl, g2, xcd_exc, kx, kx6_NoRow, rfl, i_RN, ?_⟩
  refine ⟨_, rfl, iteF ?_⟩
  refine ⟨_, rfl, e, C_NoRow, dx, _, _, _, rfl, g2, xcd_xg, gd2, kx, kx6_NoRow, na_NoRow, rfl, ?_⟩
  refine ⟨_, _, _, _, rfl, .int _, rfl, _, rfl, iteF ?_⟩
  dsimp only [tNext]
  refine ⟨_, rfl, e, C_NoRow, dx, _, _, _, rfl, g2, xcd_xg, gd2, kx, kx6_NoRow, na_NoRow, rfl, ?_⟩
  refine ⟨(by show 2 ≤ sizeLine; decide), fun t ht => ?_⟩
  exact q t _ (s1.trans (s2.trans (same_new ht _))) (SqT.of upd_same)
theorem sc__law_beside : FnScope ["_law_cell_here", "_law_sign", "_law_far"] ["_law_cell_here"] (defScope s_law_beside) := ⟨rfl, rfl, rfl, by decide +kernel, rfl, by decide +kernel, by decide +kernel⟩
theorem ok__law_beside {f : Addr} {fd : FuncData} (F : Fun K "_law_beside" "_law_beside" s_law_beside f fd) (z_str : mg "str" = none) (h__law_signs : Has P w K mg base CX0 "_law_signs" 1 [] (sp_law_signs K)) : FnOk P w K mg base CX0 2 f fd ["_law_cell_here"] (sp_law_beside K) := by
  refine F.ok sc__law_beside (fun vs H Q E h => ?_) (fun cdv A outer s H vs Q E hr h => ?_)
  · obtain ⟨c, rfl, q⟩ := h
    rfl
  obtain ⟨c, rfl, q⟩ := h
  refine ⟨_, (pss_cons (ps_set (i := 1) sc__law_beside.nd rfl (Or.inl rfl) (pe_ix ix_list (pe_ch0 h__law_signs (hr.mono (by decide)) rfl) (pe_op op_mod (pv 0) pe_int) (fun _ _ => rfl)))
      (pss_cons (ps_set (i := 2) sc__law_beside.nd rfl (Or.inl rfl) (pe_op op_mod (pe_op op_fdiv (pv 0) pe_int) pe_int))
      (pss_cons (ps_if (pt_cmpR op_eq (pv 1) pe_str (nomark _)) (pss_one (ps_ret (pe_op op_add_str (pe_op op_add_str (pv 1) pe_str) (pe_callTy call_str_int rfl z_str bt_str (pa_cons (pe_ix ix_list (pe_lst (pa_cons (pe_op op_add pe_int (pv 2)) (pa_cons (pe_op op_sub (pe_op op_sub pe_int pe_int) (pv 2)) pa_nil))) (pe_op op_mod (pv 0) pe_int) (fun _ _ => rfl)) pa_nil))))) pss_nil)
      (pss_cons (ps_if (pt_cmpR op_in_seq (pv 1) (pe_tup (pa_cons pe_str (pa_cons pe_str pa_nil))) rfl) (pss_one (ps_ret (pe_op op_add_str (pe_op op_add_str (pv 1) pe_str) (pe_callTy call_str_int rfl z_str bt_str (pa_cons (pe_ix ix_list (pe_lst (pa_cons (pe_op op_add pe_int (pv 2)) (pa_cons (pe_op op_sub (pe_un un_neg pe_int) (pv 2)) pa_nil))) (pe_op op_mod (pe_op op_fdiv (pv 0) pe_int) pe_int) (fun _ _ => rfl)) pa_nil))))) pss_nil)
      (pss_cons (ps_if (pt_cmpR op_eq (pv 1) pe_str (nomark _)) (pss_one (ps_ret (pe_op op_add_str (pv 1) (pe_ix ix_list (pe_lst (pa_cons pe_str (pa_cons pe_str (pa_cons pe_str (pa_cons pe_str pa_nil))))) (pe_op op_mod (pe_op op_fdiv (pv 0) pe_int) pe_int) (fun _ _ => rfl))))) pss_nil)
      (pss_cons (ps_if (pt_cmpR op_in_seq (pv 1) (pe_tup (pa_cons pe_str (pa_cons pe_str (pa_cons pe_str pa_nil)))) rfl) (pss_one (ps_ret (pe_op op_add_str (pv 1) (pe_ix ix_list (pe_lst (pa_cons pe_str (pa_cons pe_str (pa_cons pe_str (pa_cons pe_str pa_nil))))) (pe_op op_mod (pe_op op_fdiv (pv 0) pe_int) pe_int) (fun _ _ => rfl))))) pss_nil)
      (pss_cons (ps_if (pt_cmpR op_in_seq (pv 1) (pe_tup (pa_cons pe_str (pa_cons pe_str (pa_cons pe_str (pa_cons pe_str (pa_cons pe_str pa_nil)))))) rfl) (pss_one (ps_ret (pe_op op_add_str (pe_op op_add_str (pv 1) pe_str) (pe_callTy call_str_int rfl z_str bt_str (pa_cons (pe_ix ix_list (pe_lst (pa_cons (pe_op op_add pe_int (pv 2)) (pa_cons (pe_op op_sub (pe_un un_neg pe_int) (pv 2)) pa_nil))) (pe_op op_mod (pe_op op_fdiv (pv 0) pe_int) pe_int) (fun _ _ => rfl)) pa_nil))))) pss_nil)
      (pss_one (ps_ret (pe_op op_add_str (pe_op op_add_str (pv 1) pe_str) (pe_callTy call_str_int rfl z_str bt_str (pa_cons (pv 2) pa_nil)))))))))))), ?_⟩
  refine ⟨rfl, fun sl H1 s1 n1 g1 => ?_⟩
  obtain ⟨x, hx, hat⟩ := pick (l := signsL) (n := 25) (by decide) rfl c
  refine ⟨_, rfl, _, _, rfl, rfl, (by show (0 : Int) < 25; decide), sl, _, _, .str x, rfl, rfl, SqL.of g1, hat, ?_⟩
  clear g1 n1 hat
  obtain ⟨f, ef, lf⟩ := modN (e := c / 25) (n := 100000) (by decide)
  have ef : c / 25 % 100000 = (f : Int) := ef
  refine ⟨_, rfl, _, _, rfl, rfl, ⟨by decide, by decide⟩, _, _, rfl, rfl, (by show (0 : Int) < 100000; decide), ?_⟩
  dsimp only [gName]
  rw [ef]
  have xl := str_len hx
  have b1 : (" " : Str).length = 1 := by decide +kernel
  have fin : ∀ {n : Int} {H2 : Hp}, n.natAbs < 10 ^ 10 → BadL (x ++ " " ++ tx n) → Same H1 H2 → ∃ i j, V.str (x ++ " ") = .str i ∧ V.str (tx n) = .str j ∧ i.length + j.length ≤ sizeLine ∧ Q (.str (i ++ j)) H2 := fun {n H2} hn hb s => by
    refine ⟨_, _, rfl, rfl, ?_, q _ _ (s1.trans s) hb⟩
    have := tx_len hn
    rw [len_app, b1, len_sgs (tx n)]
    exact few_sizeLine (by omega)
  have sz1 : x.length + (" " : Str).length ≤ sizeLine := by rw [b1]; exact few_sizeLine (by omega)
  refine ⟨_, rfl, rfl, _, rfl, stepS (fun z => ?_) (fun z1 => ?_)⟩
  · obtain ⟨v, hv, hv2⟩ := two_at (2147483648 + (f : Int)) (0 - 2147483649 - (f : Int)) c
    have hn : v.natAbs < 10 ^ 10 := by omega
    refine ⟨_, rfl, _, _, rfl, rfl, sz1, ?_⟩
    refine ⟨_, rfl, _, _, rfl, rfl, _, _, rfl, rfl, _, rfl, _, _, rfl, rfl, (by show 2 ≤ sizeLine; decide), fun D hD => ?_⟩
    refine ⟨_, rfl, _, _, rfl, rfl, (by show (0 : Int) < 2; decide), D, _, _, .int v, rfl, rfl, SqL.of upd_same, hv, v, rfl, log_small (by omega), ?_⟩
    refine fin hn ?_ (same_new hD _)
    rw [z]
    exact bad_push (by omega) hn
  dsimp only [tNext]
  refine ⟨_, rfl, (by show 2 ≤ sizeLine; decide), fun t ht => ⟨t, _, rfl, .inr (SqT.of upd_same), rfl, rfl, _, rfl, ?_⟩⟩
  have s2 := same_new ht (.tup [.str "jump", .str "zero"])
  generalize upd H1 t (.tup [.str "jump", .str "zero"]) = H2 at s2 ⊢
  clear ht
  refine stepL (l := ["jump", "zero"]) (fun z => ?_) (fun z2 => ?_)
  · obtain ⟨v, hv, hv2⟩ := two_at (100 + (f : Int)) (-1 - (f : Int)) (c / 25)
    have hn : v.natAbs < 10 ^ 10 := by omega
    refine ⟨_, rfl, _, _, rfl, rfl, sz1, ?_⟩
    refine ⟨_, rfl, _, _, rfl, rfl, _, rfl, _, rfl, _, _, rfl, rfl, (by show 2 ≤ sizeLine; decide), fun D hD => ?_⟩
    refine ⟨_, rfl, _, _, rfl, rfl, ⟨by decide, by decide⟩, _, _, rfl, rfl, (by show (0 : Int) < 2; decide), D, _, _, .int v, rfl, rfl, SqL.of upd_same, hv, v, rfl, log_small (by omega), ?_⟩
    exact fin hn (bad_pla z (by omega) hn) (s2.trans (same_new hD _))
  dsimp only [tNext]
  refine ⟨_, rfl, rfl, _, rfl, stepS (fun z => ?_) (fun z3 => ?_)⟩
  · obtain ⟨y, hy, hya⟩ := pick (l := kinT) (n := 4) (by decide) rfl (c / 25)
    obtain ⟨hb, hyl⟩ := bad_kin y hy
    refine ⟨_, rfl, (by show 4 ≤ sizeLine; decide), fun D hD => ?_⟩
    refine ⟨_, rfl, _, _, rfl, rfl, ⟨by decide, by decide⟩, _, _, rfl, rfl, (by show (0 : Int) < 4; decide), D, _, _, .str y, rfl, rfl, SqL.of upd_same, hya, _, _, rfl, rfl, few_sizeLine (by omega), ?_⟩
    rw [z]
    exact q _ _ (s1.trans (s2.trans (same_new hD _))) (.of hb)
  dsimp only [tNext]
  refine ⟨_, rfl, (by show 3 ≤ sizeLine; decide), fun t ht => ⟨t, _, rfl, .inr (SqT.of upd_same), rfl, rfl, _, rfl, ?_⟩⟩
  have s3 := s2.trans (same_new ht (.tup [.str "fill", .str "get", .str "put"]))
  generalize upd H2 t (.tup [.str "fill", .str "get", .str "put"]) = H3 at s3 ⊢
  clear ht s2
  refine stepL (l := ["fill", "get", "put"]) (fun z => ?_) (fun z4 => ?_)
  · obtain ⟨y, hy, hya⟩ := pick (l := fldT) (n := 4) (by decide) rfl (c / 25)
    obtain ⟨hb, hyl⟩ := bad_fld x z y hy
    refine ⟨_, rfl, (by show 4 ≤ sizeLine; decide), fun D hD => ?_⟩
    refine ⟨_, rfl, _, _, rfl, rfl, ⟨by decide, by decide⟩, _, _, rfl, rfl, (by show (0 : Int) < 4; decide), D, _, _, .str y, rfl, rfl, SqL.of upd_same, hya, _, _, rfl, rfl, few_sizeLine (by omega), ?_⟩
    exact q _ _ (s1.trans (s3.trans (same_new hD _))) (.of hb)
  dsimp only [tNext]
  refine ⟨_, rfl, (by show 5 ≤ sizeLine; decide), fun t ht => ⟨t, _, rfl, .inr (SqT.of upd_same), rfl, rfl, _, rfl, ?_⟩⟩
  have s4 := s3.trans (same_new ht (.tup [.str "load", .str "store", .str "make", .str "begin", .str "call"]))
  generalize upd H3 t (.tup [.str "load", .str "store", .str "make", .str "begin", .str "call"]) = H4 at s4 ⊢
  clear ht s3
  refine stepL (l := ["load", "store", "make", "begin", "call"]) (fun z => ?_) (fun z5 => ?_)
  · obtain ⟨v, hv, hv2⟩ := two_at (8 + (f : Int)) (-1 - (f : Int)) (c / 25)
    have hn : v.natAbs < 10 ^ 10 := by omega
    refine ⟨_, rfl, _, _, rfl, rfl, sz1, ?_⟩
    refine ⟨_, rfl, _, _, rfl, rfl, _, rfl, _, rfl, _, _, rfl, rfl, (by show 2 ≤ sizeLine; decide), fun D hD => ?_⟩
    refine ⟨_, rfl, _, _, rfl, rfl, ⟨by decide, by decide⟩, _, _, rfl, rfl, (by show (0 : Int) < 2; decide), D, _, _, .int v, rfl, rfl, SqL.of upd_same, hv, v, rfl, log_small (by omega), ?_⟩
    exact fin hn (bad_low z (by omega) hn) (s4.trans (same_new hD _))
  dsimp only [tNext]
  refine ⟨_, rfl, _, _, rfl, rfl, sz1, _, rfl, (f : Int), rfl, log_small (by omega), ?_⟩
  exact fin (by omega) (bad_bare (bare_else x hx z1 z2 z3 z4 z5) (by omega)) s4
theorem sc__law_few : FnScope ["_law_cell_here", "_law_signs_here", "_law_more"] ["_law_cell_here"] (defScope s_law_few) := ⟨rfl, rfl, rfl, by decide +kernel, rfl, by decide +kernel, by decide +kernel⟩
theorem ok__law_few {f : Addr} {fd : FuncData} (F : Fun K "_law_few" "_law_few" s_law_few f fd) (z_str : mg "str" = none) : FnOk P w K mg base CX0 1 f fd ["_law_cell_here"] (sp_law_few K) := by
  refine F.ok sc__law_few (fun vs H Q E h => ?_) (fun cdv A outer s H vs Q E hr h => ?_)
  · obtain ⟨c, rfl, q⟩ := h
    rfl
  obtain ⟨c, rfl, q⟩ := h
  refine ⟨_, (@pss_cons _ _ _ _ _ (ps_set (i := 1) sc__law_few.nd rfl (Or.inl rfl) (pe_lst8 pe_str ns_C pe_str ns_C pe_str ns_C pe_str ns_C pe_str ns_C pe_str ns_C pe_str ns_C pe_str ns_C))
      (@pss_cons _ _ _ _ _ (ps_set (i := 2) sc__law_few.nd rfl (Or.inl rfl) (pe_lst (pa_cC pe_str (pa_cC pe_str (pa_cC pe_str (pa_cC pe_str pa_nil))))))
      (@pss_cons _ _ _ _ _ (ps_if (pt_cmpR op_eq (pe_op op_mod (pv 0) pe_int) pe_int (nomark _)) (pss_one (ps_ret (pe_op op_add_str (pe_ix ix_list (pv 1) (pe_op op_mod (pe_op op_fdiv (pv 0) pe_int) pe_int) (fun _ _ => rfl)) (pe_op op_mulS pe_str (pe_op op_mod (pe_op op_fdiv (pv 0) pe_int) pe_int))))) pss_nil)
      (@pss_cons _ _ _ _ _ (ps_if (pt_cmpR op_eq (pe_op op_mod (pv 0) pe_int) pe_int (nomark _)) (pss_one (ps_ret (pe_op op_add_str (pe_op op_add_str (pe_ix ix_list (pv 2) (pe_op op_mod (pe_op op_fdiv (pv 0) pe_int) pe_int) (fun _ _ => rfl)) pe_str) (pe_callTy call_str_int rfl z_str bt_str (pa_cons (pe_op op_mod (pe_op op_fdiv (pv 0) pe_int) pe_int) pa_nil))))) pss_nil)
      (@pss_one _ _ _ (ps_ret (pe_op op_add_str (pe_ix ix_list (pe_op op_catS (pv 1) (pv 2)) (pe_op op_mod (pe_op op_fdiv (pv 0) pe_int) pe_int) (fun _ _ => rfl)) pe_str))))))), ?_⟩
  refine ⟨(by show 8 ≤ sizeLine; decide), fun p1 h1 => ?_⟩
  have s1 := same_new h1 (.lst (fewL.map V.str))
  have g1 := upd_same (H := H) (a := p1) (o := .lst (fewL.map V.str))
  generalize hH1 : upd H p1 (.lst (fewL.map V.str)) = H1 at s1 g1
  show _
  rw [show ([V.str "push", V.str "load", V.str "store", V.str "jump", V.str "zero", V.str "make", V.str "begin", V.str "call"] : List V) = fewL.map V.str from rfl, hH1]
  refine ⟨(by show 4 ≤ sizeLine; decide), fun p2 h2 => ?_⟩
  have s2 := same_new h2 (.lst (moreL.map V.str))
  have g2 := upd_same (H := H1) (a := p2) (o := .lst (moreL.map V.str))
  generalize hH2 : upd H1 p2 (.lst (moreL.map V.str)) = H2 at s2 g2
  rw [show ([V.str "kin", V.str "fill", V.str "get", V.str "put"] : List V) = moreL.map V.str from rfl, hH2]
  have g1 := s2 _ _ g1
  have S2 := s1.trans s2
  have b1 : (" " : Str).length = 1 := by decide +kernel
  refine ⟨_, rfl, _, _, rfl, rfl, (by show (0 : Int) < 3; decide), rfl, _, rfl, ite2 (fun z => ?_) (fun z => ?_)⟩
  · obtain ⟨x, hx, hat⟩ := pick (l := fewL) (n := 8) (by decide) rfl (c / 3)
    obtain ⟨k, ek, lk⟩ := modN (e := c / 24) (n := 3) (by decide)
    have xl := (by decide +kernel : ∀ x ∈ fewL, x.length ≤ 5) x hx
    refine ⟨_, rfl, _, rfl, _, _, rfl, rfl, ⟨by decide, by decide⟩, _, _, rfl, rfl, (by show (0 : Int) < 8; decide), p1, _, _, .str x, rfl, rfl, SqL.of g1, hat, ?_⟩
    refine ⟨_, rfl, _, _, rfl, rfl, ⟨by decide, by decide⟩, _, _, rfl, rfl, (by show (0 : Int) < 3; decide), " ", k, rfl, congrArg V.int ek, by omega, by omega, _, _, rfl, rfl, (by rw [len_rep, b1]; exact few_sizeLine (by omega)), ?_⟩
    exact q _ _ S2 (.of (bad_few x hx k lk))
  dsimp only [tNext]
  refine ⟨_, rfl, _, _, rfl, rfl, (by show (0 : Int) < 3; decide), rfl, _, rfl, ite2 (fun z => ?_) (fun z => ?_)⟩
  · obtain ⟨x, hx, hat⟩ := pick (l := moreL) (n := 4) (by decide) rfl (c / 3)
    obtain ⟨k, ek, lk⟩ := modN (e := c / 12) (n := 8) (by decide)
    have ek : c / 12 % 8 = (k : Int) := ek
    have xl := (by decide +kernel : ∀ x ∈ moreL, x.length ≤ 5) x hx
    refine ⟨_, rfl, _, rfl, _, _, rfl, rfl, ⟨by decide, by decide⟩, _, _, rfl, rfl, (by show (0 : Int) < 4; decide), p2, _, _, .str x, rfl, rfl, SqL.of g2, hat, _, _, rfl, rfl, (by rw [b1]; exact few_sizeLine (by omega)), ?_⟩
    refine ⟨_, rfl, _, _, rfl, rfl, ⟨by decide, by decide⟩, _, _, rfl, rfl, (by show (0 : Int) < 8; decide), ?_⟩
    dsimp only
    rw [ek]
    have hn : (k : Int).natAbs < 10 ^ 10 := by omega
    have tl := tx_len hn
    refine ⟨(k : Int), rfl, log_small (by omega), _, _, rfl, rfl, (by show _ + (tx (k : Int)).length ≤ _; rw [len_app, b1, len_sgs (tx _)]; exact few_sizeLine (by omega)), ?_⟩
    exact q _ _ S2 (bad_more hx hn)
  dsimp only [tNext]
  obtain ⟨x, hx, hat⟩ := pick (l := fewL ++ moreL) (n := 12) (by decide) rfl (c / 3)
  have xl := (by decide +kernel : ∀ x ∈ fewL ++ moreL, x.length ≤ 5) x hx
  have e4 : (Str.ofString " 1 2 3").length = 6 := by decide +kernel
  refine ⟨_, rfl, _, rfl, p1, p2, _, _, rfl, rfl, SqL.of g1, SqL.of g2, (by show 12 ≤ sizeLine; decide), fun p3 h3 => ?_⟩
  refine ⟨_, rfl, _, _, rfl, rfl, ⟨by decide, by decide⟩, _, _, rfl, rfl, (by show (0 : Int) < 12; decide), p3, _, _, .str x, rfl, rfl, SqL.of upd_same, ?_, _, _, rfl, rfl, (by rw [e4]; exact few_sizeLine (by omega)), ?_⟩
  · rw [← List.map_append]
    exact hat
  · exact q _ _ (S2.trans (same_new h3 _)) (.of (bad_many x hx))
theorem sc__law_ill : FnScope ["_law_cell_here", "_law_some"] ["_law_cell_here"] (defScope s_law_ill) := ⟨rfl, rfl, rfl, by decide +kernel, rfl, by decide +kernel, by decide +kernel⟩
def illE : Expr := match (defBody s_law_ill).getD 0 (.Pass ⟨0, 0, 0, 0⟩) with | .Assign _ e _ => e | _ => .Constant .none 0 ⟨0, 0, 0, 0⟩
theorem ill_okw {X : Cx} : PEw X illE (tLst (tCons (tC (.str "01")) (tCons (tC (.str "-0")) (tCons (tC (.str "+1")) (tCons (tC (.str "00")) (tCons (tC (.str "--1")) (tCons (tC (.str "1-")) (tCons (tC (.str "-")) (tCons (tC (.str "- 1")) (tCons (tC (.str "1.")) (tCons (tC (.str "1_0")) (tCons (tC (.str "x")) (tCons (tC (.str "1,")) (tCons (tC (.str "0x1")) (tCons (tC (.str "12345678901")) tNil))))))))))))))) := by
  constructor
  show PE X (.List [_, _, _, _, _, _, _, _, _, _, _, _, _, _] _) _
  refine pe_lst14 ?_ ?_ ?_ ?_ ?_ ?_ ?_ ?_ ?_ ?_ ?_ ?_ ?_ ?_ ?_ ?_ ?_ ?_ ?_ ?_ ?_ ?_ ?_ ?_ ?_ ?_ ?_ ?_
  · exact pe_str
  · exact ns_C
  · exact pe_str
  · exact ns_C
  · exact pe_str
  · exact ns_C
  · exact pe_str
  · exact ns_C
  · exact pe_str
  · exact ns_C
  · exact pe_str
  · exact ns_C
  · exact pe_str
  · exact ns_C
  · exact pe_str
  · exact ns_C
  · exact pe_str
  · exact ns_C
  · exact pe_str
  · exact ns_C
  · exact pe_str
  · exact ns_C
  · exact pe_str
  · exact ns_C
  · exact pe_str
  · exact ns_C
  · exact pe_str
  · exact ns_C
theorem ok__law_ill {f : Addr} {fd : FuncData} (F : Fun K "_law_ill" "_law_ill" s_law_ill f fd) : FnOk P w K mg base CX0 1 f fd ["_law_cell_here"] (sp_law_ill K) := by
  refine F.ok sc__law_ill (fun vs H Q E h => ?_) (fun cdv A outer s H vs Q E hr h => ?_)
  · obtain ⟨c, rfl, q⟩ := h
    rfl
  obtain ⟨c, rfl, q⟩ := h
  refine ⟨_, (@pss_consW _ _ _ _ _ (psw_setL (i := 1) sc__law_ill.nd rfl (Or.inl rfl) ill_okw (.inr rfl))
      (@pss_one _ _ _ (ps_ret (pe_op op_add_str (pe_ix ix_list (pe_lst (pa_cC pe_str (pa_cC pe_str (pa_cC pe_str pa_nil)))) (pe_op op_mod (pe_op op_fdiv (pv 0) pe_int) pe_int) (fun _ _ => rfl)) (pe_ix ix_list (pv 1) (pe_op op_mod (pv 0) pe_int) (fun _ _ => rfl)))))), ?_⟩
  obtain ⟨x, hx, hxa⟩ := pick (l := illH) (n := 3) (by decide) rfl (c / 14)
  obtain ⟨y, hy, hya⟩ := pick (l := illL) (n := 14) (by decide) rfl c
  obtain ⟨hb, xl, yl⟩ := bad_ill x hx y hy
  refine ⟨(by show 14 ≤ sizeLine; decide), fun p1 h1 => ?_⟩
  have s1 := same_new h1 (.lst (illL.map V.str))
  have g1 := upd_same (H := H) (a := p1) (o := .lst (illL.map V.str))
  generalize hH1 : upd H p1 (.lst (illL.map V.str)) = H1 at s1 g1
  rw [show ([V.str "01", V.str "-0", V.str "+1", V.str "00", V.str "--1", V.str "1-", V.str "-", V.str "- 1", V.str "1.", V.str "1_0", V.str "x", V.str "1,", V.str "0x1", V.str "12345678901"] : List V) = illL.map V.str from rfl, hH1]
  refine ⟨(by show 3 ≤ sizeLine; decide), fun p2 h2 => ?_⟩
  have s2 := same_new h2 (.lst (illH.map V.str))
  have g2 : upd H1 p2 (.lst [.str "push ", .str "load ", .str "jump "]) p2 = some (.lst (illH.map V.str)) := upd_same
  have s2 : Same H1 (upd H1 p2 (.lst [.str "push ", .str "load ", .str "jump "])) := s2
  generalize upd H1 p2 _ = H2 at s2 g2 ⊢
  refine ⟨_, rfl, _, _, rfl, rfl, ⟨by decide, by decide⟩, _, _, rfl, rfl, (by show (0 : Int) < 3; decide), p2, _, _, .str x, rfl, rfl, SqL.of g2, hxa, ?_⟩
  refine ⟨_, rfl, _, rfl, _, _, rfl, rfl, (by show (0 : Int) < 14; decide), p1, _, _, .str y, rfl, rfl, SqL.of (s2 _ _ g1), hya, _, _, rfl, rfl, few_sizeLine (by omega), ?_⟩
  exact q _ _ (s1.trans s2) (.of hb)
theorem sc__law_wrong : FnScope ["_law_cell_here", "_law_sign"] ["_law_cell_here"] (defScope s_law_wrong) := ⟨rfl, rfl, rfl, by decide +kernel, rfl, by decide +kernel, by decide +kernel⟩
theorem ok__law_wrong {f : Addr} {fd : FuncData} (F : Fun K "_law_wrong" "_law_wrong" s_law_wrong f fd) (h__law_beside : Has P w K mg base CX0 "_law_beside" 2 ["_law_cell_here"] (sp_law_beside K)) (h__law_few : Has P w K mg base CX0 "_law_few" 1 ["_law_cell_here"] (sp_law_few K)) (h__law_ill : Has P w K mg base CX0 "_law_ill" 1 ["_law_cell_here"] (sp_law_ill K)) (h__law_signs : Has P w K mg base CX0 "_law_signs" 1 [] (sp_law_signs K)) : FnOk P w K mg base CX0 3 f fd ["_law_cell_here"] (sp_law_wrong K) := by
  refine F.ok sc__law_wrong (fun vs H Q E h => ?_) (fun cdv A outer s H vs Q E hr h => ?_)
  · obtain ⟨c, rfl, q⟩ := h
    rfl
  obtain ⟨c, rfl, q⟩ := h
  refine ⟨_, (pss_cons (ps_if (pt_cmpR op_eq (pe_op op_mod (pv 0) pe_int) pe_int (nomark _)) (pss_one (ps_ret (pe_ch h__law_beside (hr.mono (by decide)) rfl (pa_cons (pe_op op_fdiv (pv 0) pe_int) pa_nil)))) pss_nil)
      (pss_cons (ps_if (pt_cmpR op_eq (pe_op op_mod (pv 0) pe_int) pe_int (nomark _)) (pss_one (ps_ret (pe_ch h__law_few (hr.mono (by decide)) rfl (pa_cons (pe_op op_fdiv (pv 0) pe_int) pa_nil)))) pss_nil)
      (pss_cons (ps_if (pt_cmpR op_eq (pe_op op_mod (pv 0) pe_int) pe_int (nomark _)) (pss_one (ps_ret (pe_ch h__law_ill (hr.mono (by decide)) rfl (pa_cons (pe_op op_fdiv (pv 0) pe_int) pa_nil)))) pss_nil)
      (pss_cons (ps_set (i := 1) sc__law_wrong.nd rfl (Or.inl rfl) (pe_ix ix_list (pe_ch0 h__law_signs (hr.mono (by decide)) rfl) (pe_op op_mod (pe_op op_fdiv (pv 0) pe_int) pe_int) (fun _ _ => rfl)))
      (pss_one (ps_ret (pe_ix ix_list (pe_lst (pa_cons (pe_bm0 PySem.F.plainAttrs_str PySem.F.slot_str_upper PySem.F.type_str_upper mt_upper (pv 1)) (pa_cons (pe_op op_add_str (pv 1) pe_str) (pa_cons (pe_slice sl_txt2 (pv 1) (po_some pe_int) po_none) (pa_cons (pe_slice sl_txt2 (pv 1) po_none (po_some pe_int)) (pa_cons (pe_op op_add_str pe_str (pv 1)) (pa_cons (pe_op op_add_str (pv 1) pe_str) (pa_cons pe_str pa_nil)))))))) (pe_op op_mod (pe_op op_fdiv (pv 0) pe_int) pe_int) (fun _ _ => rfl)))))))), ?_⟩
  have fin : ∀ (l : Str) (H' : Hp), Same H H' → BadL l → Q (.str l) H' := q
  refine ⟨_, rfl, _, _, rfl, rfl, (by show (0 : Int) < 4; decide), rfl, _, rfl, ite2 (fun z => ?_) (fun z => ?_)⟩
  · exact ⟨_, rfl, _, _, rfl, rfl, ⟨by decide, by decide⟩, _, rfl, fun l H' s hb => q l H' s hb⟩
  dsimp only [tNext]
  refine ⟨_, rfl, _, _, rfl, rfl, (by show (0 : Int) < 4; decide), rfl, _, rfl, ite2 (fun z => ?_) (fun z => ?_)⟩
  · exact ⟨_, rfl, _, _, rfl, rfl, ⟨by decide, by decide⟩, _, rfl, fun l H' s hb => q l H' s hb⟩
  dsimp only [tNext]
  refine ⟨_, rfl, _, _, rfl, rfl, (by show (0 : Int) < 4; decide), rfl, _, rfl, ite2 (fun z => ?_) (fun z => ?_)⟩
  · exact ⟨_, rfl, _, _, rfl, rfl, ⟨by decide, by decide⟩, _, rfl, fun l H' s hb => q l H' s hb⟩
  dsimp only [tNext]
  obtain ⟨x, hx, hat⟩ := pick (l := signsL) (n := 25) (by decide) rfl (c / 4)
  have xl := str_len hx
  have xa := (sign_sgs x hx).1
  refine ⟨rfl, fun sl H1 s1 n1 g1 => ?_⟩
  refine ⟨_, rfl, _, _, rfl, rfl, ⟨by decide, by decide⟩, _, _, rfl, rfl, (by show (0 : Int) < 25; decide), sl, _, _, .str x, rfl, rfl, SqL.of g1, hat, ?_⟩
  obtain ⟨y, hy, hya⟩ := pick (l := badT x) (n := 7) (by decide) rfl (c / 100)
  have hb := bad_sign x hx y hy
  have l1 : (Str.ofString "s").length = 1 := by decide +kernel
  have l2 : (Str.ofString "1 ").length = 2 := by decide +kernel
  have l3 : (Str.ofString ",").length = 1 := by decide +kernel
  refine ⟨_, rfl, rfl, x, rfl, rfl, (fun c hc => by have := xa c hc; omega), by omega, ?_⟩
  refine ⟨_, rfl, _, _, rfl, rfl, few_sizeLine (by omega), ?_⟩
  refine ⟨_, rfl, _, rfl, x, rfl, few_sizeLine (by omega), ?_⟩
  refine ⟨_, rfl, _, rfl, x, rfl, few_sizeLine (by omega), ?_⟩
  refine ⟨_, rfl, _, _, rfl, rfl, few_sizeLine (by omega), ?_⟩
  refine ⟨_, rfl, _, _, rfl, rfl, few_sizeLine (by omega), ?_⟩
  refine ⟨(by show 7 ≤ sizeLine; decide), fun D hD => ?_⟩
  refine ⟨_, rfl, _, _, rfl, rfl, ⟨by decide, by decide⟩, _, _, rfl, rfl, (by show (0 : Int) < 7; decide), D, _, _, .str y, rfl, rfl, SqL.of upd_same, hya, ?_⟩
  exact q y _ (s1.trans (same_new hD _)) (.of hb)
theorem sc_law : FnScope ["_law_script", "_law_lines_here", "_law_rows", "_law_text", "_law_found", "_law_way", "_law_at", "_law_remark", "_law_bad"] ["_law_script"] (defScope s_law) := ⟨rfl, rfl, rfl, by decide +kernel, rfl, by decide +kernel, by decide +kernel⟩
theorem ok_law {f : Addr} {fd : FuncData} (F : Fun K "law" "law" s_law f fd) (z_isinstance : mg "isinstance" = none) (z_len : mg "len" = none) (z_list : mg "list" = none) (h__law_cell : Has P w K mg base CX0 "_law_cell" 1 ["_law_script", "_law_k"] (sp_law_cell K)) (h__law_lines : Has P w K mg base CX0 "_law_lines" 3 ["_law_script"] (sp_law_lines K)) (h__law_told : Has P w K mg base CX0 "_law_told" 5 ["_law_text"] (sp_law_told K)) (h__law_wrong : Has P w K mg base CX0 "_law_wrong" 3 ["_law_cell_here"] (sp_law_wrong K)) (h_read : Has P w K mg base (CX2 P w) "read" 4 ["text"] (sp_read K mg)) : FnOk P w K mg base CX0 6 f fd ["_law_script"] (sp_law K) := by
  refine F.ok sc_law (fun vs H Q E h => ?_) (fun cdv A outer s H vs Q E hr h => ?_)
  · obtain ⟨a, ns, rfl, hS, h63, q⟩ := h
    rfl
  obtain ⟨a, ns, rfl, hS, h63, q⟩ := h
  refine ⟨_, (pss_cons (ps_asg (pe_ch h__law_lines (hr.mono (by decide)) rfl (pa_cons (pv 0) pa_nil)) (pg_tup rfl (pgs_cons (pg_name (i := 1) sc_law.nd rfl (Or.inl rfl)) (pgs_cons (pg_name (i := 2) sc_law.nd rfl (Or.inl rfl)) pgs_nil))))
      (pss_cons (ps_set (i := 3) sc_law.nd rfl (Or.inl rfl) (pe_bm PySem.F.plainAttrs_str PySem.F.slot_str_join PySem.F.type_str_join mt_join pe_str (pa_cons (pv 1) pa_nil)))
      (pss_cons (ps_set (i := 4) sc_law.nd rfl (Or.inl rfl) (pe_chF h_read passNF (hr.mono (by decide)) rfl (pa_cons (pv 3) pa_nil)))
      (pss_cons (ps_if (PW.pt (pw_or (pt_not (pt_val (pe_callB call_isi rfl z_isinstance bt_isinstance (pa_cons (pv 4) (pa_cons (pe_bltn (v := .ty "list") rfl z_list bt_list rfl) pa_nil))))) (pw_or1 (pt_cmpR (op_neD (hr.units)) (pv 4) (pv 2) (nomark _))))) (pss_one (ps_ret pe_bl)) pss_nil)
      (pss_cons (ps_expr (pe_bm PySem.F.plainAttrs_list PySem.F.slot_list_append PySem.F.type_list_append mt_append (pv 4) (pa_cons (pe_tup (pa_cons pe_str pa_nil)) pa_nil)))
      (pss_cons (ps_set (i := 5) sc_law.nd rfl (Or.inl rfl) (pe_op op_mod (pe_ch h__law_cell (hr.mono (by decide)) rfl (pa_cons (pv 0) (pa_cons pe_int pa_nil))) pe_int))
      (pss_cons (ps_if (pt_cmpR op_gt (pv 5) pe_int (nomark _)) (pss_cons (ps_set (i := 6) sc_law.nd rfl (Or.inl rfl) (pe_op op_mod (pe_ch h__law_cell (hr.mono (by decide)) rfl (pa_cons (pv 0) (pa_cons pe_int pa_nil))) (pe_op op_add (pe_callB call_len_seq rfl z_len bt_len (pa_cons (pv 1) pa_nil)) pe_int)))
      (pss_cons (ps_set (i := 7) sc_law.nd rfl (Or.inl rfl) (pe_ix ix_list (pe_lst (pa_cons pe_str (pa_cons pe_str (pa_cons pe_str (pa_cons pe_str (pa_cons pe_str pa_nil)))))) (pe_op op_mod (pe_op op_fdiv (pe_ch h__law_cell (hr.mono (by decide)) rfl (pa_cons (pv 0) (pa_cons pe_int pa_nil))) pe_int) pe_int) (fun _ _ => rfl)))
      (pss_cons (ps_set (i := 8) sc_law.nd rfl (Or.inl rfl) (pe_op op_catS (pe_op op_catS (pe_slice sl_list (pv 1) po_none (po_some (pv 6))) (pe_lst (pa_cons (pe_op op_add_str (pe_ch h__law_wrong (hr.mono (by decide)) rfl (pa_cons (pe_ch h__law_cell (hr.mono (by decide)) rfl (pa_cons (pv 0) (pa_cons pe_int pa_nil))) pa_nil)) (pv 7)) pa_nil))) (pe_slice sl_list (pv 1) (po_some (pv 6)) po_none)))
      (pss_cons (ps_if (pt_cmpR op_eq (pv 5) pe_int (nomark _)) (pss_one (ps_set (i := 8) sc_law.nd rfl (Or.inl rfl) (pe_op op_catS (pe_op op_catS (pv 8) (pe_lst (pa_cons (pe_ch h__law_wrong (hr.mono (by decide)) rfl (pa_cons (pe_op op_add (pe_op op_fdiv (pe_ch h__law_cell (hr.mono (by decide)) rfl (pa_cons (pv 0) (pa_cons pe_int pa_nil))) pe_int) pe_int) pa_nil)) pa_nil))) (pe_slice sl_list (pv 1) po_none (po_some pe_int))))) pss_nil)
      (pss_one (ps_if (pt_cmpR (op_neD (hr.units)) (pe_ch h__law_told (hr.mono (by decide)) rfl (pa_cons (pe_bm PySem.F.plainAttrs_str PySem.F.slot_str_join PySem.F.type_str_join mt_join pe_str (pa_cons (pv 8) pa_nil)) pa_nil)) (pe_tup (pa_cons pe_str (pa_cons (pv 6) pa_nil))) (nomark _)) (pss_one (ps_ret pe_bl)) pss_nil)))))) pss_nil)
      (pss_one (ps_ret (pe_cmpR (op_eqD (hr.units)) (pe_chF h_read passNF (hr.mono (by decide)) rfl (pa_cons (pv 3) pa_nil)) (pv 2) (nomark _))))))))))), ?_⟩
  refine ⟨_, rfl, a, ns, rfl, hS, h63, fun t pl pr ls ks us H1 s1 hT npl gl npr gr hR hkl hkn hpn h59 => ?_⟩
  refine ⟨t, _, rfl, hT, rfl, _, _, rfl, _, _, rfl, rfl, ?_⟩
  have hok := hkn.ok
  have hS1 := s1.seq hS
  have ul : us.length ≤ 100 := by
    rw [hR.1]
    have := List.length_filterMap_le id ks
    omega
  refine ⟨rfl, _, rfl, _, pl, ls, rfl, rfl, SqL.of gl, plain_join hpn (by omega), ?_⟩
  obtain ⟨ls', ks', p1, p2, p3, p4, p5, p6, p7⟩ := read_pre hpn (by omega) hkl hkn
  generalize Txt.join "\n" ls = x at p1 p2 ⊢
  refine ⟨_, rfl, x, ls', ks', rfl, p1, p2, p3, p4, p5, .inl ⟨p6, fun f uf H2 s2 nf gf hF => ?_⟩⟩
  rw [p7] at hF
  have gl2 := s2 _ _ gl
  have gr2 := s2 _ _ gr
  have hR2 := hR.same s2
  have hS2 := s2.seq hS1
  have hfl : pl ≠ f := fun e => by rw [← e, gl] at nf; cases nf
  have hfr : pr ≠ f := fun e => by rw [← e, gr] at nf; cases nf
  refine ⟨_, rfl, _, _, _, _, rfl, .lst (SqL.of gf), rfl, _, rfl, iteF ?_⟩
  refine ⟨_, rfl, _, rfl, _, _, rd_ros (SqL.of gf) hF, rd_ros (SqL.of gr2) hR2, ros_ok hok, ros_ok hok, ?_⟩
  rw [ros_self hok]
  refine ⟨_, rfl, iteF ?_⟩
  dsimp only [tNext]
  have ful : uf.length ≤ 100 := by
    rw [hF.1, ← hR.1]
    exact ul
  refine ⟨_, rfl, .inl ⟨rfl, _, SqL.of gf⟩, (by show 1 ≤ sizeLine; decide), fun tt htt => ?_⟩
  have s3 := same_new htt (.tup [.str "dup"])
  generalize upd H2 tt (.tup [.str "dup"]) = H3 at s3 ⊢
  have gf3 := s3 _ _ gf
  refine ⟨f, uf, _, rfl, rfl, gf3, small1000 (by omega), ?_⟩
  have gl4 : upd H3 f (.lst (uf ++ [.ref tt])) pl = some (.lst (ls.map V.str)) := by rw [upd_ne hfl]; exact s3 _ _ gl2
  have gr4 : upd H3 f (.lst (uf ++ [.ref tt])) pr = some (.lst us) := by rw [upd_ne hfr]; exact s3 _ _ gr2
  have hR4 : RosAt K (upd H3 f (.lst (uf ++ [.ref tt]))) us (ks.filterMap id) := (hR2.same s3).updL gf3
  have hS4 : SqL K (upd H3 f (.lst (uf ++ [.ref tt]))) a (ns.map V.int) := (Same_upd (s1.trans (s2.trans s3)) (fresh_of s1 nf) _).seq hS
  generalize upd H3 f _ = H4 at gl4 gr4 hR4 hS4 ⊢
  clear hS2 hR2 gr2 gl2 gf3 gf hF s3 s2 nf gl gr hR hS1 s1 htt npl npr hT
  refine ⟨_, rfl, a, ns, _, rfl, hS4, by decide, by decide, fun v0 H5 s5 => ⟨_, _, rfl, rfl, (by show (0 : Int) < 4; decide), ?_⟩⟩
  have gl5 := s5 _ _ gl4
  have gr5 := s5 _ _ gr4
  have hR5 := hR4.same s5
  have hS5 := s5.seq hS4
  clear gl4 gr4 hR4 hS4 s5
  refine cutR (R := ?R) (fun σ' H' => ∃ o6 o7 o8 : Option V, σ' = [some (.ref a), some (.ref pl), some (.ref pr), some (.str x), some (.ref f), some (.int (v0 % 4)), o6, o7, o8] ∧ H' pr = some (.lst us) ∧ RosAt K H' us (ks.filterMap id)) (fun kk => ?mm) ?kk
  case mm =>
    refine ⟨_, rfl, _, _, rfl, rfl, _, rfl, ite2 (fun z => ?_) (fun z => ?_)⟩
    · have lm : (ls.map V.str).length = ls.length := List.length_map ..
      refine ⟨_, rfl, a, ns, _, rfl, hS5, by decide, by decide, fun v1 H6 s6 => ?_⟩
      have gl6 := s6 _ _ gl5
      obtain ⟨k, ek, lk⟩ := modN (e := v1) (n := ls.length + 1) (by omega)
      have ek : v1 % (((ls.map V.str).length : Int) + 1) = (k : Int) := by rw [lm]; exact ek
      refine ⟨_, rfl, pl, _, rfl, .inl (SqL.of gl6), _, _, rfl, rfl, _, _, rfl, rfl, (by show (0 : Int) < (((ls.map V.str).length : Nat) : Int) + 1; omega), ?_⟩
      dsimp only [gName]
      rw [ek]
      have gr6 := s6 _ _ gr5
      have hR6 := hR5.same s6
      have hS6 := s6.seq hS5
      refine ⟨(by show 5 ≤ sizeLine; decide), fun D hD => ?_⟩
      have s7 := same_new hD (.lst (remL.map V.str))
      have gD : upd H6 D (.lst [.str "", .str "", .str " # dup", .str "#", .str "  # 1"]) D = some (.lst (remL.map V.str)) := upd_same
      have s7 : Same H6 (upd H6 D (.lst [.str "", .str "", .str " # dup", .str "#", .str "  # 1"])) := s7
      generalize upd H6 D _ = H7 at s7 gD ⊢
      refine ⟨_, rfl, a, ns, _, rfl, s7.seq hS6, by decide, by decide, fun v2 H8 s8 => ?_⟩
      obtain ⟨r, hr', hra⟩ := pick (l := remL) (n := 5) (by decide) rfl (v2 / 61)
      refine ⟨_, _, rfl, rfl, ⟨by decide, by decide⟩, _, _, rfl, rfl, (by show (0 : Int) < 5; decide), D, _, _, .str r, rfl, rfl, SqL.of (s8 _ _ gD), hra, ?_⟩
      have S8 := s7.trans s8
      have gl8 := S8 _ _ gl6
      have gr8 := S8 _ _ gr6
      have hR8 := hR6.same S8
      have hS8 := S8.seq hS6
      refine cutR (R := ?R1) (fun σ' H' => ∃ (p8 : Addr) (lb : List Str), σ' = [some (.ref a), some (.ref pl), some (.ref pr), some (.str x), some (.ref f), some (.int (v0 % 4)), some (.int (k : Int)), some (.str r), some (.ref p8)] ∧ Same H8 H' ∧ H' p8 = some (.lst (lb.map V.str)) ∧ Bads lb ks k ∧ lb.length ≤ 60) (fun k1 => ?m1) ?k1
      case m1 =>
        refine ⟨_, rfl, _, rfl, _, rfl, pl, _, rfl, SqL.of gl8, fun c1 h1 => ?_⟩
        rw [cut_to (by omega), ← List.map_take]
        have s9 := same_new h1 (.lst ((ls.take k).map V.str))
        have g1 := upd_same (H := H8) (a := c1) (o := .lst ((ls.take k).map V.str))
        generalize upd H8 c1 _ = H9 at s9 g1 ⊢
        refine ⟨_, rfl, a, ns, _, rfl, s9.seq hS8, by decide, by decide, fun v3 H10 s10 => ?_⟩
        refine ⟨v3, rfl, fun y H11 s11 hy => ?_⟩
        have yl := hy.len
        have rl := (rem_ok r hr').2.2
        refine ⟨_, rfl, _, _, rfl, rfl, (by rw [len_sgs, len_sgs]; exact few_sizeLine (by omega)), (by show 1 ≤ sizeLine; decide), fun c2 h2 => ?_⟩
        have s12 := same_new h2 (.lst [.str (y ++ r)])
        have g2 := upd_same (H := H11) (a := c2) (o := .lst [.str (y ++ r)])
        generalize upd H11 c2 _ = H12 at s12 g2 ⊢
        have S12 := s10.trans (s11.trans s12)
        refine ⟨c1, c2, _, _, rfl, rfl, SqL.of (S12 _ _ g1), SqL.of g2, few_sizeLine (by simp; omega), fun c3 h3 => ?_⟩
        have s13 := same_new h3 (.lst ((ls.take k).map V.str ++ [.str (y ++ r)]))
        have g3 := upd_same (H := H12) (a := c3) (o := .lst ((ls.take k).map V.str ++ [.str (y ++ r)]))
        generalize upd H12 c3 _ = H13 at s13 g3 ⊢
        have S13 := s9.trans (S12.trans s13)
        refine ⟨_, rfl, _, rfl, _, rfl, pl, _, rfl, SqL.of (S13 _ _ gl8), fun c4 h4 => ?_⟩
        rw [cut_from (by omega), ← List.map_drop]
        have s14 := same_new h4 (.lst ((ls.drop k).map V.str))
        have g4 := upd_same (H := H13) (a := c4) (o := .lst ((ls.drop k).map V.str))
        generalize upd H13 c4 _ = H14 at s14 g4 ⊢
        refine ⟨c3, c4, _, _, rfl, rfl, SqL.of (s14 _ _ g3), SqL.of g4, few_sizeLine (by simp; omega), fun c5 h5 => ?_⟩
        have e5 : (ls.take k).map V.str ++ [.str (y ++ r)] ++ (ls.drop k).map V.str = (ls.take k ++ [y ++ r] ++ ls.drop k).map V.str := by rw [List.map_append, List.map_append]; rfl
        dsimp only [gName]
        refine k1 _ _ ⟨c5, ls.take k ++ [y ++ r] ++ ls.drop k, rfl, S13.trans (s14.trans (same_new h5 _)), ?_, Bads.of hpn h59 hkl hkn (by omega) hy hr', by simp; omega⟩
        rw [upd_same, e5]
      rintro σ' H9 ⟨p8, lb, rfl, s9, g9, hbd, hbf⟩
      have gl9 := s9 _ _ gl8
      have gr9 := s9 _ _ gr8
      have hR9 := hR8.same s9
      have hS9 := s9.seq hS8
      refine cutR (R := ?R2) (fun σ' H' => ∃ (p9 : Addr) (lb : List Str), σ' = [some (.ref a), some (.ref pl), some (.ref pr), some (.str x), some (.ref f), some (.int (v0 % 4)), some (.int (k : Int)), some (.str r), some (.ref p9)] ∧ Same H9 H' ∧ H' p9 = some (.lst (lb.map V.str)) ∧ Bads lb ks k) (fun k2 => ?m2) ?k2
      case m2 =>
        refine ⟨_, rfl, rfl, _, rfl, ite2 (fun z3 => ?_) (fun z3 => ?_)⟩
        · refine ⟨_, rfl, _, rfl, a, ns, _, rfl, hS9, by decide, by decide, fun v4 H10 s10 => ?_⟩
          refine ⟨_, _, rfl, rfl, ⟨by decide, by decide⟩, _, _, rfl, rfl, _, rfl, fun y H11 s11 hy => ?_⟩
          refine ⟨(by show 1 ≤ sizeLine; decide), fun c2 h2 => ?_⟩
          have s12 := same_new h2 (.lst [.str y])
          have g2 := upd_same (H := H11) (a := c2) (o := .lst [.str y])
          generalize upd H11 c2 _ = H12 at s12 g2 ⊢
          have S12 := s10.trans (s11.trans s12)
          refine ⟨p8, c2, _, _, rfl, rfl, SqL.of (S12 _ _ g9), SqL.of g2, few_sizeLine (by simp; omega), fun c3 h3 => ?_⟩
          have s13 := same_new h3 (.lst (lb.map V.str ++ [.str y]))
          have g3 := upd_same (H := H12) (a := c3) (o := .lst (lb.map V.str ++ [.str y]))
          generalize upd H12 c3 _ = H13 at s13 g3 ⊢
          have S13 := S12.trans s13
          refine ⟨_, rfl, _, rfl, pl, _, rfl, SqL.of (S13 _ _ gl9), fun c4 h4 => ?_⟩
          have e1 : cutV (ls.map V.str) none (some 1) = (ls.take 1).map V.str := by
            unfold cutV
            rw [HT.sIx_none, show (some (1 : Int)) = some ((1 : Nat) : Int) from rfl, HT.sIx_nat, List.drop_zero, Nat.sub_zero, List.map_take]
            exact List.take_eq_take_iff.mpr (by omega)
          rw [e1]
          have s14 := same_new h4 (.lst ((ls.take 1).map V.str))
          have g4 := upd_same (H := H13) (a := c4) (o := .lst ((ls.take 1).map V.str))
          generalize upd H13 c4 _ = H14 at s14 g4 ⊢
          refine ⟨c3, c4, _, _, rfl, rfl, SqL.of (s14 _ _ g3), SqL.of g4, few_sizeLine (by simp; omega), fun c5 h5 => ?_⟩
          have e5 : lb.map V.str ++ [.str y] ++ (ls.take 1).map V.str = (lb ++ [y] ++ ls.take 1).map V.str := by rw [List.map_append, List.map_append]; rfl
          dsimp only [gName]
          refine k2 _ _ ⟨c5, lb ++ [y] ++ ls.take 1, rfl, S13.trans (s14.trans (same_new h5 _)), ?_, hbd.more hbf hpn hy⟩
          rw [upd_same, e5]
        · dsimp only [tNext]
          exact k2 _ _ ⟨p8, lb, rfl, Same.refl _, g9, hbd⟩
      rintro σ' H10 ⟨p9, lb2, rfl, s10, g10, hb2⟩
      have gr10 := s10 _ _ gr9
      have hR10 := hR9.same s10
      obtain ⟨lx, hlx, hbx⟩ := hb2.at_
      have tk : (ks.take k).length = k := by rw [List.length_take]; omega
      have ne : lb2 ≠ [] := fun e => by rw [e] at hlx; simp at hlx
      refine ⟨rfl, _, rfl, _, p9, lb2, rfl, rfl, SqL.of g10, plain_join hb2.plain hb2.few, ?_⟩
      have sp := split_plain ne hb2.plain
      have jl := join_len hb2.plain hb2.few
      generalize Txt.join "\n" lb2 = xb at sp jl ⊢
      refine ⟨xb, lb2, ks.take k, lx, rfl, sp, jl, plain_asc hb2.plain, by have := hb2.few; omega, hb2.kn, by rw [tk]; exact hlx, hbx, fun p H11 s11 hTp => ?_⟩
      rw [tk] at hTp
      refine ⟨_, rfl, (by show 2 ≤ sizeLine; decide), fun t2 ht2 => ?_⟩
      have s12 := same_new ht2 (.tup [.str "at", .int (k : Int)])
      have g12 := upd_same (H := H11) (a := t2) (o := .tup [.str "at", .int (k : Int)])
      generalize upd H11 t2 _ = H12 at s12 g12 ⊢
      refine ⟨_, _, RdV.tup' (s12.tup hTp) (.cons (.str _) (.cons (.int _) .nil)), RdV.tup' (SqT.of g12) (.cons (.str _) (.cons (.int _) .nil)), at_ok _, at_ok _, ?_⟩
      rw [at_self]
      refine ⟨_, rfl, iteF ?_⟩
      dsimp only [tNext]
      exact kk _ _ ⟨_, _, _, rfl, s12 _ _ (s11 _ _ gr10), (hR10.same s11).same s12⟩
    · dsimp only [tNext]
      exact kk _ _ ⟨none, none, none, rfl, gr5, hR5⟩
  rintro σ' H6 ⟨o6, o7, o8, rfl, g6, hR6⟩
  refine ⟨_, rfl, x, ls', ks', rfl, p1, p2, p3, p4, p5, .inl ⟨p6, fun f2 uf2 H7 s7 n7 g7 hF7 => ?_⟩⟩
  rw [p7] at hF7
  refine ⟨_, rfl, _, _, rd_ros (SqL.of g7) hF7, rd_ros (SqL.of (s7 _ _ g6)) (hR6.same s7), ros_ok hok, ros_ok hok, ?_⟩
  rw [ros_self hok]
  exact q H7
end
theorem all_mk {l : PySem.W.OpenLaw} {w : World} {K : PySem.W.Frag} {h : Heap} {mg : Str → Option Value} {fa f0 f1 f2 f3 f4 f5 f6 f7 f8 f9 f10 f11 f12 f13 f14 f15 f16 f17 f18 f19 : Addr} (X : K.In h) (G : h.Ns mainGlobals mg) (hfa : mg "law" = some (.ref fa))
    {od0 an0 od1 an1 od2 an2 od3 an3 od4 an4 od5 an5 od6 an6 od7 an7 od8 an8 od9 an9 od10 an10 od11 an11 od12 an12 od13 an13 od14 an14 od15 an15 od16 an16 od17 an17 od18 an18 od19 an19 : Option Addr} {sl0 sl1 sl2 sl3 sl4 sl5 sl6 sl7 sl8 sl9 sl10 sl11 sl12 sl13 sl14 sl15 sl16 sl17 sl18 sl19 : Array (Option Value)} {oc0 kV0 dc0 pm0 cd0 ct0 oc1 kV1 dc1 pm1 cd1 ct1 oc2 kV2 dc2 pm2 cd2 ct2 oc3 kV3 dc3 pm3 cd3 ct3 oc4 kV4 dc4 pm4 cd4 ct4 oc5 kV5 dc5 pm5 cd5 ct5 oc6 kV6 dc6 pm6 cd6 ct6 oc7 kV7 dc7 pm7 cd7 ct7 oc8 kV8 dc8 pm8 cd8 ct8 oc9 kV9 dc9 pm9 cd9 ct9 oc10 kV10 dc10 pm10 cd10 ct10 oc11 kV11 dc11 pm11 cd11 ct11 oc12 kV12 dc12 pm12 cd12 ct12 oc13 kV13 dc13 pm13 cd13 ct13 oc14 kV14 dc14 pm14 cd14 ct14 oc15 kV15 dc15 pm15 cd15 ct15 oc16 kV16 dc16 pm16 cd16 ct16 oc17 kV17 dc17 pm17 cd17 ct17 oc18 kV18 dc18 pm18 cd18 ct18 oc19 kV19 dc19 pm19 cd19 ct19 : Value}
    {C_NoCode C_NoRow C_Nought C_WardenError : Addr}
    {t_FIGURES t_HALF t_MOST_FIGURES : Tok}
    {ep_MOST : Nat}
    {d_MOST : Addr} {t_MOST_1 t_MOST_2 t_MOST_3 t_MOST_4 t_MOST_5 t_MOST_6 t_MOST_7 t_MOST_8 t_MOST_9 t_MOST_10 : Tok}
    {r_SIGNS_26 : Addr} {t_SIGNS_1 t_SIGNS_2 t_SIGNS_3 t_SIGNS_4 t_SIGNS_5 t_SIGNS_6 t_SIGNS_7 t_SIGNS_8 t_SIGNS_9 t_SIGNS_10 t_SIGNS_11 t_SIGNS_12 t_SIGNS_13 t_SIGNS_14 t_SIGNS_15 t_SIGNS_16 t_SIGNS_17 t_SIGNS_18 t_SIGNS_19 t_SIGNS_20 t_SIGNS_21 t_SIGNS_22 t_SIGNS_23 t_SIGNS_24 t_SIGNS_25 : Tok}
    {ep_WANTS : Nat}
    {r_WANTS_3 r_WANTS_7 r_WANTS_11 r_WANTS_15 r_WANTS_19 r_WANTS_24 r_WANTS_28 r_WANTS_33 r_WANTS_37 r_WANTS_42 r_WANTS_47 r_WANTS_51 d_WANTS : Addr} {t_WANTS_1 t_WANTS_2 t_WANTS_5 t_WANTS_6 t_WANTS_9 t_WANTS_10 t_WANTS_13 t_WANTS_14 t_WANTS_17 t_WANTS_18 t_WANTS_21 t_WANTS_22 t_WANTS_23 t_WANTS_26 t_WANTS_27 t_WANTS_30 t_WANTS_31 t_WANTS_32 t_WANTS_35 t_WANTS_36 t_WANTS_39 t_WANTS_40 t_WANTS_41 t_WANTS_44 t_WANTS_45 t_WANTS_46 t_WANTS_49 t_WANTS_50 : Tok}
    (a0 : PySem.W.nsIn K mainGlobals "_law_cell" = some (some (.ref f0))) (l0 : K.lookup f0 = some ⟨oc0, od0, .func (PySem.W.fnOf "_law_cell" "_law_cell" (defArgs s_law_cell) (defBody s_law_cell) (defScope s_law_cell) .none kV0 dc0 pm0 an0 cd0 ct0), sl0⟩) (c0 : PySem.W.codeIn K cd0 "_law_cell" = true) (k0 : PySem.W.keepIn K (.ref f0) = true)
    (a1 : PySem.W.nsIn K mainGlobals "_law_line" = some (some (.ref f1))) (l1 : K.lookup f1 = some ⟨oc1, od1, .func (PySem.W.fnOf "_law_line" "_law_line" (defArgs s_law_line) (defBody s_law_line) (defScope s_law_line) .none kV1 dc1 pm1 an1 cd1 ct1), sl1⟩) (c1 : PySem.W.codeIn K cd1 "_law_line" = true) (k1 : PySem.W.keepIn K (.ref f1) = true)
    (a2 : PySem.W.nsIn K mainGlobals "_law_signs" = some (some (.ref f2))) (l2 : K.lookup f2 = some ⟨oc2, od2, .func (PySem.W.fnOf "_law_signs" "_law_signs" (defArgs s_law_signs) (defBody s_law_signs) (defScope s_law_signs) .none kV2 dc2 pm2 an2 cd2 ct2), sl2⟩) (c2 : PySem.W.codeIn K cd2 "_law_signs" = true) (k2 : PySem.W.keepIn K (.ref f2) = true)
    (a3 : PySem.W.nsIn K mainGlobals "_law_word" = some (some (.ref f3))) (l3 : K.lookup f3 = some ⟨oc3, od3, .func (PySem.W.fnOf "_law_word" "_law_word" (defArgs s_law_word) (defBody s_law_word) (defScope s_law_word) .none kV3 dc3 pm3 an3 cd3 ct3), sl3⟩) (c3 : PySem.W.codeIn K cd3 "_law_word" = true) (k3 : PySem.W.keepIn K (.ref f3) = true)
    (a4 : PySem.W.nsIn K mainGlobals "_law_row" = some (some (.ref f4))) (l4 : K.lookup f4 = some ⟨oc4, od4, .func (PySem.W.fnOf "_law_row" "_law_row" (defArgs s_law_row) (defBody s_law_row) (defScope s_law_row) .none kV4 dc4 pm4 an4 cd4 ct4), sl4⟩) (c4 : PySem.W.codeIn K cd4 "_law_row" = true) (k4 : PySem.W.keepIn K (.ref f4) = true)
    (a5 : PySem.W.nsIn K mainGlobals "_law_lines" = some (some (.ref f5))) (l5 : K.lookup f5 = some ⟨oc5, od5, .func (PySem.W.fnOf "_law_lines" "_law_lines" (defArgs s_law_lines) (defBody s_law_lines) (defScope s_law_lines) .none kV5 dc5 pm5 an5 cd5 ct5), sl5⟩) (c5 : PySem.W.codeIn K cd5 "_law_lines" = true) (k5 : PySem.W.keepIn K (.ref f5) = true)
    (a6 : PySem.W.nsIn K mainGlobals "is_whole" = some (some (.ref f6))) (l6 : K.lookup f6 = some ⟨oc6, od6, .func (PySem.W.fnOf "is_whole" "is_whole" (defArgs s_is_whole) (defBody s_is_whole) (defScope s_is_whole) .none kV6 dc6 pm6 an6 cd6 ct6), sl6⟩) (c6 : PySem.W.codeIn K cd6 "is_whole" = true) (k6 : PySem.W.keepIn K (.ref f6) = true)
    (a7 : PySem.W.nsIn K mainGlobals "is_word" = some (some (.ref f7))) (l7 : K.lookup f7 = some ⟨oc7, od7, .func (PySem.W.fnOf "is_word" "is_word" (defArgs s_is_word) (defBody s_is_word) (defScope s_is_word) .none kV7 dc7 pm7 an7 cd7 ct7), sl7⟩) (c7 : PySem.W.codeIn K cd7 "is_word" = true) (k7 : PySem.W.keepIn K (.ref f7) = true)
    (a8 : PySem.W.nsIn K mainGlobals "fits" = some (some (.ref f8))) (l8 : K.lookup f8 = some ⟨oc8, od8, .func (PySem.W.fnOf "fits" "fits" (defArgs s_fits) (defBody s_fits) (defScope s_fits) .none kV8 dc8 pm8 an8 cd8 ct8), sl8⟩) (c8 : PySem.W.codeIn K cd8 "fits" = true) (k8 : PySem.W.keepIn K (.ref f8) = true)
    (a9 : PySem.W.nsIn K mainGlobals "wants" = some (some (.ref f9))) (l9 : K.lookup f9 = some ⟨oc9, od9, .func (PySem.W.fnOf "wants" "wants" (defArgs s_wants) (defBody s_wants) (defScope s_wants) .none kV9 dc9 pm9 an9 cd9 ct9), sl9⟩) (c9 : PySem.W.codeIn K cd9 "wants" = true) (k9 : PySem.W.keepIn K (.ref f9) = true)
    (a10 : PySem.W.nsIn K mainGlobals "is_row" = some (some (.ref f10))) (l10 : K.lookup f10 = some ⟨oc10, od10, .func (PySem.W.fnOf "is_row" "is_row" (defArgs s_is_row) (defBody s_is_row) (defScope s_is_row) .none kV10 dc10 pm10 an10 cd10 ct10), sl10⟩) (c10 : PySem.W.codeIn K cd10 "is_row" = true) (k10 : PySem.W.keepIn K (.ref f10) = true)
    (a11 : PySem.W.nsIn K mainGlobals "number_of" = some (some (.ref f11))) (l11 : K.lookup f11 = some ⟨oc11, od11, .func (PySem.W.fnOf "number_of" "number_of" (defArgs s_number_of) (defBody s_number_of) (defScope s_number_of) .none kV11 dc11 pm11 an11 cd11 ct11), sl11⟩) (c11 : PySem.W.codeIn K cd11 "number_of" = true) (k11 : PySem.W.keepIn K (.ref f11) = true)
    (a12 : PySem.W.nsIn K mainGlobals "words_of" = some (some (.ref f12))) (l12 : K.lookup f12 = some ⟨oc12, od12, .func (PySem.W.fnOf "words_of" "words_of" (defArgs s_words_of) (defBody s_words_of) (defScope s_words_of) .none kV12 dc12 pm12 an12 cd12 ct12), sl12⟩) (c12 : PySem.W.codeIn K cd12 "words_of" = true) (k12 : PySem.W.keepIn K (.ref f12) = true)
    (a13 : PySem.W.nsIn K mainGlobals "read" = some (some (.ref f13))) (l13 : K.lookup f13 = some ⟨oc13, od13, .func (PySem.W.fnOf "read" "read" (defArgs s_read) (defBody s_read) (defScope s_read) .none kV13 dc13 pm13 an13 cd13 ct13), sl13⟩) (c13 : PySem.W.codeIn K cd13 "read" = true) (k13 : PySem.W.keepIn K (.ref f13) = true)
    (a14 : PySem.W.nsIn K mainGlobals "_law_told" = some (some (.ref f14))) (l14 : K.lookup f14 = some ⟨oc14, od14, .func (PySem.W.fnOf "_law_told" "_law_told" (defArgs s_law_told) (defBody s_law_told) (defScope s_law_told) .none kV14 dc14 pm14 an14 cd14 ct14), sl14⟩) (c14 : PySem.W.codeIn K cd14 "_law_told" = true) (k14 : PySem.W.keepIn K (.ref f14) = true)
    (a15 : PySem.W.nsIn K mainGlobals "_law_beside" = some (some (.ref f15))) (l15 : K.lookup f15 = some ⟨oc15, od15, .func (PySem.W.fnOf "_law_beside" "_law_beside" (defArgs s_law_beside) (defBody s_law_beside) (defScope s_law_beside) .none kV15 dc15 pm15 an15 cd15 ct15), sl15⟩) (c15 : PySem.W.codeIn K cd15 "_law_beside" = true) (k15 : PySem.W.keepIn K (.ref f15) = true)
    (a16 : PySem.W.nsIn K mainGlobals "_law_few" = some (some (.ref f16))) (l16 : K.lookup f16 = some ⟨oc16, od16, .func (PySem.W.fnOf "_law_few" "_law_few" (defArgs s_law_few) (defBody s_law_few) (defScope s_law_few) .none kV16 dc16 pm16 an16 cd16 ct16), sl16⟩) (c16 : PySem.W.codeIn K cd16 "_law_few" = true) (k16 : PySem.W.keepIn K (.ref f16) = true)
    (a17 : PySem.W.nsIn K mainGlobals "_law_ill" = some (some (.ref f17))) (l17 : K.lookup f17 = some ⟨oc17, od17, .func (PySem.W.fnOf "_law_ill" "_law_ill" (defArgs s_law_ill) (defBody s_law_ill) (defScope s_law_ill) .none kV17 dc17 pm17 an17 cd17 ct17), sl17⟩) (c17 : PySem.W.codeIn K cd17 "_law_ill" = true) (k17 : PySem.W.keepIn K (.ref f17) = true)
    (a18 : PySem.W.nsIn K mainGlobals "_law_wrong" = some (some (.ref f18))) (l18 : K.lookup f18 = some ⟨oc18, od18, .func (PySem.W.fnOf "_law_wrong" "_law_wrong" (defArgs s_law_wrong) (defBody s_law_wrong) (defScope s_law_wrong) .none kV18 dc18 pm18 an18 cd18 ct18), sl18⟩) (c18 : PySem.W.codeIn K cd18 "_law_wrong" = true) (k18 : PySem.W.keepIn K (.ref f18) = true)
    (a19 : PySem.W.nsIn K mainGlobals "law" = some (some (.ref f19))) (l19 : K.lookup f19 = some ⟨oc19, od19, .func (PySem.W.fnOf "law" "law" (defArgs s_law) (defBody s_law) (defScope s_law) .none kV19 dc19 pm19 an19 cd19 ct19), sl19⟩) (c19 : PySem.W.codeIn K cd19 "law" = true) (k19 : PySem.W.keepIn K (.ref f19) = true)
    (g_FIGURES : PySem.W.nsIn K mainGlobals "FIGURES" = some (some (.str "0123456789" t_FIGURES)))
    (g_HALF : PySem.W.nsIn K mainGlobals "HALF" = some (some (.int 2147483648 t_HALF)))
    (g_MOST_FIGURES : PySem.W.nsIn K mainGlobals "MOST_FIGURES" = some (some (.int 10 t_MOST_FIGURES)))
    (g_NoCode : PySem.W.nsIn K mainGlobals "NoCode" = some (some (.ref C_NoCode)))
    (w_NoCode : PySem.W.ktsIn K C_NoCode "BaseException" = true)
    (g_NoRow : PySem.W.nsIn K mainGlobals "NoRow" = some (some (.ref C_NoRow)))
    (w_NoRow : PySem.W.ktsIn K C_NoRow "BaseException" = true)
    (g_Nought : PySem.W.nsIn K mainGlobals "Nought" = some (some (.ref C_Nought)))
    (e_Nought : PySem.W.excIn K C_Nought bmVE "ValueError.__new__" = true)
    (w_Nought : PySem.W.ktsIn K C_Nought "BaseException" = true)
    (g_WardenError : PySem.W.nsIn K mainGlobals "WardenError" = some (some (.ref C_WardenError)))
    (e_WardenError : PySem.W.excIn K C_WardenError bmVE "ValueError.__new__" = true)
    (w_WardenError : PySem.W.ktsIn K C_WardenError "BaseException" = true)
    {fi_NoRow : Addr} {odi_NoRow ani_NoRow : Option Addr} {sli_NoRow : Array (Option Value)} {oci_NoRow kVi_NoRow dci_NoRow pmi_NoRow cdi_NoRow cti_NoRow : Value}
    (ni0_NoRow : PySem.W.findIn K (.ref C_NoRow) "__init__" = some (some (.ref fi_NoRow)))
    (ni1_NoRow : K.lookup fi_NoRow = some ⟨oci_NoRow, odi_NoRow, .func (PySem.W.fnOf "__init__" "NoRow.__init__" (defArgs i_NoRow) (defBody i_NoRow) (defScope i_NoRow) .none kVi_NoRow dci_NoRow pmi_NoRow ani_NoRow cdi_NoRow cti_NoRow), sli_NoRow⟩)
    (ni2_NoRow : PySem.W.codeIn K cdi_NoRow "NoRow.__init__" = true)
    (ni3_NoRow : PySem.W.keepIn K (.ref fi_NoRow) = true)
    (ni4_NoRow : PySem.W.isFn K (.ref fi_NoRow) = true)
    (ni5_NoRow : PySem.W.keepIn K (.ref C_NoRow) = true)
    (ni6_NoRow : PySem.W.findIn K (.ref C_NoRow) "__setattr__" = some (some (.builtin "object.__setattr__")))
    (ni7_NoRow : PySem.W.mroIn K C_NoRow (.type "object") = some true)
    (ei_NoRow : excInI K C_NoRow bmVE "ValueError.__new__" = true)
    (nj0_NoRow : PySem.W.findIn K (.ref C_NoRow) "at" = some none)
    (kx1_NoRow : PySem.W.findIn K (.ref C_NoRow) "__getattribute__" = some (some (.builtin "BaseException.__getattribute__")))
    (kx2_NoRow : PySem.W.findIn K (.ref C_NoRow) "__getattr__" = some none)
    (kx3_NoRow : PySem.W.findIn K (.ref C_NoRow) "__class__" = some (some (.builtin "object.__class__")))
    (kx4_NoRow : PySem.W.mroIn K C_NoRow (.type "BaseException") = some true)
    (kx5_NoRow : PySem.W.mroIn K C_NoRow (.type "object") = some true)
    (kx6_NoRow : PySem.W.hasDictIn K C_NoRow = true)
    (m_RW : PySem.W.mroIn K C_NoRow (.ref C_WardenError) = some true)
    (na_NoRow : PySem.W.findIn K (.ref C_NoRow) "at" = some none)
    (i_RR : PySem.W.kitOne K (.ref C_NoRow) (.ref C_NoRow) = some true)
    (i_RV : PySem.W.kitOne K (.ref C_NoRow) (.type "ValueError") = some true)
    (i_RC : PySem.W.kitOne K (.ref C_NoRow) (.ref C_NoCode) = some false)
    (i_RN : PySem.W.kitOne K (.ref C_NoRow) (.ref C_Nought) = some false)
    (g_MOST : PySem.W.nsIn K mainGlobals "MOST" = some (some (.ref d_MOST)))
    (n_MOST_12 : (d_MOST == sysModules) = false)
    (q_MOST_11 : K.lookup d_MOST = some { cls := .type "dict", data := .dict #[{ hash := PyData.keyHash w.params "box", key := .str "box" t_MOST_1, val := .int 7 t_MOST_2 }, { hash := PyData.keyHash w.params "make", key := .str "make" t_MOST_3, val := .int 7 t_MOST_4 }, { hash := PyData.keyHash w.params "field", key := .str "field" t_MOST_5, val := .int 7 t_MOST_6 }, { hash := PyData.keyHash w.params "part", key := .str "part" t_MOST_7, val := .int 7 t_MOST_8 }, { hash := PyData.keyHash w.params "place", key := .str "place" t_MOST_9, val := .int 99 t_MOST_10 }] ep_MOST })
    (g_SIGNS : PySem.W.nsIn K mainGlobals "SIGNS" = some (some (.ref r_SIGNS_26)))
    (q_SIGNS_27 : K.lookup r_SIGNS_26 = some { cls := .type "tuple", data := .seq #[.str "push" t_SIGNS_1, .str "load" t_SIGNS_2, .str "store" t_SIGNS_3, .str "dup" t_SIGNS_4, .str "swap" t_SIGNS_5, .str "drop" t_SIGNS_6, .str "add" t_SIGNS_7, .str "sub" t_SIGNS_8, .str "mul" t_SIGNS_9, .str "div" t_SIGNS_10, .str "rem" t_SIGNS_11, .str "less" t_SIGNS_12, .str "same" t_SIGNS_13, .str "jump" t_SIGNS_14, .str "zero" t_SIGNS_15, .str "kin" t_SIGNS_16, .str "make" t_SIGNS_17, .str "fill" t_SIGNS_18, .str "begin" t_SIGNS_19, .str "get" t_SIGNS_20, .str "put" t_SIGNS_21, .str "call" t_SIGNS_22, .str "toss" t_SIGNS_23, .str "say" t_SIGNS_24, .str "give" t_SIGNS_25] 0 })
    (g_WANTS : PySem.W.nsIn K mainGlobals "WANTS" = some (some (.ref d_WANTS)))
    (n_WANTS_54 : (d_WANTS == sysModules) = false)
    (q_WANTS_53 : K.lookup d_WANTS = some { cls := .type "dict", data := .dict #[{ hash := PyData.keyHash w.params "push", key := .str "push" t_WANTS_1, val := .ref r_WANTS_3 }, { hash := PyData.keyHash w.params "load", key := .str "load" t_WANTS_5, val := .ref r_WANTS_7 }, { hash := PyData.keyHash w.params "store", key := .str "store" t_WANTS_9, val := .ref r_WANTS_11 }, { hash := PyData.keyHash w.params "jump", key := .str "jump" t_WANTS_13, val := .ref r_WANTS_15 }, { hash := PyData.keyHash w.params "zero", key := .str "zero" t_WANTS_17, val := .ref r_WANTS_19 }, { hash := PyData.keyHash w.params "kin", key := .str "kin" t_WANTS_21, val := .ref r_WANTS_24 }, { hash := PyData.keyHash w.params "make", key := .str "make" t_WANTS_26, val := .ref r_WANTS_28 }, { hash := PyData.keyHash w.params "fill", key := .str "fill" t_WANTS_30, val := .ref r_WANTS_33 }, { hash := PyData.keyHash w.params "begin", key := .str "begin" t_WANTS_35, val := .ref r_WANTS_37 }, { hash := PyData.keyHash w.params "get", key := .str "get" t_WANTS_39, val := .ref r_WANTS_42 }, { hash := PyData.keyHash w.params "put", key := .str "put" t_WANTS_44, val := .ref r_WANTS_47 }, { hash := PyData.keyHash w.params "call", key := .str "call" t_WANTS_49, val := .ref r_WANTS_51 }] ep_WANTS })
    (q_WANTS_52 : K.lookup r_WANTS_51 = some { cls := .type "tuple", data := .seq #[.str "part" t_WANTS_50] 0 })
    (q_WANTS_48 : K.lookup r_WANTS_47 = some { cls := .type "tuple", data := .seq #[.str "make" t_WANTS_45, .str "field" t_WANTS_46] 0 })
    (q_WANTS_43 : K.lookup r_WANTS_42 = some { cls := .type "tuple", data := .seq #[.str "make" t_WANTS_40, .str "field" t_WANTS_41] 0 })
    (q_WANTS_38 : K.lookup r_WANTS_37 = some { cls := .type "tuple", data := .seq #[.str "make" t_WANTS_36] 0 })
    (q_WANTS_34 : K.lookup r_WANTS_33 = some { cls := .type "tuple", data := .seq #[.str "make" t_WANTS_31, .str "field" t_WANTS_32] 0 })
    (q_WANTS_29 : K.lookup r_WANTS_28 = some { cls := .type "tuple", data := .seq #[.str "make" t_WANTS_27] 0 })
    (q_WANTS_25 : K.lookup r_WANTS_24 = some { cls := .type "tuple", data := .seq #[.str "make" t_WANTS_22, .str "place" t_WANTS_23] 0 })
    (q_WANTS_20 : K.lookup r_WANTS_19 = some { cls := .type "tuple", data := .seq #[.str "place" t_WANTS_18] 0 })
    (q_WANTS_16 : K.lookup r_WANTS_15 = some { cls := .type "tuple", data := .seq #[.str "place" t_WANTS_14] 0 })
    (q_WANTS_12 : K.lookup r_WANTS_11 = some { cls := .type "tuple", data := .seq #[.str "box" t_WANTS_10] 0 })
    (q_WANTS_8 : K.lookup r_WANTS_7 = some { cls := .type "tuple", data := .seq #[.str "box" t_WANTS_6] 0 })
    (q_WANTS_4 : K.lookup r_WANTS_3 = some { cls := .type "tuple", data := .seq #[.str "word" t_WANTS_2] 0 })
    (z_ValueError : PySem.W.nsIn K mainGlobals "ValueError" = some none)
    (z_all : PySem.W.nsIn K mainGlobals "all" = some none)
    (z_bool : PySem.W.nsIn K mainGlobals "bool" = some none)
    (z_enumerate : PySem.W.nsIn K mainGlobals "enumerate" = some none)
    (z_int : PySem.W.nsIn K mainGlobals "int" = some none)
    (z_isinstance : PySem.W.nsIn K mainGlobals "isinstance" = some none)
    (z_len : PySem.W.nsIn K mainGlobals "len" = some none)
    (z_list : PySem.W.nsIn K mainGlobals "list" = some none)
    (z_max : PySem.W.nsIn K mainGlobals "max" = some none)
    (z_min : PySem.W.nsIn K mainGlobals "min" = some none)
    (z_range : PySem.W.nsIn K mainGlobals "range" = some none)
    (z_str : PySem.W.nsIn K mainGlobals "str" = some none)
    (z_tuple : PySem.W.nsIn K mainGlobals "tuple" = some none)
    (z_zip : PySem.W.nsIn K mainGlobals "zip" = some none)
    : ∃ fd : FuncData, (∀ (s : Shared) (v : Value), BindsTo s fd ⟨[v], []⟩ [("_law_script", v)]) ∧ ∀ base : Heap, K.In base → base.Ns mainGlobals mg → FnOk l.prog w K mg base CX0 6 fa fd ["_law_script"] (sp_law K) := by
  have e := hfa.symm.trans (PySem.W.mg_of X G a19)
  cases e
  have F0 := fun_mk (st := s_law_cell) l0 c0 k0
  have b0 := F0.binds (ps := ["_law_script", "_law_k"]) fun _ _ _ _ _ _ => ln2 (fun _ _ => by rfl)
  have F1 := fun_mk (st := s_law_line) l1 c1 k1
  have b1 := F1.binds (ps := ["_law_row_here", "_law_cell_here"]) fun _ _ _ _ _ _ => ln2 (fun _ _ => by rfl)
  have F2 := fun_mk (st := s_law_signs) l2 c2 k2
  have b2 := F2.binds (ps := []) fun _ _ _ _ _ _ => ln0 (by rfl)
  have F3 := fun_mk (st := s_law_word) l3 c3 k3
  have b3 := F3.binds (ps := ["_law_cell_here"]) fun _ _ _ _ _ _ => ln1 (fun _ => by rfl)
  have F4 := fun_mk (st := s_law_row) l4 c4 k4
  have b4 := F4.binds (ps := ["_law_cell_here", "_law_other", "_law_many"]) fun _ _ _ _ _ _ => ln3 (fun _ _ _ => by rfl)
  have F5 := fun_mk (st := s_law_lines) l5 c5 k5
  have b5 := F5.binds (ps := ["_law_script"]) fun _ _ _ _ _ _ => ln1 (fun _ => by rfl)
  have F6 := fun_mk (st := s_is_whole) l6 c6 k6
  have b6 := F6.binds (ps := ["thing"]) fun _ _ _ _ _ _ => ln1 (fun _ => by rfl)
  have F7 := fun_mk (st := s_is_word) l7 c7 k7
  have b7 := F7.binds (ps := ["number"]) fun _ _ _ _ _ _ => ln1 (fun _ => by rfl)
  have F8 := fun_mk (st := s_fits) l8 c8 k8
  have b8 := F8.binds (ps := ["want", "thing"]) fun _ _ _ _ _ _ => ln2 (fun _ _ => by rfl)
  have F9 := fun_mk (st := s_wants) l9 c9 k9
  have b9 := F9.binds (ps := ["sign"]) fun _ _ _ _ _ _ => ln1 (fun _ => by rfl)
  have F10 := fun_mk (st := s_is_row) l10 c10 k10
  have b10 := F10.binds (ps := ["thing"]) fun _ _ _ _ _ _ => ln1 (fun _ => by rfl)
  have F11 := fun_mk (st := s_number_of) l11 c11 k11
  have b11 := F11.binds (ps := ["word"]) fun _ _ _ _ _ _ => ln1 (fun _ => by rfl)
  have F12 := fun_mk (st := s_words_of) l12 c12 k12
  have b12 := F12.binds (ps := ["line"]) fun _ _ _ _ _ _ => ln1 (fun _ => by rfl)
  have F13 := fun_mk (st := s_read) l13 c13 k13
  have b13 := F13.binds (ps := ["text"]) fun _ _ _ _ _ _ => ln1 (fun _ => by rfl)
  have F14 := fun_mk (st := s_law_told) l14 c14 k14
  have b14 := F14.binds (ps := ["_law_text"]) fun _ _ _ _ _ _ => ln1 (fun _ => by rfl)
  have F15 := fun_mk (st := s_law_beside) l15 c15 k15
  have b15 := F15.binds (ps := ["_law_cell_here"]) fun _ _ _ _ _ _ => ln1 (fun _ => by rfl)
  have F16 := fun_mk (st := s_law_few) l16 c16 k16
  have b16 := F16.binds (ps := ["_law_cell_here"]) fun _ _ _ _ _ _ => ln1 (fun _ => by rfl)
  have F17 := fun_mk (st := s_law_ill) l17 c17 k17
  have b17 := F17.binds (ps := ["_law_cell_here"]) fun _ _ _ _ _ _ => ln1 (fun _ => by rfl)
  have F18 := fun_mk (st := s_law_wrong) l18 c18 k18
  have b18 := F18.binds (ps := ["_law_cell_here"]) fun _ _ _ _ _ _ => ln1 (fun _ => by rfl)
  have F19 := fun_mk (st := s_law) l19 c19 k19
  have y_ValueError := PySem.W.mg_none_of X G z_ValueError
  have y_all := PySem.W.mg_none_of X G z_all
  have y_bool := PySem.W.mg_none_of X G z_bool
  have y_enumerate := PySem.W.mg_none_of X G z_enumerate
  have y_int := PySem.W.mg_none_of X G z_int
  have y_isinstance := PySem.W.mg_none_of X G z_isinstance
  have y_len := PySem.W.mg_none_of X G z_len
  have y_list := PySem.W.mg_none_of X G z_list
  have y_max := PySem.W.mg_none_of X G z_max
  have y_min := PySem.W.mg_none_of X G z_min
  have y_range := PySem.W.mg_none_of X G z_range
  have y_str := PySem.W.mg_none_of X G z_str
  have y_tuple := PySem.W.mg_none_of X G z_tuple
  have y_zip := PySem.W.mg_none_of X G z_zip
  have v_FIGURES := PySem.W.mg_of X G g_FIGURES
  have v_HALF := PySem.W.mg_of X G g_HALF
  have v_MOST_FIGURES := PySem.W.mg_of X G g_MOST_FIGURES
  have v_MOST := PySem.W.mg_of X G g_MOST
  have v_SIGNS := PySem.W.mg_of X G g_SIGNS
  have v_WANTS := PySem.W.mg_of X G g_WANTS
  have v_NoCode := PySem.W.mg_of X G g_NoCode
  have v_NoRow := PySem.W.mg_of X G g_NoRow
  have v_Nought := PySem.W.mg_of X G g_Nought
  have v_WardenError := PySem.W.mg_of X G g_WardenError
  have w_MOST : DiD K w d_MOST kd_MOST := diD_of (ent := [("box", t_MOST_1, .int 7 t_MOST_2), ("make", t_MOST_3, .int 7 t_MOST_4), ("field", t_MOST_5, .int 7 t_MOST_6), ("part", t_MOST_7, .int 7 t_MOST_8), ("place", t_MOST_9, .int 99 t_MOST_10)]) n_MOST_12 q_MOST_11 (show (["box", "make", "field", "part", "place"] : List Str).Nodup by decide +kernel) (.cons ⟨rfl, rdK_int⟩ (.cons ⟨rfl, rdK_int⟩ (.cons ⟨rfl, rdK_int⟩ (.cons ⟨rfl, rdK_int⟩ (.cons ⟨rfl, rdK_int⟩ .nil)))))
  have w_SIGNS : ∀ H : Hp, RdV K H (.ref r_SIGNS_26) kd_SIGNS := rdK_ref (rdK_tup (its := [.str "push" t_SIGNS_1, .str "load" t_SIGNS_2, .str "store" t_SIGNS_3, .str "dup" t_SIGNS_4, .str "swap" t_SIGNS_5, .str "drop" t_SIGNS_6, .str "add" t_SIGNS_7, .str "sub" t_SIGNS_8, .str "mul" t_SIGNS_9, .str "div" t_SIGNS_10, .str "rem" t_SIGNS_11, .str "less" t_SIGNS_12, .str "same" t_SIGNS_13, .str "jump" t_SIGNS_14, .str "zero" t_SIGNS_15, .str "kin" t_SIGNS_16, .str "make" t_SIGNS_17, .str "fill" t_SIGNS_18, .str "begin" t_SIGNS_19, .str "get" t_SIGNS_20, .str "put" t_SIGNS_21, .str "call" t_SIGNS_22, .str "toss" t_SIGNS_23, .str "say" t_SIGNS_24, .str "give" t_SIGNS_25]) q_SIGNS_27 (show 25 ≤ sizeLine by decide) (.cons rdK_str (.cons rdK_str (.cons rdK_str (.cons rdK_str (.cons rdK_str (.cons rdK_str (.cons rdK_str (.cons rdK_str (.cons rdK_str (.cons rdK_str (.cons rdK_str (.cons rdK_str (.cons rdK_str (.cons rdK_str (.cons rdK_str (.cons rdK_str (.cons rdK_str (.cons rdK_str (.cons rdK_str (.cons rdK_str (.cons rdK_str (.cons rdK_str (.cons rdK_str (.cons rdK_str (.cons rdK_str .nil))))))))))))))))))))))))))
  have w_WANTS : DiD K w d_WANTS kd_WANTS := diD_of (ent := [("push", t_WANTS_1, .ref r_WANTS_3), ("load", t_WANTS_5, .ref r_WANTS_7), ("store", t_WANTS_9, .ref r_WANTS_11), ("jump", t_WANTS_13, .ref r_WANTS_15), ("zero", t_WANTS_17, .ref r_WANTS_19), ("kin", t_WANTS_21, .ref r_WANTS_24), ("make", t_WANTS_26, .ref r_WANTS_28), ("fill", t_WANTS_30, .ref r_WANTS_33), ("begin", t_WANTS_35, .ref r_WANTS_37), ("get", t_WANTS_39, .ref r_WANTS_42), ("put", t_WANTS_44, .ref r_WANTS_47), ("call", t_WANTS_49, .ref r_WANTS_51)]) n_WANTS_54 q_WANTS_53 (show (["push", "load", "store", "jump", "zero", "kin", "make", "fill", "begin", "get", "put", "call"] : List Str).Nodup by decide +kernel) (.cons ⟨rfl, (rdK_tup (its := [.str "word" t_WANTS_2]) q_WANTS_4 (show 1 ≤ sizeLine by decide) (.cons rdK_str .nil))⟩ (.cons ⟨rfl, (rdK_tup (its := [.str "box" t_WANTS_6]) q_WANTS_8 (show 1 ≤ sizeLine by decide) (.cons rdK_str .nil))⟩ (.cons ⟨rfl, (rdK_tup (its := [.str "box" t_WANTS_10]) q_WANTS_12 (show 1 ≤ sizeLine by decide) (.cons rdK_str .nil))⟩ (.cons ⟨rfl, (rdK_tup (its := [.str "place" t_WANTS_14]) q_WANTS_16 (show 1 ≤ sizeLine by decide) (.cons rdK_str .nil))⟩ (.cons ⟨rfl, (rdK_tup (its := [.str "place" t_WANTS_18]) q_WANTS_20 (show 1 ≤ sizeLine by decide) (.cons rdK_str .nil))⟩ (.cons ⟨rfl, (rdK_tup (its := [.str "make" t_WANTS_22, .str "place" t_WANTS_23]) q_WANTS_25 (show 2 ≤ sizeLine by decide) (.cons rdK_str (.cons rdK_str .nil)))⟩ (.cons ⟨rfl, (rdK_tup (its := [.str "make" t_WANTS_27]) q_WANTS_29 (show 1 ≤ sizeLine by decide) (.cons rdK_str .nil))⟩ (.cons ⟨rfl, (rdK_tup (its := [.str "make" t_WANTS_31, .str "field" t_WANTS_32]) q_WANTS_34 (show 2 ≤ sizeLine by decide) (.cons rdK_str (.cons rdK_str .nil)))⟩ (.cons ⟨rfl, (rdK_tup (its := [.str "make" t_WANTS_36]) q_WANTS_38 (show 1 ≤ sizeLine by decide) (.cons rdK_str .nil))⟩ (.cons ⟨rfl, (rdK_tup (its := [.str "make" t_WANTS_40, .str "field" t_WANTS_41]) q_WANTS_43 (show 2 ≤ sizeLine by decide) (.cons rdK_str (.cons rdK_str .nil)))⟩ (.cons ⟨rfl, (rdK_tup (its := [.str "make" t_WANTS_45, .str "field" t_WANTS_46]) q_WANTS_48 (show 2 ≤ sizeLine by decide) (.cons rdK_str (.cons rdK_str .nil)))⟩ (.cons ⟨rfl, (rdK_tup (its := [.str "part" t_WANTS_50]) q_WANTS_52 (show 1 ≤ sizeLine by decide) (.cons rdK_str .nil))⟩ .nil))))))))))))
  refine ⟨PySem.W.fnOf "law" "law" (defArgs s_law) (defBody s_law) (defScope s_law) .none kV19 dc19 pm19 an19 cd19 ct19, fun s v => .of_eq rfl, fun base _ _ => ?_⟩
  have Fi_NoRow := fun_mk (st := i_NoRow) ni1_NoRow ni2_NoRow ni3_NoRow
  have bi_NoRow := Fi_NoRow.binds (ps := ["self", "at"]) fun _ _ _ _ _ _ => ln2 (fun _ _ => by rfl)
  have M_NoRow : NewX l.prog w K mg base C_NoRow ["at"] := ⟨⟨ni6_NoRow, ei_NoRow, ni7_NoRow⟩, List.forall_mem_cons.mpr ⟨nj0_NoRow, List.forall_mem_nil _⟩, by decide, ⟨_, _, ⟨ei_NoRow, ni0_NoRow, ni4_NoRow, ni5_NoRow⟩, ok_i_NoRow Fi_NoRow, bi_NoRow⟩⟩
  have H__law_cell : Has l.prog w K mg base CX0 "_law_cell" 1 ["_law_script", "_law_k"] (sp_law_cell K) := ⟨_, _, ok__law_cell F0 (z_len := y_len), b0, k0, PySem.W.mg_of X G a0⟩
  have H__law_line : Has l.prog w K mg base CX0 "_law_line" 1 ["_law_row_here", "_law_cell_here"] (sp_law_line K) := ⟨_, _, ok__law_line F1 (z_str := y_str), b1, k1, PySem.W.mg_of X G a1⟩
  have H__law_signs : Has l.prog w K mg base CX0 "_law_signs" 1 [] (sp_law_signs K) := ⟨_, _, ok__law_signs F2 , b2, k2, PySem.W.mg_of X G a2⟩
  have H__law_word : Has l.prog w K mg base CX0 "_law_word" 1 ["_law_cell_here"] (sp_law_word K) := ⟨_, _, ok__law_word F3 (z_max := y_max) (z_min := y_min), b3, k3, PySem.W.mg_of X G a3⟩
  have H__law_row : Has l.prog w K mg base CX0 "_law_row" 2 ["_law_cell_here", "_law_other", "_law_many"] (sp_law_row K) := ⟨_, _, ok__law_row F4 (h__law_signs := H__law_signs) (h__law_word := H__law_word), b4, k4, PySem.W.mg_of X G a4⟩
  have H__law_lines : Has l.prog w K mg base CX0 "_law_lines" 3 ["_law_script"] (sp_law_lines K) := ⟨_, _, ok__law_lines F5 (z_len := y_len) (z_range := y_range) (h__law_cell := H__law_cell) (h__law_line := H__law_line) (h__law_row := H__law_row), b5, k5, PySem.W.mg_of X G a5⟩
  have H_is_whole : Has l.prog w K mg base CX0 "is_whole" 1 ["thing"] (sp_is_whole K) := ⟨_, _, ok_is_whole F6 (z_bool := y_bool) (z_int := y_int) (z_isinstance := y_isinstance), b6, k6, PySem.W.mg_of X G a6⟩
  have H_is_word : Has l.prog w K mg base CX0 "is_word" 1 ["number"] (sp_is_word K) := ⟨_, _, ok_is_word F7 (g_HALF := v_HALF) (r_HALF := ⟨_, rfl⟩), b7, k7, PySem.W.mg_of X G a7⟩
  have H_fits : Has l.prog w K mg base CX0 "fits" 2 ["want", "thing"] (sp_fits K) := ⟨_, _, ok_fits F8 (g_MOST := v_MOST) (c_MOST := w_MOST) (h_is_whole := H_is_whole) (h_is_word := H_is_word), b8, k8, PySem.W.mg_of X G a8⟩
  have H_wants : Has l.prog w K mg base CX0 "wants" 1 ["sign"] (sp_wants K) := ⟨_, _, ok_wants F9 (g_WANTS := v_WANTS) (c_WANTS := w_WANTS), b9, k9, PySem.W.mg_of X G a9⟩
  have H_is_row : Has l.prog w K mg base CX0 "is_row" 3 ["thing"] (sp_is_row K) := ⟨_, _, ok_is_row F10 (z_all := y_all) (z_isinstance := y_isinstance) (z_len := y_len) (z_str := y_str) (z_tuple := y_tuple) (z_zip := y_zip) (g_SIGNS := v_SIGNS) (c_SIGNS := w_SIGNS) (o_SIGNS := ⟨_, q_SIGNS_27, rfl, rfl⟩) (h_fits := H_fits) (h_wants := H_wants), b10, k10, PySem.W.mg_of X G a10⟩
  have H_number_of : Has l.prog w K mg base CX0 "number_of" 1 ["word"] (sp_number_of K) := ⟨_, _, ok_number_of F11 (z_all := y_all) (z_int := y_int) (z_len := y_len) (g_FIGURES := v_FIGURES) (r_FIGURES := ⟨_, rfl⟩) (g_MOST_FIGURES := v_MOST_FIGURES) (r_MOST_FIGURES := ⟨_, rfl⟩), b11, k11, PySem.W.mg_of X G a11⟩
  have H_words_of : Has l.prog w K mg base CX0 "words_of" 1 ["line"] (sp_words_of K) := ⟨_, _, ok_words_of F12 , b12, k12, PySem.W.mg_of X G a12⟩
  have H_read : Has l.prog w K mg base (CX2 l.prog w) "read" 4 ["text"] (sp_read K mg) := ⟨_, _, ok_read F13 (z_enumerate := y_enumerate) (z_len := y_len) (z_tuple := y_tuple) (g_NoRow := v_NoRow) (w_NoRow := w_NoRow) (m_NoRow := M_NoRow) (h_is_row := H_is_row) (h_number_of := H_number_of) (h_words_of := H_words_of), b13, k13, PySem.W.mg_of X G a13⟩
  have H__law_told : Has l.prog w K mg base CX0 "_law_told" 5 ["_law_text"] (sp_law_told K) := ⟨_, _, ok__law_told F14 (z_ValueError := y_ValueError) (z_bool := y_bool) (z_isinstance := y_isinstance) (g_NoCode := v_NoCode) (w_NoCode := w_NoCode) (g_NoRow := v_NoRow) (w_NoRow := w_NoRow) (g_Nought := v_Nought) (w_Nought := w_Nought) (e_Nought := e_Nought) (g_WardenError := v_WardenError) (w_WardenError := w_WardenError) (e_WardenError := e_WardenError) (h_read := H_read) (kx1_NoRow := kx1_NoRow) (kx2_NoRow := kx2_NoRow) (kx3_NoRow := kx3_NoRow) (kx4_NoRow := kx4_NoRow) (kx5_NoRow := kx5_NoRow) (kx6_NoRow := kx6_NoRow) (m_RW := m_RW) (na_NoRow := na_NoRow) (i_RR := i_RR) (i_RV := i_RV) (i_RC := i_RC) (i_RN := i_RN), b14, k14, PySem.W.mg_of X G a14⟩
  have H__law_beside : Has l.prog w K mg base CX0 "_law_beside" 2 ["_law_cell_here"] (sp_law_beside K) := ⟨_, _, ok__law_beside F15 (z_str := y_str) (h__law_signs := H__law_signs), b15, k15, PySem.W.mg_of X G a15⟩
  have H__law_few : Has l.prog w K mg base CX0 "_law_few" 1 ["_law_cell_here"] (sp_law_few K) := ⟨_, _, ok__law_few F16 (z_str := y_str), b16, k16, PySem.W.mg_of X G a16⟩
  have H__law_ill : Has l.prog w K mg base CX0 "_law_ill" 1 ["_law_cell_here"] (sp_law_ill K) := ⟨_, _, ok__law_ill F17 , b17, k17, PySem.W.mg_of X G a17⟩
  have H__law_wrong : Has l.prog w K mg base CX0 "_law_wrong" 3 ["_law_cell_here"] (sp_law_wrong K) := ⟨_, _, ok__law_wrong F18 (h__law_beside := H__law_beside) (h__law_few := H__law_few) (h__law_ill := H__law_ill) (h__law_signs := H__law_signs), b18, k18, PySem.W.mg_of X G a18⟩
  exact ok_law (P := l.prog) (w := w) (base := base) F19 (z_isinstance := y_isinstance) (z_len := y_len) (z_list := y_list) (h__law_cell := H__law_cell) (h__law_lines := H__law_lines) (h__law_told := H__law_told) (h__law_wrong := H__law_wrong) (h_read := H_read)
theorem walk {l : PySem.W.OpenLaw} {q : Program} {loose : List Str} {XP : (Str → Option Value) → Heap → Prop} {YP : World → Heap → Prop} {d : DefRec} {K : Params → PySem.W.Frag} (hn : l.most = some 63) (hdf : d.params.defaults = [])
    (hY : ∀ (w : World) (h : Heap), YP w h → (K w.params).In h)
    (F : ∀ (w : World) (mg : Str → Option Value) (fa : Addr) (h : Heap), (K w.params).In h → h.Ns mainGlobals mg → mg d.name = some (.ref fa) →
      ∃ fd : FuncData, (∀ (s : Shared) (u : Value), BindsTo s fd ⟨[u], []⟩ [("_law_script", u)]) ∧ ∀ base : Heap, (K w.params).In base → base.Ns mainGlobals mg → FnOk l.prog w (K w.params) mg base CX0 6 fa fd ["_law_script"] (sp_law (K w.params))) :
    PySem.W.WalkO q loose XP YP l.row.toRowW d [] (fun f vs => PySem.call f vs) :=
  L2.walk_of (n := 63) (k := 6) (x := "_law_script") (CX := fun _ => CX0) (sp := fun w => sp_law (K w.params)) hn (by decide) hdf ⟨rfl, by decide, by decide, rfl⟩ hY F (fun _ _ a ns hl _ hS => ⟨a, ns, rfl, hS, hl, fun _ => rfl⟩) fun _ _ _ _ _ z => z
end Mine
open PySem PySem.W PyProof.Rows
set_option maxRecDepth 100000 in
set_option maxHeartbeats 0 in
theorem PySem.Challenge.cw_stackwarden_k18_lines_read_holds : PySem.Challenge.rw_stackwarden_k18_lines_read.Holds := by
  w_on; o_law; k_head; (case hw => w_witness2)
  k_fill
  refine Mine.walk (l := PySem.Challenge.rw_stackwarden_k18_lines_read) rfl rfl (fun w h Y => PySem.W.kIn_of Y) ?F
  case F =>
    intro w mg fa h KX G hmg
    refine' Mine.all_mk KX G hmg ?a0 ?l0 ?c0 ?k0 ?a1 ?l1 ?c1 ?k1 ?a2 ?l2 ?c2 ?k2 ?a3 ?l3 ?c3 ?k3 ?a4 ?l4 ?c4 ?k4 ?a5 ?l5 ?c5 ?k5 ?a6 ?l6 ?c6 ?k6 ?a7 ?l7 ?c7 ?k7 ?a8 ?l8 ?c8 ?k8 ?a9 ?l9 ?c9 ?k9 ?a10 ?l10 ?c10 ?k10 ?a11 ?l11 ?c11 ?k11 ?a12 ?l12 ?c12 ?k12 ?a13 ?l13 ?c13 ?k13 ?a14 ?l14 ?c14 ?k14 ?a15 ?l15 ?c15 ?k15 ?a16 ?l16 ?c16 ?k16 ?a17 ?l17 ?c17 ?k17 ?a18 ?l18 ?c18 ?k18 ?a19 ?l19 ?c19 ?k19 ?g_FIGURES ?g_HALF ?g_MOST_FIGURES ?g_NoCode ?w_NoCode ?g_NoRow ?w_NoRow ?g_Nought ?e_Nought ?w_Nought ?g_WardenError ?e_WardenError ?w_WardenError ?ni0_NoRow ?ni1_NoRow ?ni2_NoRow ?ni3_NoRow ?ni4_NoRow ?ni5_NoRow ?ni6_NoRow ?ni7_NoRow ?ei_NoRow ?nj0_NoRow ?kx1_NoRow ?kx2_NoRow ?kx3_NoRow ?kx4_NoRow ?kx5_NoRow ?kx6_NoRow ?m_RW ?na_NoRow ?i_RR ?i_RV ?i_RC ?i_RN ?g_MOST ?n_MOST_12 ?q_MOST_11 ?g_SIGNS ?q_SIGNS_27 ?g_WANTS ?n_WANTS_54 ?q_WANTS_53 ?q_WANTS_52 ?q_WANTS_48 ?q_WANTS_43 ?q_WANTS_38 ?q_WANTS_34 ?q_WANTS_29 ?q_WANTS_25 ?q_WANTS_20 ?q_WANTS_16 ?q_WANTS_12 ?q_WANTS_8 ?q_WANTS_4 ?z_ValueError ?z_all ?z_bool ?z_enumerate ?z_int ?z_isinstance ?z_len ?z_list ?z_max ?z_min ?z_range ?z_str ?z_tuple ?z_zip
    (case a0 => k_is)
    (case l0 => k_is)
    (case c0 => k_is)
    (case k0 => k_is)
    (case a1 => k_is)
    (case l1 => k_is)
    (case c1 => k_is)
    (case k1 => k_is)
    (case a2 => k_is)
    (case l2 => k_is)
    (case c2 => k_is)
    (case k2 => k_is)
    (case a3 => k_is)
    (case l3 => k_is)
    (case c3 => k_is)
    (case k3 => k_is)
    (case a4 => k_is)
    (case l4 => k_is)
    (case c4 => k_is)
    (case k4 => k_is)
    (case a5 => k_is)
    (case l5 => k_is)
    (case c5 => k_is)
    (case k5 => k_is)
    (case a6 => k_is)
    (case l6 => k_is)
    (case c6 => k_is)
    (case k6 => k_is)
    (case a7 => k_is)
    (case l7 => k_is)
    (case c7 => k_is)
    (case k7 => k_is)
    (case a8 => k_is)
    (case l8 => k_is)
    (case c8 => k_is)
    (case k8 => k_is)
    (case a9 => k_is)
    (case l9 => k_is)
    (case c9 => k_is)
    (case k9 => k_is)
    (case a10 => k_is)
    (case l10 => k_is)
    (case c10 => k_is)
    (case k10 => k_is)
    (case a11 => k_is)
    (case l11 => k_is)
    (case c11 => k_is)
    (case k11 => k_is)
    (case a12 => k_is)
    (case l12 => k_is)
    (case c12 => k_is)
    (case k12 => k_is)
    (case a13 => k_is)
    (case l13 => k_is)
    (case c13 => k_is)
    (case k13 => k_is)
    (case a14 => k_is)
    (case l14 => k_is)
    (case c14 => k_is)
    (case k14 => k_is)
    (case a15 => k_is)
    (case l15 => k_is)
    (case c15 => k_is)
    (case k15 => k_is)
    (case a16 => k_is)
    (case l16 => k_is)
    (case c16 => k_is)
    (case k16 => k_is)
    (case a17 => k_is)
    (case l17 => k_is)
    (case c17 => k_is)
    (case k17 => k_is)
    (case a18 => k_is)
    (case l18 => k_is)
    (case c18 => k_is)
    (case k18 => k_is)
    (case a19 => k_is)
    (case l19 => k_is)
    (case c19 => k_is)
    (case k19 => k_is)
    (case g_FIGURES => k_is)
    (case g_HALF => k_is)
    (case g_MOST_FIGURES => k_is)
    (case g_NoCode => k_is)
    (case w_NoCode => kts_isx)
    (case g_NoRow => k_is)
    (case w_NoRow => kts_isx)
    (case g_Nought => k_is)
    (case e_Nought => k_exc)
    (case w_Nought => kts_isx)
    (case g_WardenError => k_is)
    (case e_WardenError => k_exc)
    (case w_WardenError => kts_isx)
    (case ni0_NoRow => k_is)
    (case ni1_NoRow => k_is)
    (case ni2_NoRow => k_is)
    (case ni3_NoRow => k_is)
    (case ni4_NoRow => k_is)
    (case ni5_NoRow => k_is)
    (case ni6_NoRow => k_is)
    (case ni7_NoRow => k_is)
    (case ei_NoRow => kernel_rfl!)
    (case nj0_NoRow => k_is)
    (case kx1_NoRow => k_is)
    (case kx2_NoRow => k_is)
    (case kx3_NoRow => k_is)
    (case kx4_NoRow => k_is)
    (case kx5_NoRow => k_is)
    (case kx6_NoRow => k_is)
    (case m_RW => k_is)
    (case na_NoRow => k_is)
    (case i_RR => kit_is)
    (case i_RV => kit_is)
    (case i_RC => kit_is)
    (case i_RN => kit_is)
    (case g_MOST => k_is)
    (case n_MOST_12 => first | rfl | decide | k_is)
    (case q_MOST_11 => k_is)
    (case g_SIGNS => k_is)
    (case q_SIGNS_27 => k_is)
    (case g_WANTS => k_is)
    (case n_WANTS_54 => first | rfl | decide | k_is)
    (case q_WANTS_53 => k_is)
    (case q_WANTS_52 => k_is)
    (case q_WANTS_48 => k_is)
    (case q_WANTS_43 => k_is)
    (case q_WANTS_38 => k_is)
    (case q_WANTS_34 => k_is)
    (case q_WANTS_29 => k_is)
    (case q_WANTS_25 => k_is)
    (case q_WANTS_20 => k_is)
    (case q_WANTS_16 => k_is)
    (case q_WANTS_12 => k_is)
    (case q_WANTS_8 => k_is)
    (case q_WANTS_4 => k_is)
    (case z_ValueError => k_is)
    (case z_all => k_is)
    (case z_bool => k_is)
    (case z_enumerate => k_is)
    (case z_int => k_is)
    (case z_isinstance => k_is)
    (case z_len => k_is)
    (case z_list => k_is)
    (case z_max => k_is)
    (case z_min => k_is)
    (case z_range => k_is)
    (case z_str => k_is)
    (case z_tuple => k_is)
    (case z_zip => k_is)
#print axioms PySem.Challenge.cw_stackwarden_k18_lines_read_holds
