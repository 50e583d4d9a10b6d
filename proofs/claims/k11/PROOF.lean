import PyProof.Rows.All
import Wide.All
import OpenK.AllK
import Wide.FinOn
import Lean
import PyProof.EqAt
import PyProof.EqKinds
import PyProof.TupleCall
import PySem.Challenge.RW_fewthings_k11_books_told
-- CHANGE: your row's module here, as the last of these rows
set_option Elab.async false
set_option linter.all false
set_option maxRecDepth 100000
/-! THE HAND LAYER, for ints, bools, texts, own classes, LISTS and tuples (index, slices, in, append, pop ..), calls, loops. Paste it whole ahead of your own text; what your proof does not reach may be deleted. -/
namespace L2
open PySem PySem.Spec PyProof.Rows

/-- a key: an int or a str -/
abbrev Key := Sum Int Str
def keyIs : Key → Value → Bool
  | .inl k, v => Value.isInt k v
  | .inr x, v => Value.isStrOf x v
def keyH (w : World) : Key → Int
  | .inl k => hashInt k
  | .inr x => hashStr w x
theorem keyIs_shape : ∀ {k : Key} {v : Value}, keyIs k v = true → (∃ i t, k = Sum.inl i ∧ v = Value.int i t) ∨ (∃ x t, k = Sum.inr x ∧ v = Value.str x t)
  | .inl i, v, h => by
    obtain ⟨t, e⟩ := Value.isInt_shape (k := i) (v := v) h
    exact .inl ⟨i, t, rfl, e⟩
  | .inr x, v, h => by
    obtain ⟨t, e⟩ := Value.isStrOf_shape (x := x) (v := v) h
    exact .inr ⟨x, t, rfl, e⟩
theorem keyIs_int (i : Int) (t : Tok) : keyIs (.inl i) (.int i t) = true := by simp [keyIs, Value.isInt]
theorem keyIs_str (x : Str) (t : Tok) : keyIs (.inr x) (.str x t) = true := by simp [keyIs, Value.isStrOf]
theorem key_ll (a b : Int) : decide ((Sum.inl a : Key) = Sum.inl b) = (a == b) := by
  by_cases e : a = b
  · subst e; simp
  · have h : ¬ (Sum.inl a : Key) = Sum.inl b := fun q => e (Sum.inl.inj q)
    rw [decide_eq_false h]
    exact (beq_eq_false_iff_ne.mpr e).symm
theorem key_rr (a b : Str) : decide ((Sum.inr a : Key) = Sum.inr b) = decide (a = b) := by
  by_cases e : a = b
  · subst e; simp
  · have h : ¬ (Sum.inr a : Key) = Sum.inr b := fun q => e (Sum.inr.inj q)
    rw [decide_eq_false h, decide_eq_false e]
theorem key_lr (a : Int) (b : Str) : decide ((Sum.inl a : Key) = Sum.inr b) = false := decide_eq_false (fun q => nomatch q)
theorem key_rl (a : Str) (b : Int) : decide ((Sum.inr a : Key) = Sum.inl b) = false := decide_eq_false (fun q => nomatch q)

def mixKind (prog : Program) (w : World) : PySem.KeyKind prog w Key where
  is := keyIs
  hash := keyH w
  inj := fun v a b ha hb => by
    rcases keyIs_shape ha with ⟨i, t, rfl, rfl⟩ | ⟨x, t, rfl, rfl⟩
    · rcases keyIs_shape hb with ⟨j, u, rfl, e⟩ | ⟨y, u, rfl, e⟩
      · injection e with e1 _; rw [e1]
      · exact nomatch e
    · rcases keyIs_shape hb with ⟨j, u, rfl, e⟩ | ⟨y, u, rfl, e⟩
      · exact nomatch e
      · injection e with e1 _; rw [e1]
  byValue := fun k v h => by
    rcases keyIs_shape h with ⟨i, t, rfl, rfl⟩ | ⟨x, t, rfl, rfl⟩ <;> rfl
  pyHash := fun hv h => by
    rcases keyIs_shape hv with ⟨i, t, rfl, rfl⟩ | ⟨x, t, rfl, rfl⟩
    · exact wpAny_pyHash_int h
    · exact wpAny_pyHash_str h
  eqBool := fun hu hv h => by
    rcases keyIs_shape hu with ⟨i, t, rfl, rfl⟩ | ⟨x, t, rfl, rfl⟩
    · rcases keyIs_shape hv with ⟨j, u, rfl, rfl⟩ | ⟨y, u, rfl, rfl⟩
      · rw [key_ll] at h; exact wpAny_eqBool_int h
      · rw [key_lr] at h; exact SeqAt.EqAt.int_str i t y u _ _ _ _ h
    · rcases keyIs_shape hv with ⟨j, u, rfl, rfl⟩ | ⟨y, u, rfl, rfl⟩
      · rw [key_rl] at h; exact SeqAt.EqAt.str_int x t j u _ _ _ _ h
      · rw [key_rr] at h; exact wpAny_eqBool_str h
  «strs» := fun k x t v h => by
    rcases keyIs_shape h with ⟨i, u, rfl, e⟩ | ⟨y, u, rfl, e⟩
    · exact nomatch e
    · injection e with e1 _
      subst e1
      cases v <;> rfl

theorem mixKind_is (prog : Program) (w : World) (k : Key) (v : Value) : (mixKind prog w).is k v = keyIs k v := rfl
theorem mixKind_int (prog : Program) (w : World) (i : Int) (t : Tok) : (mixKind prog w).is (.inl i) (.int i t) = true := keyIs_int i t
theorem mixKind_str (prog : Program) (w : World) (x : Str) (t : Tok) : (mixKind prog w).is (.inr x) (.str x t) = true := keyIs_str x t
end L2

namespace L2
open PySem PySem.Spec PyProof.Rows

/-- a value, without the heap -/
inductive V where
  | non | bl (b : Bool) | int (i : Int) | str (x : Str) | byt (b : Array UInt8) | flt (b : UInt64) | ref (a : Addr) | ty (n : String)
  deriving DecidableEq

def RelV : V → Value → Prop
  | .non, u => u = Value.none
  | .bl b, u => u = Value.bool b
  | .int i, u => ∃ t, u = Value.int i t
  | .str x, u => ∃ t, u = Value.str x t
  | .byt b, u => ∃ t, u = Value.bytes b t
  | .flt b, u => ∃ t, u = Value.float b t
  | .ref a, u => u = Value.ref a
  | .ty n, u => u = Value.type n

abbrev Vals : List V → List Value → Prop := Paired RelV
theorem Vals.length {xs : List V} {us : List Value} (r : Vals xs us) : xs.length = us.length := Paired.length r
theorem Vals.get : ∀ {xs : List V} {us : List Value} {i : Nat} {x : V}, Vals xs us → xs[i]? = some x → ∃ u, us[i]? = some u ∧ RelV x u
  | _, _, _, _, .nil, e => by simp at e
  | _, _, 0, _, .cons r _, e => by simp at e; subst e; exact ⟨_, rfl, r⟩
  | _, _, i + 1, x, .cons _ t, e => by
    obtain ⟨u, h1, h2⟩ := Vals.get (i := i) (x := x) t (by simpa using e)
    exact ⟨u, by simpa using h1, h2⟩
theorem Vals.set {x : V} {u : Value} (r : RelV x u) : ∀ {xs : List V} {us : List Value} (i : Nat), Vals xs us → Vals (xs.set i x) (us.set i u)
  | _, _, _, .nil => .nil
  | _, _, 0, .cons _ t => .cons r t
  | _, _, i + 1, .cons q t => .cons q (Vals.set r i t)
theorem Vals.append : ∀ {xs ys : List V} {us ws : List Value}, Vals xs us → Vals ys ws → Vals (xs ++ ys) (us ++ ws)
  | _, _, _, _, .nil, s => s
  | _, _, _, _, .cons r t, s => .cons r (Vals.append t s)
theorem Vals.take : ∀ {xs : List V} {us : List Value} (n : Nat), Vals xs us → Vals (xs.take n) (us.take n)
  | _, _, 0, _ => .nil
  | _, _, _ + 1, .nil => .nil
  | _, _, n + 1, .cons r t => .cons r (Vals.take n t)
theorem Vals.drop : ∀ {xs : List V} {us : List Value} (n : Nat), Vals xs us → Vals (xs.drop n) (us.drop n)
  | _, _, 0, r => r
  | _, _, _ + 1, .nil => .nil
  | _, _, n + 1, .cons _ t => Vals.drop n t
theorem Vals.none_of : ∀ {xs : List V} {us : List Value} {i : Nat}, Vals xs us → xs[i]? = none → us[i]? = none := fun {xs us i} r e => by
  have h1 := r.length
  have h2 : xs.length ≤ i := List.getElem?_eq_none_iff.mp e
  exact List.getElem?_eq_none_iff.mpr (by omega)

def RelO : Option V → Option Value → Prop
  | some v, some u => RelV v u
  | none, none => True
  | _, _ => False
def KV {κ : Type} : List (κ × V) → List (κ × Value) → Prop := Paired fun (p : κ × V) (q : κ × Value) => p.1 = q.1 ∧ RelV p.2 q.2

/-- a key of a dict (00_mix): an int or a text -/
def kV : Key → V
  | .inl i => .int i
  | .inr x => .str x

/-- what stands at a tracked address -/
inductive HO where
  /-- a list -/
  | lst (xs : List V)
  /-- a tuple (never changes) -/
  | tup (xs : List V)
  /-- a dict whose keys are ints and texts; one whose keys are tuples of ints and texts (the empty one is both) -/
  | dK (kvs : List (Key × V)) | dT (kvs : List (List Key × V))
  /-- a set of ints: its members, its size -/
  | set (S : Int → Bool) (n : Nat)
  /-- an instance of the class at C, its dict at dx, its attributes -/
  | ins (C dx : Addr) (fs : List (Str × V))
  /-- the dict of the instance at x -/
  | own (x : Addr)
  /-- the dict of an exception -/
  | xd (fs : List (Str × V))
  /-- a bound method, f of x -/
  | met (f x : Addr)
  /-- a range object lo, lo + 1, .. below hi -/
  | rng (lo hi : Int)
  /-- a thing that is known to the object (the script; a dict while a loop walks it): read, never written while it is so -/
  | frz (o : Obj) (u : HO)
  /-- a code object's table -/
  | tbl (ps : Array Value)
  /-- any other thing, by what is true of its one object (a def of one's own: SetO a S n := HO.ext fun h => ..) -/
  | ext (φ : Heap → Prop)

abbrev Hp := Addr → Option HO
def upd (H : Hp) (a : Addr) (o : HO) : Hp := fun b => if b = a then some o else H b
theorem upd_same {H : Hp} {a : Addr} {o : HO} : upd H a o a = some o := by unfold upd; rw [if_pos rfl]
theorem upd_ne {H : Hp} {a b : Addr} {o : HO} (h : b ≠ a) : upd H a o b = H b := by unfold upd; rw [if_neg h]
theorem upd_upd {H : Hp} {a : Addr} {o u : HO} : upd (upd H a o) a u = upd H a u := by
  funext b; unfold upd; split <;> rfl
/-- two objects of different content stand apart -/
theorem ne_of {H : Hp} {a b : Addr} {o u : HO} (h : H a = some o) (h' : H b = some u) (d : o ≠ u) : a ≠ b := by
  intro e; subst e; rw [h] at h'; exact d (Option.some.inj h')
theorem ne_of_none {H : Hp} {a b : Addr} {o : HO} (h : H a = some o) (h' : H b = none) : a ≠ b := by
  intro e; subst e; rw [h] at h'; cases h'

section
variable (P : Program) (w : World)
def ObjOk (H : Hp) (h : Heap) (a : Addr) : HO → Prop
  | .lst xs => xs.length ≤ sizeLine ∧ ∃ (its : List Value) (n : Nat), Vals xs its ∧ h.get? a = some { cls := .type "list", data := .seq its.toArray n }
  | .tup xs => xs.length ≤ sizeLine ∧ ∃ its : List Value, Vals xs its ∧ IsTup h a its.toArray
  | .dK kvs => kvs.length ≤ sizeLine ∧ (a == sysModules) = false ∧ ∃ vs, KV kvs vs ∧ h.DictOf (mixKind P w) a vs
  | .dT kvs => kvs.length ≤ sizeLine ∧ (a == sysModules) = false ∧ ∃ xs : List (List Key × Addr × Value),
      Paired (fun (p : List Key × V) (q : List Key × Addr × Value) => p.1 = q.1 ∧ H q.2.1 = some (.tup (p.1.map kV)) ∧ RelV p.2 q.2.2) kvs xs ∧
      ∃ o es ep, h.get? a = some o ∧ o.ExactDict ∧ o.data = .dict es ep ∧ es.toList = xs.map (entryOfKey (tupleKind (mixKind P w))) ∧ (xs.map (·.1)).Nodup
  | .set S n => h.SetOf (intKind P w) a S n
  | .ins C dx fs => H dx = some (.own a) ∧ fs.length ≤ 1000 ∧ dx ≠ a ∧ h.get? a = some (PySem.W.instObj C dx) ∧
      ∃ mA, h.Ns1 dx mA ∧ (∀ f, RelO (fs.lookup f) (mA f)) ∧ PySem.Within mA (fs.map (·.1))
  | .own _ => ∃ o, h.get? a = some o
  | .xd fs => ∃ mA, h.Ns1 a mA ∧ ∀ f, RelO (fs.lookup f) (mA f)
  | .rng lo hi => ∃ t u v, h.get? a = some { cls := .type "range", data := .fields #[.int lo t, .int hi u, .int 1 v] }
  | .frz o u => h.get? a = some o ∧ ObjOk H h a u
  | .tbl ps => h.get? a = some { cls := .none, data := .fields ps }
  | .met f x => h.get? a = some (PySem.W.methodObj (.ref f) (.ref x))
  | .ext φ => φ h ∧ (∃ o, h.get? a = some o) ∧ ∀ h1 h2 : Heap, φ h1 → (∀ o, h1.get? a = some o → h2.get? a = some o) → φ h2
/-- the abstract heap is held -/
def HOk (H : Hp) (h : Heap) : Prop := ∀ a o, H a = some o → ObjOk P w H h a o
end

section
variable {P : Program} {w : World} {H H' : Hp} {h h' : Heap} {a : Addr} {o : HO}
theorem ObjOk.lt (x : ObjOk P w H h a o) : a < h.objs.size := by
  cases o with
  | lst xs => obtain ⟨_, _, _, _, e⟩ := x; exact Heap.lt_size e
  | tup xs => obtain ⟨_, _, _, p⟩ := x; exact p.lt
  | dK kvs => obtain ⟨_, _, _, _, o, _, _, e, _⟩ := x; exact Heap.lt_size e
  | dT kvs => obtain ⟨_, _, _, _, o, _, _, e, _⟩ := x; exact Heap.lt_size e
  | set S n => obtain ⟨o, _, _, _, e, _⟩ := x; exact Heap.lt_size e
  | ins C dx fs => obtain ⟨_, _, _, e, _⟩ := x; exact Heap.lt_size e
  | own y => obtain ⟨_, e⟩ := x; exact Heap.lt_size e
  | xd fs => obtain ⟨_, ⟨_, _, _, e, _⟩, _⟩ := x; exact Heap.lt_size e
  | rng lo hi => obtain ⟨_, _, _, e⟩ := x; exact Heap.lt_size e
  | frz ob u => obtain ⟨e, _⟩ := x; exact Heap.lt_size e
  | tbl ps => exact Heap.lt_size (show h.get? a = some _ from x)
  | met f y => exact Heap.lt_size (show h.get? a = some _ from x)
  | ext φ => obtain ⟨_, ⟨_, e⟩, _⟩ := x; exact Heap.lt_size e
theorem Paired.mapP {α β : Type} {F G : α → β → Prop} : ∀ {l₁ : List α} {l₂ : List β}, Paired F l₁ l₂ → (∀ a b, F a b → G a b) → Paired G l₁ l₂
  | _, _, .nil, _ => .nil
  | _, _, .cons r t, f => .cons (f _ _ r) (Paired.mapP t f)
theorem Paired.imp' {α β : Type} {F G : α → β → Prop} (f : ∀ a b, F a b → G a b) {l₁ : List α} {l₂ : List β} (r : Paired F l₁ l₂) : Paired G l₁ l₂ := Paired.mapP r f
/-- what an object's description leans on: its own object, its own dict, the tuples -/
theorem ObjOk.stay (x : ObjOk P w H h a o) (k : ∀ b u, (b = a ∨ H b = some (.own a)) → h.get? b = some u → h'.get? b = some u)
    (ho : ∀ b, H b = some (.own a) → H' b = some (.own a)) (ht : ∀ b xs, H b = some (.tup xs) → H' b = some (.tup xs)) : ObjOk P w H' h' a o := by
  induction o with
  | lst xs => obtain ⟨z, its, n, r, e⟩ := x; exact ⟨z, its, n, r, k _ _ (.inl rfl) e⟩
  | tup xs => obtain ⟨z, its, r, ob, e, c⟩ := x; exact ⟨z, its, r, ob, k _ _ (.inl rfl) e, c⟩
  | dK kvs => obtain ⟨z, y, vs, r, ob, es, ep, e, c⟩ := x; exact ⟨z, y, vs, r, ob, es, ep, k _ _ (.inl rfl) e, c⟩
  | dT kvs =>
    obtain ⟨z, y, xs, r, ob, es, ep, e, c⟩ := x
    exact ⟨z, y, xs, Paired.mapP r fun p q z => ⟨z.1, ht _ _ z.2.1, z.2.2⟩, ob, es, ep, k _ _ (.inl rfl) e, c⟩
  | set S n => obtain ⟨ob, es, ep, t, e, c⟩ := x; exact ⟨ob, es, ep, t, k _ _ (.inl rfl) e, c⟩
  | ins C dx fs =>
    obtain ⟨d, z, ne, e, mA, ⟨od, es, ep, e2, c⟩, r⟩ := x
    exact ⟨ho _ d, z, ne, k _ _ (.inl rfl) e, mA, ⟨od, es, ep, k _ _ (.inr d) e2, c⟩, r⟩
  | own y => obtain ⟨ob, e⟩ := x; exact ⟨ob, k _ _ (.inl rfl) e⟩
  | xd fs => obtain ⟨mA, ⟨od, es, ep, e, c⟩, r⟩ := x; exact ⟨mA, ⟨od, es, ep, k _ _ (.inl rfl) e, c⟩, r⟩
  | rng lo hi => obtain ⟨t, u, v, e⟩ := x; exact ⟨t, u, v, k _ _ (.inl rfl) e⟩
  | frz ob u ih => obtain ⟨e, q⟩ := x; exact ⟨k _ _ (.inl rfl) e, ih q⟩
  | tbl ps =>
    have e : h.get? a = some { cls := .none, data := .fields ps } := x
    show h'.get? a = some { cls := .none, data := .fields ps }
    exact k a _ (.inl rfl) e
  | met f y =>
    have e : h.get? a = some (PySem.W.methodObj (.ref f) (.ref y)) := x
    show h'.get? a = some (PySem.W.methodObj (.ref f) (.ref y))
    exact k a _ (.inl rfl) e
  | ext φ => obtain ⟨p, ⟨o, e⟩, st⟩ := x; exact ⟨st _ _ p fun o q => k _ _ (.inl rfl) q, ⟨o, k _ _ (.inl rfl) e⟩, st⟩
theorem HOk.lt (x : HOk P w H h) (e : H a = some o) : a < h.objs.size := (x a o e).lt
theorem HOk.fresh (x : HOk P w H h) (e : h.objs.size ≤ a) : H a = none := by
  cases q : H a with
  | none => rfl
  | some u => exact absurd (Nat.lt_of_lt_of_le (x.lt q) e) (Nat.lt_irrefl _)
/-- every object of the heap is kept -/
theorem HOk.kept (x : HOk P w H h) (k : ∀ b u, h.get? b = some u → h'.get? b = some u) : HOk P w H h' := fun a o e =>
  (x a o e).stay (fun b u _ q => k b u q) (fun _ q => q) fun _ _ q => q
/-- a new object is laid and tracked -/
theorem HOk.laid (x : HOk P w H h) (k : ∀ b u, h.get? b = some u → h'.get? b = some u) (hp : h.objs.size ≤ a) (new : ObjOk P w (upd H a o) h' a o) : HOk P w (upd H a o) h' := fun b u e => by
  have hn := x.fresh hp
  by_cases hb : b = a
  · subst hb; rw [upd_same] at e; cases e; exact new
  · rw [upd_ne hb] at e
    exact (x b u e).stay (fun c v _ q => k c v q) (fun c q => by rw [upd_ne (ne_of_none q hn)]; exact q) fun c xs q => by rw [upd_ne (ne_of_none q hn)]; exact q
end

/-- what may be read as u: it is u, or a known u -/
def Rd (H : Hp) (a : Addr) (u : HO) : Prop := H a = some u ∨ ∃ o, H a = some (.frz o u)
theorem Rd.of {H : Hp} {a : Addr} {u : HO} (h : H a = some u) : Rd H a u := .inl h
theorem Rd.ok {P : Program} {w : World} {H : Hp} {h : Heap} {a : Addr} {u : HO} (r : Rd H a u) (x : HOk P w H h) : ObjOk P w H h a u := by
  rcases r with r | ⟨o, r⟩
  · exact x a u r
  · obtain ⟨_, q⟩ := x a _ r
    exact q
/-- what may be written -/
def Mut : Option HO → Prop
  | some (.lst _) => True
  | some (.dK _) => True
  | some (.dT _) => True
  | some (.set _ _) => True
  | some (.ins _ _ _) => True
  | some (.ext _) => True
  | _ => False
section
variable {P : Program} {w : World} {H : Hp} {h h' : Heap} {x e : Addr} {o' : HO}
/-- the object at e is changed: x itself, or the dict of the instance x -/
theorem HOk.write (ok : HOk P w H h) (mu : Mut (H x)) (he : e = x ∨ H e = some (.own x)) (k : ∀ b u, b ≠ e → h.get? b = some u → h'.get? b = some u) (heo : ∃ u, h'.get? e = some u)
    (new : ObjOk P w (upd H x o') h' x o') : HOk P w (upd H x o') h' := fun b u q => by
  have nown : ∀ c y, H c = some (.own y) → c ≠ x := fun c y r z => by subst z; rw [r] at mu; exact mu
  have ntup : ∀ c xs, H c = some (.tup xs) → c ≠ x := fun c xs r z => by subst z; rw [r] at mu; exact mu
  by_cases hb : b = x
  · subst hb; rw [upd_same] at q; cases q; exact new
  · rw [upd_ne hb] at q
    by_cases hbe : b = e
    · have q' : H b = some (.own x) := by
        rcases he with z | z
        · exact absurd (hbe.trans z) hb
        · rw [hbe]; exact z
      rw [q] at q'; cases q'
      obtain ⟨v, hv⟩ := heo
      exact ⟨v, by rw [hbe]; exact hv⟩
    · refine (ok b u q).stay (fun c v hc r => k c v ?_ r) (fun c r => by rw [upd_ne (nown c b r)]; exact r) fun c xs r => by rw [upd_ne (ntup c xs r)]; exact r
      rcases hc with rfl | hc
      · exact hbe
      · rintro rfl
        rcases he with z | z
        · exact nown c b hc z
        · rw [hc] at z; cases z; exact hb rfl
end

/-! ### kept unless tracked; of the frames at fs (the callers') the slots may change (an exception that passes writes there); of the records at ex (iterators) nothing is said -/
structure Un (fs ex : List Addr) (H H' : Hp) (h h' : Heap) : Prop where
  keep : ∀ b o, h.get? b = some o → H b = none → b ∉ fs → b ∉ ex → h'.get? b = some o
  slot : ∀ b o, h.get? b = some o → H b = none → b ∈ fs → b ∉ ex → ∃ sl, h'.get? b = some { o with slots := sl }
  free : ∀ b o, h.get? b = some o → H b = none → b ∉ ex → H' b = none
  there : ∀ b o, h.get? b = some o → b ∉ ex → ∃ o', h'.get? b = some o'
  tups : ∀ b xs, H b = some (.tup xs) → H' b = some (.tup xs)
  frzs : ∀ b o u, H b = some (.frz o u) → H' b = some (.frz o u)
  tbls : ∀ b ps, H b = some (.tbl ps) → ∃ more, H' b = some (.tbl (ps ++ more))
section
variable {fs fs' ex ex' : List Addr} {H H1 H2 : Hp} {h h1 h2 h' : Heap} {a x e : Addr} {o : HO}
theorem Un.any (u : Un fs ex H H1 h h1) {b : Addr} {ob : Obj} (q : h.get? b = some ob) (n : H b = none) (hx : b ∉ ex) : ∃ sl, h1.get? b = some { ob with slots := sl } := by
  by_cases hb : b ∈ fs
  · exact u.slot b ob q n hb hx
  · exact ⟨ob.slots, u.keep b ob q n hb hx⟩
theorem Un.trans (a : Un fs ex H H1 h h1) (b : Un fs ex H1 H2 h1 h2) : Un fs ex H H2 h h2 where
  keep := fun c ob q n hc hx => b.keep c ob (a.keep c ob q n hc hx) (a.free c ob q n hx) hc hx
  slot := fun c ob q n hc hx => by
    obtain ⟨sl, e1⟩ := a.slot c ob q n hc hx
    obtain ⟨sl', e2⟩ := b.slot c _ e1 (a.free c ob q n hx) hc hx
    exact ⟨sl', e2⟩
  free := fun c ob q n hx => by
    obtain ⟨o', e1⟩ := a.there c ob q hx
    exact b.free c o' e1 (a.free c ob q n hx) hx
  there := fun c ob q hx => by
    obtain ⟨o', e1⟩ := a.there c ob q hx
    exact b.there c o' e1 hx
  tups := fun c xs q => b.tups c xs (a.tups c xs q)
  frzs := fun c ob xs q => b.frzs c ob xs (a.frzs c ob xs q)
  tbls := fun c ps q => by
    obtain ⟨m1, e1⟩ := a.tbls c ps q
    obtain ⟨m2, e2⟩ := b.tbls c _ e1
    exact ⟨m1 ++ m2, by rw [e2, Array.append_assoc]⟩
theorem Un.kept (k : ∀ b u, h.get? b = some u → h'.get? b = some u) : Un fs ex H H h h' :=
  ⟨fun b ob q _ _ _ => k b ob q, fun b ob q _ _ _ => ⟨ob.slots, k b ob q⟩, fun _ _ _ n _ => n, fun b ob q _ => ⟨ob, k b ob q⟩, fun _ _ q => q, fun _ _ _ q => q, fun _ ps q => ⟨#[], by rw [q]; simp⟩⟩
theorem Un.refl : Un fs ex H H h h := Un.kept fun _ _ q => q
theorem Un.laid (k : ∀ b u, h.get? b = some u → h'.get? b = some u) (hp : h.objs.size ≤ a) (hn : H a = none) : Un fs ex H (upd H a o) h h' where
  keep := fun b u q _ _ _ => k b u q
  slot := fun b u q _ _ _ => ⟨u.slots, k b u q⟩
  free := fun b u q n _ => by rw [upd_ne (Nat.ne_of_lt (Nat.lt_of_lt_of_le (Heap.lt_size q) hp))]; exact n
  there := fun b u q _ => ⟨u, k b u q⟩
  tups := fun b xs q => by rw [upd_ne (ne_of_none q hn)]; exact q
  frzs := fun b u xs q => by rw [upd_ne (ne_of_none q hn)]; exact q
  tbls := fun b ps q => ⟨#[], by rw [upd_ne (ne_of_none q hn), q]; simp⟩
theorem Un.write (mu : Mut (H x)) (he : e = x ∨ H e = some (.own x)) (k : ∀ b u, b ≠ e → h.get? b = some u → h'.get? b = some u) (heo : ∃ u, h'.get? e = some u) : Un fs ex H (upd H x o) h h' := by
  have hx : ∀ b, H b = none → b ≠ x := fun b n z => by subst z; rw [n] at mu; exact mu
  have hb : ∀ b, H b = none → b ≠ e := fun b n z => by
    subst z
    rcases he with r | r
    · exact hx b n r
    · rw [n] at r; cases r
  have hm : ∀ b u, H b = some u → ¬ Mut (some u) → b ≠ x := fun b u q nm z => by subst z; rw [q] at mu; exact nm mu
  refine ⟨fun b u q n _ _ => k b u (hb b n) q, fun b u q n _ _ => ⟨u.slots, k b u (hb b n) q⟩, fun b u q n _ => by rw [upd_ne (hx b n)]; exact n, fun b u q _ => ?_,
    fun b xs q => by rw [upd_ne (hm b _ q fun z => z)]; exact q, fun b u xs q => by rw [upd_ne (hm b _ q fun z => z)]; exact q, fun b ps q => ⟨#[], by rw [upd_ne (hm b _ q fun z => z), q]; simp⟩⟩
  by_cases hbe : b = e
  · subst hbe; exact heo
  · exact ⟨u, k b u hbe q⟩
theorem Un.mono (u : Un fs ex H H1 h h1) (hs : ∀ b ∈ fs, b ∈ fs') (hx : ∀ b ∈ ex, b ∈ ex') : Un fs' ex' H H1 h h1 :=
  ⟨fun b ob q n hb he => u.keep b ob q n (fun z => hb (hs b z)) fun z => he (hx b z), fun _ _ q n _ he => u.any q n fun z => he (hx _ z), fun b ob q n he => u.free b ob q n fun z => he (hx b z), fun b ob q he => u.there b ob q fun z => he (hx b z), u.tups, u.frzs, u.tbls⟩
end

/-! ### the heap without what is tracked -/
def trk (h : Heap) (H : Hp) : List Addr := (List.range h.objs.size).filter fun a => (H a).isSome
def hidT (h : Heap) (H : Hp) : Heap := PySem.W.hideAll h (trk h H)
theorem hidT_size (h : Heap) (H : Hp) : (hidT h H).objs.size = h.objs.size := PySem.W.hideAll_size _ _
theorem hidT_get {h : Heap} {H : Hp} {b : Addr} {o : Obj} (e : h.get? b = some o) (n : H b = none) : (hidT h H).get? b = some o :=
  PySem.W.hideAll_get _ e fun hm => by
    have q : (H b).isSome = true := (List.mem_filter.mp hm).2
    rw [n] at q; simp at q
theorem of_hidT {h : Heap} {H : Hp} {b : Addr} {o : Obj} (e : (hidT h H).get? b = some o) : h.get? b = some o ∧ H b = none := by
  have e' : h.get? b = some o := PySem.W.of_hideAll (trk h H) e
  refine ⟨e', ?_⟩
  cases q : H b with
  | none => rfl
  | some x =>
    have hm : b ∈ trk h H := List.mem_filter.mpr ⟨List.mem_range.mpr (Heap.lt_size e'), by simp [q]⟩
    have z : (hidT h H).get? b = none := PySem.W.hideAll_none (trk h H) hm
    rw [z] at e; cases e

/-! ### OpenK's ledger, filled with every new object but one -/
def allNews (g h : Heap) (L : Addr) : List (Addr × Obj) := (List.range h.objs.size).filterMap fun a => if a = L ∨ (g.get? a).isSome = true then none else (h.get? a).map fun o => (a, o)
theorem mem_allNews {g h : Heap} {L a : Addr} {o : Obj} (h1 : a ≠ L) (h2 : g.get? a = none) (h3 : h.get? a = some o) : (a, o) ∈ allNews g h L :=
  List.mem_filterMap.mpr ⟨a, List.mem_range.mpr (Heap.lt_size h3), by simp [h1, h2, h3]⟩
theorem of_mem_allNews {g h : Heap} {L : Addr} {p : Addr × Obj} (hp : p ∈ allNews g h L) : p.1 ≠ L ∧ g.get? p.1 = none ∧ h.get? p.1 = some p.2 := by
  obtain ⟨b, _, e⟩ := List.mem_filterMap.mp hp
  split at e
  · cases e
  · rename_i hn
    cases q : h.get? b with
    | none => rw [q] at e; simp at e
    | some u =>
      rw [q] at e
      simp only [Option.map_some, Option.some.injEq] at e
      subst e
      refine ⟨fun z => hn (.inl z), ?_, q⟩
      show g.get? b = none
      cases r : g.get? b with
      | none => rfl
      | some v => exact (hn (.inr (by simp [r]))).elim
def rest (g h : Heap) (L d : Addr) : List (Addr × Obj) := (allNews g h L).filter fun p => decide (p.1 ≠ d)
theorem rest_ne {g h : Heap} {L d : Addr} : ∀ p ∈ rest g h L d, p.1 ≠ d := fun p hp => of_decide_eq_true (List.mem_filter.mp hp).2
theorem mem_rest {g h : Heap} {L d a : Addr} {o : Obj} (h1 : a ≠ L) (h2 : g.get? a = none) (h3 : h.get? a = some o) (h4 : a ≠ d) : (a, o) ∈ rest g h L d :=
  List.mem_filter.mpr ⟨mem_allNews h1 h2 h3, decide_eq_true h4⟩
theorem news_all {g h : Heap} {L : Addr} : News g L h (allNews g h L) := fun p hp => let ⟨a, b, c⟩ := of_mem_allNews hp; ⟨c, a, b⟩
theorem news_at {g h : Heap} {L d : Addr} {o : Obj} (h1 : d ≠ L) (h2 : g.get? d = none) (h3 : h.get? d = some o) : News g L h ((d, o) :: rest g h L d) := fun p hp => by
  rcases List.mem_cons.mp hp with rfl | hp
  · exact ⟨h3, h1, h2⟩
  · exact news_all p (List.mem_filter.mp hp).1
/-- behind a rule that changed d alone: all else but the frame is kept -/
theorem kept_of_news {g h h' : Heap} {L d : Addr} {m : Str → Option Value} (k : ∀ b o, g.get? b = some o → h.get? b = some o) (F : Fr g L h' m) (N : News g L h' (rest g h L d)) :
    ∀ b o, b ≠ L → b ≠ d → h.get? b = some o → h'.get? b = some o := fun b o h1 h2 e => by
  cases q : g.get? b with
  | some u =>
    have := k b u q
    rw [e] at this; cases this
    exact F.keep b _ q
  | none => exact (N (b, o) (mem_rest h1 q e h2)).1
end L2

namespace L2
open PySem PySem.Spec PyProof.Rows

/-- the module's facts, over the base: the heap at the law's entry without what is tracked there -/
structure Mod (K : PySem.W.Frag) (mg : Str → Option Value) (base : Heap) : Prop where
  kin : K.In base
  glob : base.Ns mainGlobals mg
  blt : ∃ mb, base.Ns builtinsNs mb ∧ ∀ x : Str, x ≠ "__name__" → mb x = bootBuiltins x
  nolimit : base.NoLimit

/-- the context: a def's body (or a comprehension's block) running. base: fixed through the whole law; s₀, H₀: the entry; outer: the frames whose slots others may change (a def's callers); stack: all frames that run;
   ex: iterators that were made ahead of the entry and are walked here (a comprehension's); fn: the names whose cells were made at the entry (a def: all; a comprehension's block: its own); calm: not within an except suite; pn: pins that every state bears; xe: what is wanted of an exception that leaves the code -/
structure Cx where
  prog : Program
  w : World
  K : PySem.W.Frag
  mg : Str → Option Value
  base : Heap
  A : Around
  N : List Str
  s₀ : Shared
  H₀ : Hp
  env : Env
  outer : List Env
  stack : List Env
  ex : List Addr
  fn : Str → Bool
  calm : Bool
  pn : List (Addr × Obj)
  xe : Value → Shared → Prop
/-- the callers' frames -/
def frs (l : List Env) : List Addr := l.filterMap (·.frame)
abbrev Cx.fs (X : Cx) : List Addr := frs X.outer

def Vis (sc : Scope) (x : Str) : Prop := sc.names.lookup x = some .local ∨ sc.names.lookup x = some .cell ∨ sc.names.lookup x = some .free
def Loc (sc : Scope) (x : Str) : Prop := sc.names.lookup x = some .local ∨ sc.names.lookup x = some .cell
def Look (env : Env) (h : Heap) (m : Str → Option Value) (x : Str) (u : Value) : Prop :=
  (env.kindOf x = some .local ∧ m x = some u) ∨ ((env.kindOf x = some .cell ∨ env.kindOf x = some .free) ∧ ∃ c, env.cells.lookup x = some c ∧ h.IsCell c (some u))

structure Cx.Ok (X : Cx) : Prop where
  mod : Mod X.K X.mg X.base
  kind : X.env.scope.kind = .function
  glob : X.env.globals = mainGlobals
  blt : X.env.builtins = builtinsNs
  above : X.s₀.heap.objs.size ≤ X.env.locals
  inj : ∀ x y c, X.env.cells.lookup x = some c → X.env.cells.lookup y = some c → x = y
  has : ∀ x, (X.env.kindOf x = some .cell ∨ X.env.kindOf x = some .free) → ∃ c, X.env.cells.lookup x = some c
  cab : ∀ x c, X.fn x = true → X.env.cells.lookup x = some c → X.s₀.heap.objs.size ≤ c
  hd : X.calm = true → X.A.handled = none
  frames : X.A.frames = some X.stack
  stk : X.stack = X.outer ∨ (X.stack = X.env :: X.outer ∧ X.env.frame = some X.env.locals)
  exf : ∀ b ∈ X.ex, b ≠ X.env.locals ∧ ∀ x c, X.env.cells.lookup x = some c → c ≠ b
  bs : ∀ b o, X.base.get? b = some o → X.s₀.heap.get? b = some o ∧ X.H₀ b = none
  bsz : X.base.objs.size ≤ X.s₀.heap.objs.size
  noex : ∀ b o, X.base.get? b = some o → b ∉ X.ex
  exfs : ∀ b ∈ X.ex, b ∉ X.fs
  funs : X.s₀.heap.FunFrames X.base X.outer
  frf : ∀ b ∈ X.fs, X.H₀ b = none

structure Inv (X : Cx) (pins : List (Addr × Obj)) (σ : List (Option V)) (H : Hp) (s : Shared) : Prop where
  ok : X.Ok
  os : s.os = X.s₀.os
  bare : AllBare s.gens
  base : Un X.fs X.ex X.H₀ H X.s₀.heap s.heap
  loc : ∃ m, s.heap.Ns X.env.locals m ∧ ∀ (i : Nat) (x : Str) (v : V), X.N[i]? = some x → σ[i]? = some (some v) → Vis X.env.scope x → ∃ u, RelV v u ∧ Look X.env s.heap m x u
  cell : ∀ x c, X.env.cells.lookup x = some c → ∃ v, s.heap.IsCell c v
  free : H X.env.locals = none
  freeC : ∀ x c, X.env.cells.lookup x = some c → H c = none
  pin : ∀ p ∈ X.pn ++ pins, s.heap.get? p.1 = some p.2 ∧ H p.1 = none ∧ p.1 ≠ X.env.locals ∧ p.1 ∉ X.fs ∧ ∀ v, p.2.data ≠ .cell v
  hok : HOk X.prog X.w H s.heap
  len : σ.length = X.N.length

section
variable {X : Cx} {pins : List (Addr × Obj)} {σ : List (Option V)} {H H' : Hp} {s : Shared} {h' : Heap}

theorem Cx.Ok.nofr (ok : X.Ok) {b : Addr} {o : Obj} (e : X.base.get? b = some o) : b ∉ X.fs := fun hb => by
  have := (ok.funs.mem hb).1
  rw [e] at this; cases this
theorem Inv.bs (I : Inv X pins σ H s) : ∀ b o, X.base.get? b = some o → s.heap.get? b = some o ∧ H b = none := fun b o e =>
  ⟨I.base.keep b o (I.ok.bs b o e).1 (I.ok.bs b o e).2 (I.ok.nofr e) (I.ok.noex b o e), I.base.free b o (I.ok.bs b o e).1 (I.ok.bs b o e).2 (I.ok.noex b o e)⟩
theorem Inv.bk (I : Inv X pins σ H s) : ∀ b o, X.base.get? b = some o → s.heap.get? b = some o := fun b o e => (I.bs b o e).1
theorem Inv.mod (I : Inv X pins σ H s) : Mod X.K X.mg X.base := I.ok.mod
theorem Inv.kIn (I : Inv X pins σ H s) : X.K.In s.heap := I.ok.mod.kin.keeps I.bk
theorem Inv.nolimit (I : Inv X pins σ H s) : s.heap.NoLimit := I.ok.mod.nolimit.keeps I.bk
/-- the frame over the base: for OpenK's rules (K.In X.base is I.mod.kin) -/
theorem Inv.fr (I : Inv X pins σ H s) : ∃ m, Fr X.base X.env.locals s.heap m :=
  let ⟨m, hn, _⟩ := I.loc
  ⟨m, hn, I.bk, Nat.le_trans I.ok.bsz I.ok.above⟩
theorem Inv.lt (I : Inv X pins σ H s) : X.env.locals < s.heap.objs.size := let ⟨_, hn, _⟩ := I.loc; hn.lt
theorem Inv.sz (I : Inv X pins σ H s) : X.s₀.heap.objs.size ≤ s.heap.objs.size := Nat.le_trans I.ok.above (Nat.le_of_lt I.lt)
theorem Inv.nofs (I : Inv X pins σ H s) {a : Addr} (h : s.heap.objs.size ≤ a) : a ∉ X.fs := fun hb => by
  obtain ⟨_, o, ho, _⟩ := I.ok.funs.mem hb
  exact absurd (Nat.lt_of_lt_of_le (Heap.lt_size ho) (Nat.le_trans I.sz h)) (Nat.lt_irrefl _)
theorem Inv.cne (I : Inv X pins σ H s) : ∀ x c, X.env.cells.lookup x = some c → c ≠ X.env.locals := fun x c e z => by
  obtain ⟨v, o, ho, hd⟩ := I.cell x c e
  obtain ⟨m, ⟨o', es, ep, ho', hd', _⟩, _⟩ := I.loc
  rw [z, ho'] at ho; cases ho; rw [hd'] at hd; cases hd
theorem Inv.funs (I : Inv X pins σ H s) : s.heap.FunFrames X.base X.outer := by
  have all : ∀ (l : List Env), (∀ b ∈ frs l, b ∈ X.fs) → X.s₀.heap.FunFrames X.base l → s.heap.FunFrames X.base l := by
    intro l
    induction l with
    | nil => intro _ _; trivial
    | cons env r ih =>
      intro hs hl
      obtain ⟨hk, ⟨L, o, hf, hn, ho, hd⟩, hr⟩ := hl
      have hL : L ∈ X.fs := hs L (by unfold frs; rw [List.filterMap_cons, hf]; exact List.mem_cons_self)
      obtain ⟨sl, e⟩ := I.base.slot L o ho (I.ok.frf L hL) hL fun z => I.ok.exfs L z hL
      exact ⟨hk, ⟨L, _, hf, hn, e, hd⟩, ih (fun b hb => hs b (by unfold frs; rw [List.filterMap_cons, hf]; exact List.mem_cons_of_mem _ hb)) hr⟩
  exact all X.outer (fun _ hb => hb) I.ok.funs

/-- the frames that run, for a call -/
theorem Inv.stack (I : Inv X pins σ H s) : s.heap.FunFrames X.base X.stack := by
  rcases I.ok.stk with e | ⟨e, hf⟩
  · rw [e]; exact I.funs
  · rw [e]
    obtain ⟨m, hn, _⟩ := I.loc
    refine .cons (by rw [I.ok.kind]; decide) hf hn ?_ I.funs
    exact Heap.get?_none_of_le (Nat.le_trans I.ok.bsz I.ok.above)
theorem Inv.stkSub (I : Inv X pins σ H s) : ∀ b ∈ frs X.stack, b ∈ X.env.locals :: X.fs := fun b hb => by
  rcases I.ok.stk with e | ⟨e, hf⟩
  · rw [e] at hb; exact List.mem_cons_of_mem _ hb
  · rw [e] at hb
    unfold frs at hb
    rw [List.filterMap_cons, hf] at hb
    exact hb
theorem Inv.stkFree (I : Inv X pins σ H s) : ∀ b ∈ frs X.stack, H b = none := fun b hb => by
  rcases List.mem_cons.mp (I.stkSub b hb) with e | hb
  · rw [e]; exact I.free
  · obtain ⟨_, o, ho, _⟩ := I.ok.funs.mem hb
    exact I.base.free b o ho (I.ok.frf b hb) fun z => I.ok.exfs b z hb

/-- THE STEP: the untracked objects but the frame and the records at ch are kept (the callers' frames up to slots), the frame's map is kept, the new abstract heap is held -/
theorem Inv.step {g' : Array GenState} {t' : Nat} {d' : Drawn} {ch : List Addr} (I : Inv X pins σ H s)
    (hch : ∀ b ∈ ch, (b ∈ X.ex ∨ X.s₀.heap.objs.size ≤ b) ∧ b ≠ X.env.locals ∧ (∀ x c, X.env.cells.lookup x = some c → c ≠ b) ∧ ∀ p ∈ X.pn ++ pins, p.1 ≠ b)
    (keep : ∀ b o, b ≠ X.env.locals → b ∉ X.fs → b ∉ ch → s.heap.get? b = some o → H b = none → h'.get? b = some o)
    (slot : ∀ b o, b ≠ X.env.locals → b ∈ X.fs → b ∉ ch → s.heap.get? b = some o → H b = none → ∃ sl, h'.get? b = some { o with slots := sl }) (free : ∀ b o, b ∉ ch → s.heap.get? b = some o → H b = none → H' b = none)
    (there : ∀ b o, b ∉ ch → s.heap.get? b = some o → ∃ o', h'.get? b = some o')
    (tups : ∀ b xs, H b = some (.tup xs) → H' b = some (.tup xs)) (frzs : ∀ b o u, H b = some (.frz o u) → H' b = some (.frz o u)) (tbls : ∀ b ps, H b = some (.tbl ps) → ∃ more, H' b = some (.tbl (ps ++ more)))
    (ns : ∀ m, s.heap.Ns X.env.locals m → h'.Ns X.env.locals m) (hok : HOk X.prog X.w H' h') (hg : AllBare g') :
    Inv X pins σ H' { s with heap := h', gens := g', drawn := d', toks := t' } := by
  have neL : ∀ b o, X.s₀.heap.get? b = some o → b ≠ X.env.locals := fun b o e => Nat.ne_of_lt (Nat.lt_of_lt_of_le (Heap.lt_size e) I.ok.above)
  have neC : ∀ b o, X.s₀.heap.get? b = some o → b ∉ X.ex → b ∉ ch := fun b o e hx hb => by
    rcases (hch b hb).1 with z | z
    · exact hx z
    · exact absurd (Nat.lt_of_lt_of_le (Heap.lt_size e) z) (Nat.lt_irrefl _)
  have cellK : ∀ x c, X.env.cells.lookup x = some c → ∀ v, s.heap.IsCell c v → h'.IsCell c v := fun x c e v ⟨o, ho, hd⟩ => by
    have nch : c ∉ ch := fun z => (hch c z).2.2.1 x c e rfl
    by_cases hc : c ∈ X.fs
    · obtain ⟨sl, q⟩ := slot c o (I.cne x c e) hc nch ho (I.freeC x c e)
      exact ⟨_, q, hd⟩
    · exact ⟨o, keep c o (I.cne x c e) hc nch ho (I.freeC x c e), hd⟩
  refine ⟨I.ok, I.os, hg, ⟨fun b o e n hb hx => ?_, fun b o e n hb hx => ?_, fun b o e n hx => ?_, fun b o e hx => ?_, fun b xs e => tups b xs (I.base.tups b xs e), fun b o xs e => frzs b o xs (I.base.frzs b o xs e), fun b ps e => ?_⟩, ?_, fun x c e => ?_, ?_, fun x c e => ?_, fun p hp => ?_, hok, I.len⟩
  · exact keep b o (neL b o e) hb (neC b o e hx) (I.base.keep b o e n hb hx) (I.base.free b o e n hx)
  · obtain ⟨sl, e1⟩ := I.base.slot b o e n hb hx
    obtain ⟨sl', e2⟩ := slot b _ (neL b o e) hb (neC b o e hx) e1 (I.base.free b o e n hx)
    exact ⟨sl', e2⟩
  · obtain ⟨o', e1⟩ := I.base.there b o e hx
    exact free b o' (neC b o e hx) e1 (I.base.free b o e n hx)
  · obtain ⟨o', e1⟩ := I.base.there b o e hx
    exact there b o' (neC b o e hx) e1
  · obtain ⟨m1, e1⟩ := I.base.tbls b ps e
    obtain ⟨m2, e2⟩ := tbls b _ e1
    exact ⟨m1 ++ m2, by rw [e2, Array.append_assoc]⟩
  · obtain ⟨m, hn, hl⟩ := I.loc
    refine ⟨m, ns m hn, fun i x v e1 e2 e3 => ?_⟩
    obtain ⟨u, r, l⟩ := hl i x v e1 e2 e3
    refine ⟨u, r, ?_⟩
    rcases l with l | ⟨k, c, e, z⟩
    · exact .inl l
    · exact .inr ⟨k, c, e, cellK x c e _ z⟩
  · obtain ⟨v, z⟩ := I.cell x c e
    exact ⟨v, cellK x c e v z⟩
  · obtain ⟨m, ⟨o, _, _, ho, _⟩, _⟩ := I.loc
    exact free _ o (fun z => (hch _ z).2.1 rfl) ho I.free
  · obtain ⟨v, o, ho, hd⟩ := I.cell x c e
    exact free c o (fun z => (hch c z).2.2.1 x c e rfl) ho (I.freeC x c e)
  · obtain ⟨e, n, ne, nf, d⟩ := I.pin p hp
    have nch : p.1 ∉ ch := fun z => (hch p.1 z).2.2.2 p hp rfl
    exact ⟨keep p.1 p.2 ne nf nch e n, free p.1 p.2 nch e n, ne, nf, d⟩
/-- .. where the frame's own object is kept too -/
theorem Inv.un {t' : Nat} (I : Inv X pins σ H s) (u : Un X.fs [] H H' s.heap h') (hok : HOk X.prog X.w H' h') : Inv X pins σ H' { s with heap := h', toks := t' } := by
  obtain ⟨m, ⟨o, es, ep, ho, r⟩, _⟩ := id I.loc
  obtain ⟨sl, hL⟩ := u.any ho I.free (by simp)
  exact I.step (g' := s.gens) (d' := s.drawn) (ch := []) (fun _ z => nomatch z) (fun b o _ hb _ e n => u.keep b o e n hb (by simp)) (fun b o _ hb _ e n => u.slot b o e n hb (by simp)) (fun b o _ e n => u.free b o e n (by simp)) (fun b o _ e => u.there b o e (by simp)) u.tups u.frzs u.tbls (fun m' hm => by
    obtain ⟨o', es', ep', ho', r'⟩ := hm
    rw [ho] at ho'; cases ho'
    exact ⟨_, es', ep', hL, r'⟩) hok I.bare
/-- behind a call (or a comprehension's block): the slots of this frame may have changed too, the records at ch may have turned -/
theorem Inv.call {g' : Array GenState} {t' : Nat} {d' : Drawn} {ch : List Addr} (I : Inv X pins σ H s) (u : Un (frs X.stack) ch H H' s.heap h') (hok : HOk X.prog X.w H' h') (hg : AllBare g')
    (hch : ∀ b ∈ ch, (b ∈ X.ex ∨ X.s₀.heap.objs.size ≤ b) ∧ b ≠ X.env.locals ∧ (∀ x c, X.env.cells.lookup x = some c → c ≠ b) ∧ ∀ p ∈ X.pn ++ pins, p.1 ≠ b) :
    Inv X pins σ H' { s with heap := h', gens := g', drawn := d', toks := t' } := by
  obtain ⟨m, ⟨o, es, ep, ho, r⟩, _⟩ := id I.loc
  obtain ⟨sl, hL⟩ := u.any ho I.free fun z => (hch _ z).2.1 rfl
  exact I.step (ch := ch) hch (fun b o hL hb hc e n => u.keep b o e n (fun z => (List.mem_cons.mp (I.stkSub b z)).elim hL hb) hc) (fun b o _ _ hc e n => u.any e n hc) (fun b o hc e n => u.free b o e n hc) (fun b o hc e => u.there b o e hc) u.tups u.frzs u.tbls (fun m' hm => by
    obtain ⟨o', es', ep', ho', r'⟩ := hm
    rw [ho] at ho'; cases ho'
    exact ⟨_, es', ep', hL, r'⟩) hok hg
/-- an untracked record of ours (an iterator) has turned -/
theorem Inv.turned {t' : Nat} {it : Addr} (I : Inv X pins σ H s) (k : ∀ b o, b ≠ it → s.heap.get? b = some o → h'.get? b = some o) (hn : H it = none) (hL : it ≠ X.env.locals)
    (h1 : it ∈ X.ex ∨ X.s₀.heap.objs.size ≤ it) (h2 : ∀ x c, X.env.cells.lookup x = some c → c ≠ it) (h3 : ∀ p ∈ X.pn ++ pins, p.1 ≠ it) : Inv X pins σ H { s with heap := h', toks := t' } := by
  have nit : ∀ b u, H b = some u → b ≠ it := fun b u e z => by rw [z, hn] at e; cases e
  refine I.step (g' := s.gens) (d' := s.drawn) (ch := [it]) (fun b hb => ?_) (fun b o _ _ hc e _ => k b o (fun z => hc (by simp [z])) e) (fun b o _ _ hc e _ => ⟨o.slots, k b o (fun z => hc (by simp [z])) e⟩) (fun _ _ _ _ n => n)
    (fun b o hc e => ⟨o, k b o (fun z => hc (by simp [z])) e⟩) (fun _ _ e => e) (fun _ _ _ e => e) (fun b ps e => ⟨#[], by rw [e]; simp⟩) (fun m hm => ?_) (fun b u e => ?_) I.bare
  · have e : b = it := by simpa using hb
    subst e
    exact ⟨h1, hL, h2, h3⟩
  · obtain ⟨o, es, ep, ho, r⟩ := hm
    exact ⟨o, es, ep, k _ o (Ne.symm hL) ho, r⟩
  · refine (I.hok b u e).stay (fun c v hc q => k c v ?_ q) (fun _ q => q) fun _ _ q => q
    rcases hc with z | z
    · rw [z]; exact nit b u e
    · exact nit c _ z
theorem Inv.tok (I : Inv X pins σ H s) (t : Nat) : Inv X pins σ H { s with toks := t } := I.un (h' := s.heap) (t' := t) Un.refl I.hok
/-- all objects kept -/
theorem Inv.kept {t' : Nat} (I : Inv X pins σ H s) (k : ∀ b u, s.heap.get? b = some u → h'.get? b = some u) : Inv X pins σ H { s with heap := h', toks := t' } := I.un (Un.kept k) (I.hok.kept k)
/-- a new object laid and tracked -/
theorem Inv.laid {a : Addr} {o : HO} {t' : Nat} (I : Inv X pins σ H s) (k : ∀ b u, s.heap.get? b = some u → h'.get? b = some u) (hp : s.heap.objs.size ≤ a) (new : ObjOk X.prog X.w (upd H a o) h' a o) :
    Inv X pins σ (upd H a o) { s with heap := h', toks := t' } := I.un (Un.laid k hp (I.hok.fresh hp)) (I.hok.laid k hp new)
/-- an object written -/
theorem Inv.write {x e : Addr} {o : HO} {t' : Nat} (I : Inv X pins σ H s) (mu : Mut (H x)) (he : e = x ∨ H e = some (.own x)) (k : ∀ b u, b ≠ e → s.heap.get? b = some u → h'.get? b = some u) (heo : ∃ u, h'.get? e = some u)
    (new : ObjOk X.prog X.w (upd H x o) h' x o) : Inv X pins σ (upd H x o) { s with heap := h', toks := t' } := I.un (Un.write mu he k heo) (I.hok.write mu he k heo new)
/-- forgetting slots, pins -/
theorem Inv.weak {σ' : List (Option V)} (I : Inv X pins σ H s) (hl : σ'.length = σ.length) (w : ∀ (i : Nat) v, σ'[i]? = some (some v) → σ[i]? = some (some v)) : Inv X pins σ' H s :=
  ⟨I.ok, I.os, I.bare, I.base, let ⟨m, hn, hl'⟩ := I.loc; ⟨m, hn, fun i x v e1 e2 e3 => hl' i x v e1 (w i v e2) e3⟩, I.cell, I.free, I.freeC, I.pin, I.hok, hl.trans I.len⟩
theorem Inv.pins_of {pins' : List (Addr × Obj)} (I : Inv X pins σ H s) (h : ∀ p ∈ pins', s.heap.get? p.1 = some p.2 ∧ H p.1 = none ∧ p.1 ≠ X.env.locals ∧ p.1 ∉ X.fs ∧ ∀ v, p.2.data ≠ .cell v) : Inv X pins' σ H s :=
  ⟨I.ok, I.os, I.bare, I.base, I.loc, I.cell, I.free, I.freeC, fun p hp => (List.mem_append.mp hp).elim (fun z => I.pin p (List.mem_append_left _ z)) (h p), I.hok, I.len⟩

theorem nodup_ix {N : List Str} (hN : N.Nodup) {i j : Nat} {x : Str} (a : N[i]? = some x) (b : N[j]? = some x) : i = j := by
  obtain ⟨h1, e1⟩ := List.getElem?_eq_some_iff.mp a
  obtain ⟨h2, e2⟩ := List.getElem?_eq_some_iff.mp b
  exact (List.getElem_inj hN).mp (e1.trans e2.symm)

/-- a name is stored; what changed -/
theorem store_ok2 {M : Model} {A : Around} {E : Value → Shared → Prop} {i : Nat} {x : Str} {v : V} {u : Value} {Q : Unit → Shared → Prop} (I : Inv X pins σ H s) (hN : X.N.Nodup) (hi : X.N[i]? = some x) (hx : Loc X.env.scope x) (r : RelV v u)
    (h : ∀ s', Inv X pins (σ.set i (some v)) H s' → (∃ a, Heap.SameBut a s.heap s'.heap ∧ (a = X.env.locals ∨ X.env.cells.lookup x = some a)) → Q () s') (hf : X.fn x = true ∨ X.env.scope.names.lookup x = some .local := by first | exact .inl rfl | exact .inr rfl | assumption) : wpAny M A (storeName X.env x u) Q E s := by
  obtain ⟨m, hn, hl⟩ := id I.loc
  have hcls : (X.env.scope.kind == .class || (X.env.scope.kind == .module && X.env.locals != X.env.globals)) = false := by rw [I.ok.kind]; rfl
  have hiσ : i < σ.length := by rw [I.len]; exact (List.getElem?_eq_some_iff.mp hi).1
  have cne := I.cne
  have tracked : ∀ {a : Addr} {h' : Heap}, (∃ o, s.heap.get? a = some o ∧ H a = none) → Heap.SameBut a s.heap h' → HOk X.prog X.w H h' := fun {a h'} ha hs b ob e => by
    obtain ⟨_, _, hfree⟩ := ha
    refine (I.hok b ob e).stay (fun c w' hc q => (hs.2 c ?_).trans q) (fun _ q => q) fun _ _ q => q
    rintro rfl
    rcases hc with rfl | hc
    · rw [hfree] at e; cases e
    · rw [hfree] at hc; cases hc
  rcases hx with hk | hk
  · refine wpAny_storeName_local hk hn (fun h' hn' hs => ?_) hcls
    obtain ⟨oL, _, _, hoL, _⟩ := id hn
    refine h _ ⟨I.ok, I.os, I.bare, ⟨fun b o e n hb hx => ?_, fun b o e n hb hx => ?_, I.base.free, fun b o e hx => ?_, I.base.tups, I.base.frzs, I.base.tbls⟩, ⟨_, hn', fun j y v' e1 e2 e3 => ?_⟩, fun y c e => ?_, I.free, I.freeC, fun p hp => ?_, tracked ⟨oL, hoL, I.free⟩ hs, by simpa using I.len⟩ ⟨_, hs, .inl rfl⟩
    · exact (hs.2 b (Nat.ne_of_lt (Nat.lt_of_lt_of_le (Heap.lt_size e) I.ok.above))).trans (I.base.keep b o e n hb hx)
    · obtain ⟨sl, e1⟩ := I.base.slot b o e n hb hx
      exact ⟨sl, (hs.2 b (Nat.ne_of_lt (Nat.lt_of_lt_of_le (Heap.lt_size e) I.ok.above))).trans e1⟩
    · obtain ⟨o', e1⟩ := I.base.there b o e hx
      exact ⟨o', (hs.2 b (Nat.ne_of_lt (Nat.lt_of_lt_of_le (Heap.lt_size e) I.ok.above))).trans e1⟩
    · by_cases hj : j = i
      · subst hj
        rw [hi] at e1; cases e1
        rw [List.getElem?_set_self hiσ] at e2
        cases e2
        exact ⟨u, r, .inl ⟨hk, by simp⟩⟩
      · rw [List.getElem?_set_ne (Ne.symm hj)] at e2
        obtain ⟨u', r', q⟩ := hl j y v' e1 e2 e3
        refine ⟨u', r', ?_⟩
        rcases q with ⟨k, e⟩ | ⟨k, c, e, z⟩
        · refine .inl ⟨k, ?_⟩
          have : y ≠ x := fun e => hj (nodup_ix hN e1 (e ▸ hi))
          simp [this, e]
        · exact .inr ⟨k, c, e, z.sameBut hs (cne y c e)⟩
    · obtain ⟨w', z⟩ := I.cell y c e
      exact ⟨w', z.sameBut hs (cne y c e)⟩
    · obtain ⟨e, n, ne, nf, d⟩ := I.pin p hp
      exact ⟨(hs.2 p.1 ne).trans e, n, ne, nf, d⟩
  · have hfn : X.fn x = true := by
      rcases hf with z | z
      · exact z
      · rw [z] at hk; cases hk
    obtain ⟨c, hc⟩ := I.ok.has x (.inl hk)
    obtain ⟨w', z⟩ := I.cell x c hc
    refine wpAny_storeName_cell I.ok.kind hk hc z (fun h' hc' hs => ?_)
    obtain ⟨oc, hoc, hocd⟩ := id z
    refine h { s with heap := h' } ⟨I.ok, I.os, I.bare, ⟨fun b o e n hb hx => ?_, fun b o e n hb hx => ?_, I.base.free, fun b o e hx => ?_, I.base.tups, I.base.frzs, I.base.tbls⟩, ⟨m, hn.sameBut hs (Ne.symm (cne x c hc)), fun j y v' e1 e2 e3 => ?_⟩, fun y c' e => ?_, I.free, I.freeC, fun p hp => ?_, tracked ⟨oc, hoc, I.freeC x c hc⟩ hs, by simpa using I.len⟩ ⟨c, hs, .inr hc⟩
    · exact (hs.2 b (Nat.ne_of_lt (Nat.lt_of_lt_of_le (Heap.lt_size e) (I.ok.cab x c hfn hc)))).trans (I.base.keep b o e n hb hx)
    · obtain ⟨sl, e1⟩ := I.base.slot b o e n hb hx
      exact ⟨sl, (hs.2 b (Nat.ne_of_lt (Nat.lt_of_lt_of_le (Heap.lt_size e) (I.ok.cab x c hfn hc)))).trans e1⟩
    · obtain ⟨o', e1⟩ := I.base.there b o e hx
      exact ⟨o', (hs.2 b (Nat.ne_of_lt (Nat.lt_of_lt_of_le (Heap.lt_size e) (I.ok.cab x c hfn hc)))).trans e1⟩
    · by_cases hj : j = i
      · subst hj
        rw [hi] at e1; cases e1
        rw [List.getElem?_set_self hiσ] at e2
        cases e2
        exact ⟨u, r, .inr ⟨.inl hk, c, hc, hc'⟩⟩
      · rw [List.getElem?_set_ne (Ne.symm hj)] at e2
        obtain ⟨u', r', q⟩ := hl j y v' e1 e2 e3
        refine ⟨u', r', ?_⟩
        rcases q with q | ⟨k, c', e, z'⟩
        · exact .inl q
        · refine .inr ⟨k, c', e, z'.sameBut hs ?_⟩
          rintro rfl
          exact hj (nodup_ix hN e1 (I.ok.inj _ _ _ e hc ▸ hi))
    · by_cases hcc : c' = c
      · subst hcc; exact ⟨_, hc'⟩
      · obtain ⟨w2, z2⟩ := I.cell y c' e
        exact ⟨w2, z2.sameBut hs hcc⟩
    · obtain ⟨e, n, ne, nf, d⟩ := I.pin p hp
      refine ⟨(hs.2 p.1 ?_).trans e, n, ne, nf, d⟩
      intro q
      rw [q, hoc] at e
      have q' : oc = p.2 := Option.some.inj e
      exact d w' (by rw [← q']; exact hocd)
theorem store_ok {M : Model} {A : Around} {E : Value → Shared → Prop} {i : Nat} {x : Str} {v : V} {u : Value} {Q : Unit → Shared → Prop} (I : Inv X pins σ H s) (hN : X.N.Nodup) (hi : X.N[i]? = some x) (hx : Loc X.env.scope x) (r : RelV v u)
    (h : ∀ s', Inv X pins (σ.set i (some v)) H s' → Q () s') (hf : X.fn x = true ∨ X.env.scope.names.lookup x = some .local := by first | exact .inl rfl | exact .inr rfl | assumption) : wpAny M A (storeName X.env x u) Q E s :=
  store_ok2 I hN hi hx r (fun s' I' _ => h s' I') hf
/-- behind a call or a block, the state as it is -/
theorem Inv.call' {s' : Shared} {ch : List Addr} (I : Inv X pins σ H s) (ho : s'.os = s.os) (u : Un (frs X.stack) ch H H' s.heap s'.heap) (hok : HOk X.prog X.w H' s'.heap) (hg : AllBare s'.gens)
    (hch : ∀ b ∈ ch, (b ∈ X.ex ∨ X.s₀.heap.objs.size ≤ b) ∧ b ≠ X.env.locals ∧ (∀ x c, X.env.cells.lookup x = some c → c ≠ b) ∧ ∀ p ∈ X.pn ++ pins, p.1 ≠ b) : Inv X pins σ H' s' := by
  obtain ⟨h', g', d', t', o'⟩ := s'
  have e : o' = s.os := ho
  subst e
  exact I.call (g' := g') (t' := t') (d' := d') u hok hg hch
end

/-! ### the judgements -/
/-- an exception: its class, its own dict's address (where it has one), the abstract heap behind it -/
abbrev XK := Value → Option Addr → Hp → Prop
abbrev St := List (Option V)
abbrev VK := V → Hp → Prop
/-- an expression's reading; a test's; an argument list's -/
abbrev TE := St → Hp → VK → Prop
abbrev TT := St → Hp → (Bool → Hp → Prop) → Prop
abbrev TA := St → Hp → (List V → Hp → Prop) → Prop
/-- what is wanted behind a statement -/
structure Ends where
  nx : St → Hp → Prop
  rt : VK
  bk : St → Hp → Prop := fun _ _ => False
  ct : St → Hp → Prop := fun _ _ => False
abbrev TS := Ends → St → Hp → Prop

def EP (X : Cx) (pins : List (Addr × Obj)) (σ : St) (Q : VK) (u : Value) (s' : Shared) : Prop := ∃ v H', Inv X pins σ H' s' ∧ RelV v u ∧ Q v H'
def TP (X : Cx) (pins : List (Addr × Obj)) (σ : St) (Q : Bool → Hp → Prop) (b : Bool) (s' : Shared) : Prop := ∃ H', Inv X pins σ H' s' ∧ Q b H'
def AP (X : Cx) (pins : List (Addr × Obj)) (σ : St) (Q : List V → Hp → Prop) (us : List Value) (s' : Shared) : Prop := ∃ vs H', Inv X pins σ H' s' ∧ Vals vs us ∧ Q vs H'
def SP (X : Cx) (pins : List (Addr × Obj)) (D : Ends) (f : Flow) (s' : Shared) : Prop :=
  match f with
  | .next => ∃ σ' H', Inv X pins σ' H' s' ∧ D.nx σ' H'
  | .brk => ∃ σ' H', Inv X pins σ' H' s' ∧ D.bk σ' H'
  | .cont => ∃ σ' H', Inv X pins σ' H' s' ∧ D.ct σ' H'
  | .ret u => ∃ v σ' H', Inv X pins σ' H' s' ∧ RelV v u ∧ D.rt v H'

def PE (X : Cx) (e : Expr) (t : TE) : Prop :=
  ∀ (pins : List (Addr × Obj)) (s : Shared) (σ : St) (H : Hp) (Q : VK), Inv X pins σ H s → t σ H Q → wpAny (model X.prog X.w) X.A (eval e X.env) (EP X pins σ Q) X.xe s
def PT (X : Cx) (e : Expr) (t : TT) : Prop :=
  ∀ (pins : List (Addr × Obj)) (s : Shared) (σ : St) (H : Hp) (Q : Bool → Hp → Prop), Inv X pins σ H s → t σ H Q → wpAny (model X.prog X.w) X.A (isTrue e X.env (eval e X.env)) (TP X pins σ Q) X.xe s
/-- a test whatever its 'whole' is (and, or) -/
def PW (X : Cx) (e : Expr) (t : TT) : Prop :=
  ∀ (whole : Sem Value) (pins : List (Addr × Obj)) (s : Shared) (σ : St) (H : Hp) (Q : Bool → Hp → Prop), Inv X pins σ H s → t σ H Q → wpAny (model X.prog X.w) X.A (isTrue e X.env whole) (TP X pins σ Q) X.xe s
theorem PW.pt {X : Cx} {e : Expr} {t : TT} (h : PW X e t) : PT X e t := h _
/-- an argument list (no star), from the left -/
def PA (X : Cx) (es : List Expr) (t : TA) : Prop :=
  ∀ (pos : Pos) (pins : List (Addr × Obj)) (s : Shared) (σ : St) (H : Hp) (Q : List V → Hp → Prop), Inv X pins σ H s → t σ H Q → wpAny (model X.prog X.w) X.A (spliced (backTo pos (starEach es X.env))) (AP X pins σ Q) X.xe s
def PS (X : Cx) (st : Stmt) (t : TS) : Prop :=
  ∀ (pins : List (Addr × Obj)) (s : Shared) (σ : St) (H : Hp) (D : Ends), Inv X pins σ H s → t D σ H → wpAny (model X.prog X.w) X.A (exec st X.env) (SP X pins D) X.xe s
def PSs (X : Cx) (st : List Stmt) (t : TS) : Prop :=
  ∀ (pins : List (Addr × Obj)) (s : Shared) (σ : St) (H : Hp) (D : Ends), Inv X pins σ H s → t D σ H → wpAny (model X.prog X.w) X.A (execs st X.env) (SP X pins D) X.xe s
/-- weaken the end -/
theorem thn {α : Type} {t : Sem α} {Q Q' : α → Shared → Prop} {M : Model} {A : Around} {E : Value → Shared → Prop} {s : Shared} (h : wpAny M A t Q E s) (hQ : ∀ a s, Q a s → Q' a s) : wpAny M A t Q' E s := wpAny_mono h hQ fun _ _ x => x
end L2

namespace L2
open PySem PySem.Spec PyProof.Rows
section
variable {X : Cx}

/-- two expressions in a row -/
theorem bin {a b : Expr} {ta tb : TE} (ha : PE X a ta) (hb : PE X b tb) {pins : List (Addr × Obj)} {s : Shared} {σ : St} {H : Hp} {R : V → V → Hp → Prop} (I : Inv X pins σ H s) (h : ta σ H fun x H1 => tb σ H1 fun y H2 => R x y H2)
    {α : Type} {Q : α → Shared → Prop} {f : Value → Value → Sem α}
    (hf : ∀ v u s2 x y H2, Inv X pins σ H2 s2 → RelV x v → RelV y u → R x y H2 → wpAny (model X.prog X.w) X.A (f v u) Q X.xe s2) :
    wpAny (model X.prog X.w) X.A (eval a X.env) (fun v s₁ => wpAny (model X.prog X.w) X.A (eval b X.env) (fun u s₂ => wpAny (model X.prog X.w) X.A (f v u) Q X.xe s₂) X.xe s₁) X.xe s := by
  refine thn (ha pins s σ H _ I h) fun v s1 ⟨x, H1, I1, r1, q1⟩ => ?_
  refine thn (hb pins s1 σ H1 _ I1 q1) fun u s2 ⟨y, H2, I2, r2, q2⟩ => ?_
  exact hf v u s2 x y H2 I2 r1 r2 q2

/-! ### names and constants -/
def tVar (i : Nat) : TE := fun σ H Q => ∃ v, σ[i]? = some (some v) ∧ Q v H
def tC (v : V) : TE := fun _ H Q => Q v H
theorem pe_var {i : Nat} {x : Str} {pos : Pos} (hN : X.N[i]? = some x) (hv : Vis X.env.scope x) (hd : (x == ("__debug__" : Str)) = false := by decide) (hcd : (x == ("__classdict__" : Str)) = false := by decide) : PE X (.Name x pos) (tVar i) := by
  intro pins s σ H Q I h
  obtain ⟨v, e, h⟩ := h
  obtain ⟨m, hn, hl⟩ := I.loc
  obtain ⟨u, r, l⟩ := hl i x v hN e hv
  have fin : EP X pins σ Q u s := ⟨v, H, I, r, h⟩
  rcases l with ⟨hk, hm⟩ | ⟨hk, c, hc, hcell⟩
  · exact wpAny_Name (wpAny_loadName_local I.ok.kind hk hn hm fin) hd
  · rcases hk with hk | hk
    · exact wpAny_Name (wpAny_loadName_cell I.ok.kind hk hc hcell fin) hd
    · exact wpAny_Name (wpAny_loadName_free I.ok.kind hk hc hcell fin hcd) hd
theorem pe_int {i j pos} : PE X (.Constant (.int i) j pos) (tC (.int i)) := fun _ _ _ H _ I h => wpAny_Constant_int ⟨.int i, H, I.tok _, ⟨_, rfl⟩, h⟩
theorem pe_bl {b j pos} : PE X (.Constant (.bool b) j pos) (tC (.bl b)) := fun _ _ _ H _ I h => Constant_bool ⟨.bl b, H, I, rfl, h⟩
theorem pe_non {j pos} : PE X (.Constant .none j pos) (tC .non) := fun _ _ _ H _ I h => Constant_none ⟨.non, H, I, rfl, h⟩
theorem pe_str {x j pos} : PE X (.Constant (.str x) j pos) (tC (.str x)) := fun _ _ _ H _ I h => Calls.Constant_str ⟨.str x, H, I.tok _, ⟨_, rfl⟩, h⟩

/-- a global name of the def -/
def Gl (X : Cx) (x : Str) : Prop := X.env.kindOf x = some .globalImplicit
theorem ld_glob {E : Value → Shared → Prop} {pins : List (Addr × Obj)} {s : Shared} {σ : St} {H : Hp} {x : Str} {u : Value} {pos : Pos} {Q : Value → Shared → Prop} (I : Inv X pins σ H s) (hg : Gl X x) (hm : X.mg x = some u) (h : Q u s)
    (hd : (x == ("__debug__" : Str)) = false := by decide) : wpAny (model X.prog X.w) X.A (eval (.Name x pos) X.env) Q E s :=
  Calls.Name_function_global I.ok.kind hg (Calls.loadGlobal_global (by rw [I.ok.glob]; exact I.mod.glob.keeps I.bk) hm h) hd
theorem ld_blt {E : Value → Shared → Prop} {pins : List (Addr × Obj)} {s : Shared} {σ : St} {H : Hp} {x : Str} {u : Value} {pos : Pos} {Q : Value → Shared → Prop} (I : Inv X pins σ H s) (hg : Gl X x) (hm : X.mg x = none) (hv : bootBuiltins x = some u) (h : Q u s)
    (hn : x ≠ "__name__" := by decide) (hd : (x == ("__debug__" : Str)) = false := by decide) : wpAny (model X.prog X.w) X.A (eval (.Name x pos) X.env) Q E s := by
  obtain ⟨mb, h1, h2⟩ := I.mod.blt
  exact Calls.Name_function_global I.ok.kind hg (Calls.loadGlobal_builtin (by rw [I.ok.glob]; exact I.mod.glob.keeps I.bk) hm (by rw [I.ok.blt]; exact h1.keeps I.bk) ((h2 x hn).trans hv) h) hd
/-- a module's constant, a class, a function, as a value -/
theorem pe_glob {x : Str} {v : V} {u : Value} {pos : Pos} (hg : Gl X x) (hm : X.mg x = some u) (r : RelV v u) (hd : (x == ("__debug__" : Str)) = false := by decide) : PE X (.Name x pos) (tC v) :=
  fun _ _ _ H _ I h => ld_glob I hg hm ⟨v, H, I, r, h⟩ hd
theorem pe_bltn {x : Str} {v : V} {u : Value} {pos : Pos} (hg : Gl X x) (hm : X.mg x = none) (hv : bootBuiltins x = some u) (r : RelV v u) (hn : x ≠ "__name__" := by decide) (hd : (x == ("__debug__" : Str)) = false := by decide) : PE X (.Name x pos) (tC v) :=
  fun _ _ _ H _ I h => ld_blt I hg hm hv ⟨v, H, I, r, h⟩ hn hd

/-! ### arithmetic -/
/-- two ints -/
def t2I (ta tb : TE) (k : Int → Int → Hp → Prop) : St → Hp → Prop := fun σ H => ta σ H fun x H1 => tb σ H1 fun y H2 => ∃ i j, x = .int i ∧ y = .int j ∧ k i j H2
def tAdd (ta tb : TE) : TE := fun σ H Q => t2I ta tb (fun i j H2 => Q (.int (i + j)) H2) σ H
def tSub (ta tb : TE) : TE := fun σ H Q => t2I ta tb (fun i j H2 => Q (.int (i - j)) H2) σ H
/-- the left factor below 2^64 -/
def tMul (ta tb : TE) : TE := fun σ H Q => t2I ta tb (fun i j H2 => (-(2 ^ 64) < i ∧ i < 2 ^ 64) ∧ Q (.int (i * j)) H2) σ H
variable {a b : Expr} {ta tb : TE} {pos : Pos}
theorem pe_add (ha : PE X a ta) (hb : PE X b tb) : PE X (.BinOp a .Add b pos) (tAdd ta tb) := by
  intro pins s σ H Q I h
  refine wpAny_BinOp (bin ha hb I h fun v u s2 x y H2 I2 rx ry q => ?_)
  obtain ⟨i, j, rfl, rfl, q⟩ := q
  obtain ⟨t, rfl⟩ := rx
  obtain ⟨t', rfl⟩ := ry
  exact add_int ⟨.int _, H2, I2.tok _, ⟨_, rfl⟩, q⟩
theorem pe_sub (ha : PE X a ta) (hb : PE X b tb) : PE X (.BinOp a .Sub b pos) (tSub ta tb) := by
  intro pins s σ H Q I h
  refine wpAny_BinOp (bin ha hb I h fun v u s2 x y H2 I2 rx ry q => ?_)
  obtain ⟨i, j, rfl, rfl, q⟩ := q
  obtain ⟨t, rfl⟩ := rx
  obtain ⟨t', rfl⟩ := ry
  exact sub_int ⟨.int _, H2, I2.tok _, ⟨_, rfl⟩, q⟩
theorem pe_mul (ha : PE X a ta) (hb : PE X b tb) : PE X (.BinOp a .Mult b pos) (tMul ta tb) := by
  intro pins s σ H Q I h
  refine wpAny_BinOp (bin ha hb I h fun v u s2 x y H2 I2 rx ry q => ?_)
  obtain ⟨i, j, rfl, rfl, ⟨q1, q2⟩, q⟩ := q
  obtain ⟨t, rfl⟩ := rx
  obtain ⟨t', rfl⟩ := ry
  exact mul_int ⟨.int _, H2, I2.tok _, ⟨_, rfl⟩, q⟩ (.of_left (intBits_le_64 q1 q2))

/-! ### comparisons -/
def PC (X : Cx) (op : CmpOp) (a b : Expr) (t : TE) : Prop :=
  ∀ (pins : List (Addr × Obj)) (s : Shared) (σ : St) (H : Hp) (Q : VK), Inv X pins σ H s → t σ H Q →
    wpAny (model X.prog X.w) X.A (eval a X.env) (fun v s₁ => wpAny (model X.prog X.w) X.A (eval b X.env) (fun u s₂ => wpAny (model X.prog X.w) X.A (compareOp op v u) (EP X pins σ Q) X.xe s₂) X.xe s₁) X.xe s
theorem nobehind (b : Expr) {op : CmpOp} (h : op ≠ .In) (h2 : op ≠ .NotIn) : behindInMarks op b = false := by
  have e1 : (op == CmpOp.In) = false := by cases op <;> first | rfl | exact absurd rfl h
  have e2 : (op == CmpOp.NotIn) = false := by cases op <;> first | rfl | exact absurd rfl h2
  cases b <;> simp [behindInMarks, e1, e2]
def tCmp (p : Int → Int → Bool) (ta tb : TE) : TE := fun σ H Q => t2I ta tb (fun i j H2 => Q (.bl (p i j)) H2) σ H
abbrev tLt : TE → TE → TE := tCmp fun i j => decide (i < j)
abbrev tLe : TE → TE → TE := tCmp fun i j => decide (i ≤ j)
abbrev tGt : TE → TE → TE := tCmp fun i j => decide (j < i)
abbrev tGe : TE → TE → TE := tCmp fun i j => decide (j ≤ i)
abbrev tEqI : TE → TE → TE := tCmp fun i j => decide (i = j)
abbrev tNeI : TE → TE → TE := tCmp fun i j => !decide (i = j)
/-- a comparison of two ints, by its rule -/
theorem pc_int {op : CmpOp} {p : Int → Int → Bool} (ha : PE X a ta) (hb : PE X b tb)
    (rule : ∀ (i j : Int) (t u : Tok) (Q : Value → Shared → Prop) (s : Shared), Q (.bool (p i j)) s → wpAny (model X.prog X.w) X.A (compareOp op (.int i t) (.int j u)) Q X.xe s) : PC X op a b (tCmp p ta tb) := by
  intro pins s σ H Q I h
  refine bin ha hb I h fun v u s2 x y H2 I2 rx ry q => ?_
  obtain ⟨i, j, rfl, rfl, q⟩ := q
  obtain ⟨t, rfl⟩ := rx
  obtain ⟨t', rfl⟩ := ry
  exact rule i j t t' _ s2 ⟨.bl _, H2, I2, rfl, q⟩
theorem pc_lt (ha : PE X a ta) (hb : PE X b tb) : PC X .Lt a b (tLt ta tb) := pc_int ha hb fun _ _ _ _ _ _ h => lt_int h
theorem pc_le (ha : PE X a ta) (hb : PE X b tb) : PC X .LtE a b (tLe ta tb) := pc_int ha hb fun _ _ _ _ _ _ h => le_int h
theorem pc_gt (ha : PE X a ta) (hb : PE X b tb) : PC X .Gt a b (tGt ta tb) := pc_int ha hb fun _ _ _ _ _ _ h => gt_int h
theorem pc_ge (ha : PE X a ta) (hb : PE X b tb) : PC X .GtE a b (tGe ta tb) := pc_int ha hb fun _ _ _ _ _ _ h => ge_int h
theorem pc_eqI (ha : PE X a ta) (hb : PE X b tb) : PC X .Eq a b (tEqI ta tb) := pc_int ha hb fun _ _ _ _ _ _ h => eq_int (by rw [Bool.beq_eq_decide_eq]; exact h)
theorem pc_neI (ha : PE X a ta) (hb : PE X b tb) : PC X .NotEq a b (tNeI ta tb) := pc_int ha hb fun _ _ _ _ _ _ h => ne_int (by rw [bne, Bool.beq_eq_decide_eq]; exact h)
/-- is None -/
def tIsN (ta : TE) : TE := fun σ H Q => ta σ H fun x H1 => Q (.bl (decide (x = .non))) H1
def tNotN (ta : TE) : TE := fun σ H Q => ta σ H fun x H1 => Q (.bl (!decide (x = .non))) H1
theorem RelV.none_iff {x : V} {v : Value} (r : RelV x v) : (v == Value.none) = decide (x = .non) := by
  cases x with
  | non => cases r; rfl
  | bl _ => cases r; rfl
  | int _ => obtain ⟨t, rfl⟩ := r; rfl
  | str _ => obtain ⟨t, rfl⟩ := r; rfl
  | byt _ => obtain ⟨t, rfl⟩ := r; rfl
  | flt _ => obtain ⟨t, rfl⟩ := r; rfl
  | ref _ => cases r; rfl
  | ty _ => cases r; rfl
theorem pc_isN {j pos'} (ha : PE X a ta) : PC X .Is a (.Constant .none j pos') (tIsN ta) := by
  intro pins s σ H Q I h
  refine thn (ha pins s σ H _ I h) fun v s1 ⟨x, H1, I1, r1, q1⟩ => ?_
  exact Constant_none (is_none_gen ⟨.bl _, H1, I1, by rw [r1.none_iff]; rfl, q1⟩)
theorem pc_notN {j pos'} (ha : PE X a ta) : PC X .IsNot a (.Constant .none j pos') (tNotN ta) := by
  intro pins s σ H Q I h
  refine thn (ha pins s σ H _ I h) fun v s1 ⟨x, H1, I1, r1, q1⟩ => ?_
  exact Constant_none (isnot_none_gen ⟨.bl _, H1, I1, by rw [r1.none_iff]; rfl, q1⟩)
/-- a comparison as a value, as a test -/
def tB (t : TE) : TT := fun σ H Q => t σ H fun x H1 => ∃ c, x = .bl c ∧ Q c H1
theorem pe_cmp {op : CmpOp} {t : TE} (h : PC X op a b t) (h1 : behindInMarks op b = false := by first | exact nobehind _ (by decide) (by decide) | rfl) : PE X (.Compare a [op] [b] pos) t := fun pins s σ H Q I hw => wpAny_Compare1 (h pins s σ H Q I hw) h1
theorem pt_cmp {op : CmpOp} {t : TE} (h : PC X op a b t) (h1 : behindInMarks op b = false := by first | exact nobehind _ (by decide) (by decide) | rfl) : PT X (.Compare a [op] [b] pos) (tB t) := by
  intro pins s σ H Q I hw
  refine wpAny_isTrue_Compare1 (thn (h pins s σ H _ I hw) fun v s1 h1 => thn h1 fun u s2 h2 => thn h2 fun c s3 ⟨x, H1, I1, r1, q1⟩ => ?_) h1
  obtain ⟨d, rfl, q⟩ := q1
  cases r1
  exact wpAny_truthy_bool ⟨H1, I1, q⟩
/-- an expression whose value is a bool, as a test -/
theorem pt_val {e : Expr} {t : TE} (h : PE X e t) (he : ∀ whole, isTrue e X.env whole = (do let v ← whole; standAt e.pos; holding [v] (truthy v)) := by intro _; rfl) : PT X e (tB t) := by
  intro pins s σ H Q I hw
  refine isTrue_plain (thn (h pins s σ H _ I hw) fun v s1 ⟨x, H1, I1, r1, q1⟩ => ?_) (he _)
  obtain ⟨d, rfl, q⟩ := q1
  cases r1
  exact wpAny_truthy_bool ⟨H1, I1, q⟩

/-! ### and, or, not -/
variable {tA tB' : TT} {rest : List Expr}
def tAnd (t u : TT) : TT := fun σ H Q => t σ H fun c H1 => if c = true then u σ H1 Q else Q false H1
def tOr (t u : TT) : TT := fun σ H Q => t σ H fun c H1 => if c = true then Q true H1 else u σ H1 Q
def tNot (t : TT) : TT := fun σ H Q => t σ H fun c H1 => Q (!c) H1
theorem pw_and1 (ha : PT X a tA) : PW X (.BoolOp .And [a] pos) tA := by
  intro wh pins s σ H Q I h
  refine isTrue_and (thn (ha pins s σ H Q I h) fun c s1 e => ?_)
  cases c with
  | true => exact isTrue_and_nil e
  | false => exact e
theorem pw_or1 (ha : PT X a tA) : PW X (.BoolOp .Or [a] pos) tA := by
  intro wh pins s σ H Q I h
  refine isTrue_or (thn (ha pins s σ H Q I h) fun c s1 e => ?_)
  cases c with
  | false => exact isTrue_or_nil e
  | true => exact e
theorem pw_and (ha : PT X a tA) (hb : PW X (.BoolOp .And (b :: rest) pos) tB') : PW X (.BoolOp .And (a :: b :: rest) pos) (tAnd tA tB') := by
  intro wh pins s σ H Q I h
  refine isTrue_and (thn (ha pins s σ H _ I h) fun c s1 ⟨H1, I1, q1⟩ => ?_)
  cases c with
  | true => exact hb wh pins s1 σ H1 Q I1 q1
  | false => exact ⟨H1, I1, q1⟩
theorem pw_or (ha : PT X a tA) (hb : PW X (.BoolOp .Or (b :: rest) pos) tB') : PW X (.BoolOp .Or (a :: b :: rest) pos) (tOr tA tB') := by
  intro wh pins s σ H Q I h
  refine isTrue_or (thn (ha pins s σ H _ I h) fun c s1 ⟨H1, I1, q1⟩ => ?_)
  cases c with
  | true => exact ⟨H1, I1, q1⟩
  | false => exact hb wh pins s1 σ H1 Q I1 q1
theorem pt_not (ha : PT X a tA) : PT X (.UnaryOp .Not a pos) (tNot tA) := by
  intro pins s σ H Q I h
  exact isTrue_not (ha pins s σ H (fun c H1 => Q (!c) H1) I h)
/-- .. as values (bools) -/
def tAndV (ta tb : TE) : TE := fun σ H Q => ta σ H fun x H1 => ∃ c, x = .bl c ∧ if c = true then tb σ H1 Q else Q (.bl false) H1
def tOrV (ta tb : TE) : TE := fun σ H Q => ta σ H fun x H1 => ∃ c, x = .bl c ∧ if c = true then Q (.bl true) H1 else tb σ H1 Q
def tNotV (ta : TE) : TE := fun σ H Q => ta σ H fun x H1 => ∃ c, x = .bl c ∧ Q (.bl (!c)) H1
theorem pe_one {op} {t : TE} (h : PE X a t) : PE X (.BoolOp op [a] pos) t := fun pins s σ H Q I hw => BoolOp_one (h pins s σ H Q I hw)
theorem pe_and (ha : PE X a ta) (hb : PE X (.BoolOp .And (b :: rest) pos) tb) : PE X (.BoolOp .And (a :: b :: rest) pos) (tAndV ta tb) := by
  intro pins s σ H Q I h
  refine BoolOp_and (thn (ha pins s σ H _ I h) fun v s1 ⟨x, H1, I1, r1, q1⟩ => ?_)
  obtain ⟨c, rfl, q1⟩ := q1
  cases r1
  refine wpAny_truthy_bool ?_
  cases c with
  | true => exact hb pins s1 σ H1 Q I1 q1
  | false => exact ⟨.bl false, H1, I1, rfl, q1⟩
theorem pe_or (ha : PE X a ta) (hb : PE X (.BoolOp .Or (b :: rest) pos) tb) : PE X (.BoolOp .Or (a :: b :: rest) pos) (tOrV ta tb) := by
  intro pins s σ H Q I h
  refine BoolOp_or (thn (ha pins s σ H _ I h) fun v s1 ⟨x, H1, I1, r1, q1⟩ => ?_)
  obtain ⟨c, rfl, q1⟩ := q1
  cases r1
  refine wpAny_truthy_bool ?_
  cases c with
  | false => exact hb pins s1 σ H1 Q I1 q1
  | true => exact ⟨.bl true, H1, I1, rfl, q1⟩
theorem pe_not (ha : PE X a ta) : PE X (.UnaryOp .Not a pos) (tNotV ta) := by
  intro pins s σ H Q I h
  refine UnaryOp_ (thn (ha pins s σ H _ I h) fun v s1 ⟨x, H1, I1, r1, q1⟩ => ?_)
  obtain ⟨c, rfl, q1⟩ := q1
  cases r1
  exact not_of (wpAny_truthy_bool ⟨.bl (!c), H1, I1, rfl, q1⟩)
/-- a if t else b -/
def tIf (t : TT) (ta tb : TE) : TE := fun σ H Q => t σ H fun c H1 => if c = true then ta σ H1 Q else tb σ H1 Q
theorem pe_ifExp {c : Expr} (hc : PT X c tA) (ha : PE X a ta) (hb : PE X b tb) : PE X (.IfExp c a b pos) (tIf tA ta tb) := by
  intro pins s σ H Q I h
  refine wpAny_IfExp (thn (hc pins s σ H _ I h) fun d s1 ⟨H1, I1, q1⟩ => ?_)
  cases d with
  | true => exact ha pins s1 σ H1 Q I1 q1
  | false => exact hb pins s1 σ H1 Q I1 q1
end
end L2

namespace L2
open PySem PySem.Spec PyProof.Rows

/-! ### a list, a tuple that is read: tracked, frozen, or an object of the module -/
def SqL (K : PySem.W.Frag) (H : Hp) (a : Addr) (xs : List V) : Prop :=
  Rd H a (.lst xs) ∨
    ∃ (o : Obj) (its : Array Value) (n : Nat), K.lookup a = some o ∧ o.cls = .type "list" ∧ o.dict = none ∧ o.data = .seq its n ∧ its.size ≤ sizeLine ∧ Vals xs its.toList
def SqT (K : PySem.W.Frag) (H : Hp) (a : Addr) (xs : List V) : Prop :=
  Rd H a (.tup xs) ∨
    ∃ (o : Obj) (its : Array Value) (n : Nat), K.lookup a = some o ∧ o.cls = .type "tuple" ∧ o.data = .seq its n ∧ its.size ≤ sizeLine ∧ Vals xs its.toList
def absV : Value → Option V
  | .none => some .non
  | .bool b => some (.bl b)
  | .int i _ => some (.int i)
  | .str x _ => some (.str x)
  | .bytes b _ => some (.byt b)
  | .float b _ => some (.flt b)
  | .ref a => some (.ref a)
  | .type n => some (.ty n)
  | _ => none
theorem RelV.abs {x : V} {u : Value} (r : RelV x u) : absV u = some x := by
  cases x with
  | non => cases r; rfl
  | bl _ => cases r; rfl
  | int _ => obtain ⟨t, rfl⟩ := r; rfl
  | str _ => obtain ⟨t, rfl⟩ := r; rfl
  | byt _ => obtain ⟨t, rfl⟩ := r; rfl
  | flt _ => obtain ⟨t, rfl⟩ := r; rfl
  | ref _ => cases r; rfl
  | ty _ => cases r; rfl
theorem RelV.inj {x y : V} {u : Value} (r : RelV x u) (q : RelV y u) : x = y := Option.some.inj (r.abs.symm.trans q.abs)
theorem Vals.inj : ∀ {xs ys : List V} {us : List Value}, Vals xs us → Vals ys us → xs = ys
  | _, _, _, .nil, .nil => rfl
  | _, _, _, .cons r t, .cons r' t' => by rw [r.inj r', Vals.inj t t']
section
variable {X : Cx} {pins : List (Addr × Obj)} {σ : St} {H : Hp} {s : Shared} {a : Addr} {xs ys : List V}
theorem SqL.of {K : PySem.W.Frag} (h : H a = some (.lst xs)) : SqL K H a xs := .inl (.inl h)
theorem SqT.of {K : PySem.W.Frag} (h : H a = some (.tup xs)) : SqT K H a xs := .inl (.inl h)
theorem Inv.list (I : Inv X pins σ H s) (h : SqL X.K H a xs) : ∃ its : List Value, Vals xs its ∧ PlainL s.heap a its.toArray ∧ xs.length ≤ sizeLine := by
  rcases h with h | ⟨o, its, n, hk, hc, hd, hs, hz, r⟩
  · obtain ⟨z, its, n, r, e⟩ := h.ok I.hok
    exact ⟨its, r, ⟨_, n, e, rfl, rfl, rfl⟩, z⟩
  · refine ⟨its.toList, r, ⟨o, n, I.kIn a o hk, hc, hd, by simpa using hs⟩, ?_⟩
    have e := r.length
    simp only [Array.length_toList] at e
    omega
theorem Inv.tuple (I : Inv X pins σ H s) (h : SqT X.K H a xs) : ∃ its : List Value, Vals xs its ∧ IsTup s.heap a its.toArray ∧ xs.length ≤ sizeLine := by
  rcases h with h | ⟨o, its, n, hk, hc, hs, hz, r⟩
  · obtain ⟨z, its, r, p⟩ := h.ok I.hok
    exact ⟨its, r, p, z⟩
  · refine ⟨its.toList, r, ⟨o, I.kIn a o hk, hc, n, by simpa using hs⟩, ?_⟩
    have e := r.length
    simp only [Array.length_toList] at e
    omega
theorem Inv.list_inj (I : Inv X pins σ H s) (h : SqL X.K H a xs) (h' : SqL X.K H a ys) : xs = ys := by
  obtain ⟨its, r, ⟨o, n, e, _, _, d⟩, _⟩ := I.list h
  obtain ⟨its', r', ⟨o', n', e', _, _, d'⟩, _⟩ := I.list h'
  rw [e] at e'; cases e'
  rw [d] at d'
  injection d' with d1 _
  have : its = its' := by simpa using congrArg Array.toList d1
  subst this
  exact r.inj r'
theorem Inv.tuple_inj (I : Inv X pins σ H s) (h : SqT X.K H a xs) (h' : SqT X.K H a ys) : xs = ys := by
  obtain ⟨its, r, ⟨o, e, _, n, d⟩, _⟩ := I.tuple h
  obtain ⟨its', r', ⟨o', e', _, n', d'⟩, _⟩ := I.tuple h'
  rw [e] at e'; cases e'
  rw [d] at d'
  injection d' with d1 _
  have : its = its' := by simpa using congrArg Array.toList d1
  subst this
  exact r.inj r'
end

/-! ### another wish about exceptions -/
abbrev Cx.wish (X : Cx) (E : Value → Shared → Prop) : Cx := { X with xe := E }
/-- no exception leaves -/
abbrev Cx.nox (X : Cx) : Cx := X.wish fun _ _ => False
theorem Cx.Ok.wish {X : Cx} (ok : X.Ok) (E : Value → Shared → Prop) : (X.wish E).Ok :=
  ⟨ok.mod, ok.kind, ok.glob, ok.blt, ok.above, ok.inj, ok.has, ok.cab, ok.hd, ok.frames, ok.stk, ok.exf, ok.bs, ok.bsz, ok.noex, ok.exfs, ok.funs, ok.frf⟩
theorem Cx.Ok.unwish {X : Cx} {E : Value → Shared → Prop} (ok : (X.wish E).Ok) : X.Ok :=
  ⟨ok.mod, ok.kind, ok.glob, ok.blt, ok.above, ok.inj, ok.has, ok.cab, ok.hd, ok.frames, ok.stk, ok.exf, ok.bs, ok.bsz, ok.noex, ok.exfs, ok.funs, ok.frf⟩
section
variable {X : Cx} {pins : List (Addr × Obj)} {σ : St} {H : Hp} {s : Shared} {E : Value → Shared → Prop}
theorem Inv.wish (I : Inv X pins σ H s) (E : Value → Shared → Prop) : Inv (X.wish E) pins σ H s := ⟨I.ok.wish E, I.os, I.bare, I.base, I.loc, I.cell, I.free, I.freeC, I.pin, I.hok, I.len⟩
theorem Inv.unwish (I : Inv (X.wish E) pins σ H s) : Inv X pins σ H s := ⟨I.ok.unwish, I.os, I.bare, I.base, I.loc, I.cell, I.free, I.freeC, I.pin, I.hok, I.len⟩
theorem SP.unwish {D : Ends} {f : Flow} {s' : Shared} (h : SP (X.wish E) pins D f s') : SP X pins D f s' := by
  cases f with
  | next => obtain ⟨σ', H', I, q⟩ := h; exact ⟨σ', H', I.unwish, q⟩
  | brk => obtain ⟨σ', H', I, q⟩ := h; exact ⟨σ', H', I.unwish, q⟩
  | cont => obtain ⟨σ', H', I, q⟩ := h; exact ⟨σ', H', I.unwish, q⟩
  | ret u => obtain ⟨v, σ', H', I, r, q⟩ := h; exact ⟨v, σ', H', I.unwish, r, q⟩
theorem PE.nox {e : Expr} {t : TE} (h : PE X.nox e t) : PE X e t := fun pins s σ H Q I hw =>
  wpAny_mono (h pins s σ H Q (I.wish _) hw) (fun _ _ ⟨v, H', I', r, q⟩ => ⟨v, H', I'.unwish, r, q⟩) fun _ _ z => False.elim z
theorem PT.nox {e : Expr} {t : TT} (h : PT X.nox e t) : PT X e t := fun pins s σ H Q I hw =>
  wpAny_mono (h pins s σ H Q (I.wish _) hw) (fun _ _ ⟨H', I', q⟩ => ⟨H', I'.unwish, q⟩) fun _ _ z => False.elim z
theorem PSs.nox {st : List Stmt} {t : TS} (h : PSs X.nox st t) : PSs X st t := fun pins s σ H D I hw =>
  wpAny_mono (h pins s σ H D (I.wish _) hw) (fun _ _ q => q.unwish) fun _ _ z => False.elim z
end

/-! ### blocks and small statements -/
section
variable {X : Cx} {st : Stmt} {rest : List Stmt} {t u : TS} {e : Expr} {te : TE} {pos : Pos}
def tNext : TS := fun D σ H => D.nx σ H
def tSeq (t u : TS) : TS := fun D σ H => t { D with nx := u D } σ H
theorem pss_nil : PSs X [] tNext := fun _ _ σ H _ I h => wpAny_execs_nil ⟨σ, H, I, h⟩
theorem pss_cons (h1 : PS X st t) (h2 : PSs X rest u) : PSs X (st :: rest) (tSeq t u) := by
  intro pins s σ H D I h
  refine wpAny_execs_cons (thn (h1 pins s σ H { D with nx := u D } I h) fun f s1 q => ?_)
  cases f with
  | next =>
    obtain ⟨σ', H', I', q⟩ := q
    exact h2 pins s1 σ' H' D I' q
  | ret v => exact q
  | brk => exact q
  | cont => exact q
theorem pss_one (h1 : PS X st t) : PSs X [st] t := by
  intro pins s σ H D I h
  refine wpAny_execs_cons (thn (h1 pins s σ H D I h) fun f s1 q => ?_)
  cases f with
  | next => exact wpAny_execs_nil q
  | ret v => exact q
  | brk => exact q
  | cont => exact q
def tBreak : TS := fun D σ H => D.bk σ H
def tCont : TS := fun D σ H => D.ct σ H
theorem ps_pass : PS X (.Pass pos) tNext := fun _ _ σ H _ I h => wpAny_Pass ⟨σ, H, I, h⟩
theorem ps_break : PS X (.Break pos) tBreak := fun _ _ σ H _ I h => wpAny_Break ⟨σ, H, I, h⟩
theorem ps_continue : PS X (.Continue pos) tCont := fun _ _ σ H _ I h => wpAny_Continue ⟨σ, H, I, h⟩
/-- in a def's body nothing is shown -/
theorem Inv.quiet {pins : List (Addr × Obj)} {σ : St} {H : Hp} {s : Shared} (I : Inv X pins σ H s) : interactive X.env = false := by simp [interactive, I.ok.kind]
/-- a docstring -/
theorem ps_doc {x j pos pos'} : PS X (.Expr (.Constant (.str x) j pos) pos') tNext := fun _ s σ H _ I h => wpAny_Expr (Calls.Constant_str (show SP X _ _ .next { s with toks := s.toks + 1 } from ⟨σ, H, I.tok _, h⟩)) I.quiet
/-- an expression whose value is dropped -/
def tDrop (te : TE) : TS := fun D σ H => te σ H fun _ H1 => D.nx σ H1
theorem ps_expr (he : PE X e te) (hs : swapsWith e none pos.line X.env = pure false := by rfl) : PS X (.Expr e pos) (tDrop te) := by
  intro pins s σ H D I h
  exact wpAny_Expr_any (thn (he pins s σ H _ I h) fun v s1 ⟨x, H1, I1, r1, q1⟩ => ⟨σ, H1, I1, q1⟩) I.quiet hs
def tRet (te : TE) : TS := fun D σ H => te σ H D.rt
theorem ps_ret (he : PE X e te) : PS X (.Return (some e) pos) (tRet te) := by
  intro pins s σ H D I h
  exact wpAny_Return_some (thn (he pins s σ H _ I h) fun v s1 ⟨x, H1, I1, r1, q1⟩ => ⟨x, σ, H1, I1, r1, q1⟩)
def tRetN : TS := fun D _ H => D.rt .non H
theorem ps_retN : PS X (.Return none pos) tRetN := fun _ _ σ H _ I h => wpAny_Return_none ⟨.non, σ, H, I, rfl, h⟩
def tIfS (c : TT) (t u : TS) : TS := fun D σ H => c σ H fun b H1 => if b = true then t D σ H1 else u D σ H1
theorem ps_if {c : Expr} {a b : List Stmt} {tc : TT} (hc : PT X c tc) (ha : PSs X a t) (hb : PSs X b u) : PS X (.If c a b pos) (tIfS tc t u) := by
  intro pins s σ H D I h
  refine wpAny_If (thn (hc pins s σ H _ I h) fun d s1 ⟨H1, I1, q1⟩ => ?_)
  cases d with
  | true => exact ha pins s1 σ H1 D I1 q1
  | false => exact hb pins s1 σ H1 D I1 q1
/-- code that the proof never comes to -/
def tNever : TS := fun _ _ _ => False
theorem ps_never : PS X st tNever := fun _ _ _ _ _ _ h => h.elim
theorem pss_never {sts : List Stmt} : PSs X sts tNever := fun _ _ _ _ _ _ h => h.elim
end

/-! ### targets -/
abbrev TG := V → St → Hp → (St → Hp → Prop) → Prop
abbrev TGs := List V → St → Hp → (St → Hp → Prop) → Prop
def PG (X : Cx) (target : Expr) (t : TG) : Prop :=
  ∀ (pins : List (Addr × Obj)) (s : Shared) (σ : St) (H : Hp) (v : V) (u : Value) (Q : St → Hp → Prop), Inv X pins σ H s → RelV v u → t v σ H Q →
    wpAny (model X.prog X.w) X.A (assign target X.env u) (fun _ s' => ∃ σ' H', Inv X pins σ' H' s' ∧ Q σ' H') X.xe s
/-- several targets, one after another -/
def PGs (X : Cx) (ts : List Expr) (t : TGs) : Prop :=
  ∀ (pins : List (Addr × Obj)) (s : Shared) (σ : St) (H : Hp) (vs : List V) (us : List Value) (Q : St → Hp → Prop), Inv X pins σ H s → Vals vs us → t vs σ H Q →
    wpAny (model X.prog X.w) X.A (assignInOrder ((assignEach ts X.env).map (·.2)) us) (fun _ s' => ∃ σ' H', Inv X pins σ' H' s' ∧ Q σ' H') X.xe s
/-- o[i] = v, by values -/
abbrev TSet := V → V → V → Hp → (Hp → Prop) → Prop
def PSet (X : Cx) (t : TSet) : Prop :=
  ∀ (pins : List (Addr × Obj)) (s : Shared) (σ : St) (H : Hp) (o i v : V) (ov iv u : Value) (Q : Hp → Prop), Inv X pins σ H s → RelV o ov → RelV i iv → RelV v u → t o i v H Q →
    wpAny (model X.prog X.w) X.A (setItem ov iv u) (fun _ s' => ∃ H', Inv X pins σ H' s' ∧ Q H') X.xe s
/-- a op= b, by values -/
abbrev TIp := V → V → Hp → VK → Prop
def PIp (X : Cx) (op : Operator) (t : TIp) : Prop :=
  ∀ (pins : List (Addr × Obj)) (s : Shared) (σ : St) (H : Hp) (x y : V) (v u : Value) (Q : VK), Inv X pins σ H s → RelV x v → RelV y u → t x y H Q →
    wpAny (model X.prog X.w) X.A (inplaceOp op v u) (EP X pins σ Q) X.xe s
section
variable {X : Cx} {pos : Pos}
def gName (i : Nat) : TG := fun v σ H Q => Q (σ.set i (some v)) H
theorem pg_name {i : Nat} {x : Str} (hN : X.N.Nodup) (hi : X.N[i]? = some x) (hx : Loc X.env.scope x) (hf : X.fn x = true ∨ X.env.scope.names.lookup x = some .local := by first | exact .inl rfl | exact .inr rfl | assumption) : PG X (.Name x pos) (gName i) := by
  intro pins s σ H v u Q I r h
  exact wpAny_assign_Name (store_ok I hN hi hx r (fun s' I' => ⟨_, H, I', h⟩) hf)
def gNil : TGs := fun vs σ H Q => vs = [] ∧ Q σ H
def gCons (t : TG) (u : TGs) : TGs := fun vs σ H Q => ∃ v r, vs = v :: r ∧ t v σ H fun σ' H' => u r σ' H' Q
theorem pgs_nil : PGs X [] gNil := by
  intro pins s σ H vs us Q I r h
  obtain ⟨e, h⟩ := h
  subst e
  cases r
  exact assignInOrder_nil ⟨σ, H, I, h⟩
theorem pgs_cons {e : Expr} {es : List Expr} {t : TG} {u : TGs} (h1 : PG X e t) (h2 : PGs X es u)
    (hs : (assignEach (e :: es) X.env).map (·.2) = assign e X.env :: (assignEach es X.env).map (·.2) := by rfl) : PGs X (e :: es) (gCons t u) := by
  intro pins s σ H vs us Q I r h
  obtain ⟨v, vr, e1, h⟩ := h
  subst e1
  cases r with
  | cons r rr =>
    rw [hs]
    refine assignInOrder_cons (thn (h1 pins s σ H _ _ _ I r h) fun _ s1 ⟨σ1, H1, I1, q1⟩ => ?_)
    exact h2 pins s1 σ1 H1 _ _ Q I1 rr q1
/-- (a, b, ..) = a tuple of that length -/
def gTup (K : PySem.W.Frag) (n : Nat) (t : TGs) : TG := fun v σ H Q => ∃ a xs, v = .ref a ∧ SqT K H a xs ∧ xs.length = n ∧ t xs σ H Q
theorem pg_tup {es : List Expr} {k : Nat} {t : TGs} {n : Nat} (hc : X.calm = true) (h : PGs X es t)
    (hn : (assignEach es X.env).length = n := by rfl) (hst : (assignEach es X.env).findIdx? (·.1) = none := by rfl) : PG X (.Tuple es k pos) (gTup X.K n t) := by
  intro pins s σ H v u Q I r hw
  obtain ⟨a, xs, e1, hq, hl, hw⟩ := hw
  subst e1
  cases r
  obtain ⟨its, rv, ht, hz⟩ := I.tuple hq
  refine assign_Tuple_tuple (I.ok.hd hc) ht (by simp [hn, ← hl, rv.length]) hst fun h' hx => ?_
  have I1 : Inv X pins σ H { s with heap := h' } := I.kept (t' := s.toks) fun b o e => hx b o (Nat.ne_of_lt (Heap.lt_size e)) e
  exact h pins _ σ H xs _ Q I1 (by simpa using rv) hw
/-- o[i] = .. -/
def gSub (to ti : TE) (t : TSet) : TG := fun v σ H Q => to σ H fun o H1 => ti σ H1 fun i H2 => t o i v H2 fun H3 => Q σ H3
theorem pg_sub {o i : Expr} {to ti : TE} {t : TSet} (ho : PE X o to) (hi : PE X i ti) (hs : PSet X t)
    (ha : ∀ v, assign (.Subscript o i pos) X.env v = (do
      let ov ← holding [v] (eval o X.env)
      let iv ← holding [v, ov] (eval i X.env)
      standAt pos
      holding [v, ov, iv] (setItem ov iv v)
      release [v, ov, iv] []) := by intro _; rfl) : PG X (.Subscript o i pos) (gSub to ti t) := by
  intro pins s σ H v u Q I r h
  rw [ha]
  refine wpAny_bind (wpAny_holding (thn (ho pins s σ H _ I h) fun ov s1 ⟨x, H1, I1, r1, q1⟩ => ?_))
  refine wpAny_bind (wpAny_holding (thn (hi pins s1 σ H1 _ I1 q1) fun iv s2 ⟨y, H2, I2, r2, q2⟩ => ?_))
  refine wpAny_bind (wpAny_standAt (wpAny_bind (wpAny_holding (thn (hs pins s2 σ H2 x y v ov iv u _ I2 r1 r2 r q2) fun _ s3 ⟨H3, I3, q3⟩ => ?_))))
  exact wpAny_release ⟨σ, H3, I3, q3⟩
/-- target = value -/
def tAsg (te : TE) (g : TG) : TS := fun D σ H => te σ H fun x H1 => g x σ H1 D.nx
theorem ps_asg {tg e : Expr} {te : TE} {g : TG} (he : PE X e te) (hg : PG X tg g) (hs : swapsWithSole [tg] e pos.line X.env = pure false := by rfl) (hw : swappedStores [tg] e X.env = pure none := by rfl)
    (h1 : (assignEach [tg] X.env).map (·.2) = [assign tg X.env] := by rfl) : PS X (.Assign [tg] e pos) (tAsg te g) := by
  intro pins s σ H D I h
  refine wpAny_Assign_stores (thn (he pins s σ H _ I h) fun v s1 ⟨x, H1, I1, r1, q1⟩ => ?_) hs hw
  rw [h1]
  exact thn (hg pins s1 σ H1 x v _ I1 r1 q1) fun _ s2 q => q
/-- name = value -/
theorem ps_set {i : Nat} {x : Str} {e : Expr} {te : TE} {pos' : Pos} (hN : X.N.Nodup) (hi : X.N[i]? = some x) (hx : Loc X.env.scope x) (he : PE X e te) (hs : swapsWith e (some (.Name x pos')) pos.line X.env = pure false := by rfl) (hf : X.fn x = true ∨ X.env.scope.names.lookup x = some .local := by first | exact .inl rfl | exact .inr rfl | assumption) :
    PS X (.Assign [.Name x pos'] e pos) (tAsg te (gName i)) := by
  intro pins s σ H D I h
  refine wpAny_Assign_Name (thn (he pins s σ H _ I h) fun v s1 ⟨y, H1, I1, r1, q1⟩ => ?_) hs
  exact store_ok I1 hN hi hx r1 (fun s2 I2 => ⟨_, H1, I2, q1⟩) hf
/-- a, b = x, y with plain local names: stored from the right; the pair itself is not tracked (the opening rows as in PyProof/Rows/TupAssign.lean:23) -/
def tPar (i j : Nat) (ta : TA) : TS := fun D σ H => ta σ H fun vs H1 => ∃ v w, vs = [v, w] ∧ D.nx ((σ.set i (some v)).set j (some w)) H1
theorem ps_par {i j : Nat} {x y : Str} {a b : Expr} {ta : TA} {px py pt : Pos} {kt k2 pt2} (hc : X.calm = true) (hN : X.N.Nodup) (hi : X.N[i]? = some x) (hj : X.N[j]? = some y) (hij : i ≠ j)
    (hx : X.env.scope.names.lookup x = some .local) (hy : X.env.scope.names.lookup y = some .local) (ha : PA X [a, b] ta)
    (hw : swappedStores [.Tuple [.Name x px, .Name y py] kt pt] (.Tuple [a, b] k2 pt2) X.env = pure (some [x, y]))
    (hs : swapsWithSole [.Tuple [.Name x px, .Name y py] kt pt] (.Tuple [a, b] k2 pt2) pos.line X.env = pure false := by rfl) :
    PS X (.Assign [.Tuple [.Name x px, .Name y py] kt pt] (.Tuple [a, b] k2 pt2) pos) (tPar i j ta) := by
  intro pins s σ H D I h
  rw [exec_Assign_arm]
  refine wpAny_bind (wpAny_standAt ?_)
  rw [hs]
  refine wpAny_bind (wpAny_pure ?_)
  rw [if_neg (by decide)]
  refine wpAny_bind (Tuple_ (thn (ha _ pins s σ H _ I h) fun us s1 ⟨vs, H1, I1, r1, q1⟩ => ?_))
  obtain ⟨v, w, e1, q1⟩ := q1
  subst e1
  obtain ⟨u1, u2, rfl, rv, rw'⟩ : ∃ u1 u2, us = [u1, u2] ∧ RelV v u1 ∧ RelV w u2 := by
    cases r1 with
    | cons p q =>
      cases q with
      | cons p' q' =>
        cases q'
        exact ⟨_, _, rfl, p, p'⟩
  refine wpAny_newObj_type ?_ (by show 2 ≤ sizeLine; decide)
  have I2 : Inv X pins σ H1 { s1 with heap := s1.heap.push { cls := .type "tuple", data := .seq [u1, u2].toArray } } := I1.kept (t' := s1.toks) fun b o e => Heap.get?_push_of_some _ e
  rw [hw]
  refine wpAny_bind (wpAny_pure ?_)
  show wpAny (model X.prog X.w) X.A (do rule "assign.swapped-stores"; let items ← unpackItems (.ref s1.heap.objs.size) 2 none; assignInOrder [fun v => bindName X.env y v, fun v => bindName X.env x v] items.reverse; pure Flow.next) _ _ _
  refine wpAny_bind (wpAny_rule (wpAny_bind (unpackItems_tuple (items := #[u1, u2]) (I.ok.hd hc) (IsTup.new s1.heap _) fun h' hx' => ?_)))
  have I3 := I2.kept (h' := h') (t' := s1.toks) fun b o e => hx' b o (Nat.ne_of_lt (Heap.lt_size e)) e
  show wpAny _ _ (assignInOrder [fun v => bindName X.env y v, fun v => bindName X.env x v] [u2, u1] >>= fun _ => pure Flow.next) _ _ _
  refine wpAny_bind (assignInOrder_cons (wpAny_bindName (store_ok I3 hN hj (.inl hy) rw' (fun s2 I4 => ?_) (.inr hy))))
  refine assignInOrder_cons (wpAny_bindName (store_ok I4 hN hi (.inl hx) rv (fun s3 I5 => assignInOrder_nil (wpAny_pure ?_)) (.inr hx)))
  rw [List.set_comm _ _ (Ne.symm hij)] at I5
  exact ⟨_, H1, I5, q1⟩
/-- name op= e -/
def tAug (i : Nat) (te : TE) (ti : TIp) : TS := fun D σ H => ∃ x, σ[i]? = some (some x) ∧ te σ H fun y H1 => ti x y H1 fun z H2 => D.nx (σ.set i (some z)) H2
theorem ps_aug {i : Nat} {x : Str} {e : Expr} {te : TE} {op : Operator} {ti : TIp} {pos' : Pos} (hN : X.N.Nodup) (hi : X.N[i]? = some x) (hx : Loc X.env.scope x) (he : PE X e te) (ho : PIp X op ti) (hf : X.fn x = true ∨ X.env.scope.names.lookup x = some .local := by first | exact .inl rfl | exact .inr rfl | assumption) :
    PS X (.AugAssign (.Name x pos') op e pos) (tAug i te ti) := by
  intro pins s σ H D I h
  obtain ⟨v, e1, h⟩ := h
  obtain ⟨m, hn, hl⟩ := I.loc
  have vis : Vis X.env.scope x := by rcases hx with k | k; exact .inl k; exact .inr (.inl k)
  obtain ⟨u, r, l⟩ := hl i x v hi e1 vis
  refine wpAny_AugAssign_Name ?_
  have go : wpAny (model X.prog X.w) X.A (eval e X.env) (fun w s₂ => wpAny (model X.prog X.w) X.A (inplaceOp op u w) (fun r s₃ => wpAny (model X.prog X.w) X.A (storeName X.env x r) (fun _ => SP X pins D .next) X.xe s₃) X.xe s₂) X.xe s := by
    refine thn (he pins s σ H _ I h) fun w s1 ⟨y, H1, I1, r1, q1⟩ => ?_
    refine thn (ho pins s1 σ H1 v y u w _ I1 r r1 q1) fun z s2 ⟨zv, H2, I2, r2, q2⟩ => ?_
    exact store_ok I2 hN hi hx r2 (fun s3 I3 => ⟨_, H2, I3, q2⟩) hf
  rcases l with ⟨hk, hm⟩ | ⟨hk, c, hc, hcell⟩
  · exact wpAny_loadName_local I.ok.kind hk hn hm go
  · rcases hk with hk | hk
    · exact wpAny_loadName_cell I.ok.kind hk hc hcell go
    · rcases hx with k | k
      · have : X.env.scope.names.lookup x = some .free := hk
        rw [k] at this; cases this
      · have : X.env.scope.names.lookup x = some .free := hk
        rw [k] at this; cases this
/-- o[i] op= e -/
def tAugS (to ti te : TE) (tget : V → V → Hp → VK → Prop) (tip : TIp) (tset : TSet) : TS := fun D σ H => to σ H fun o H1 => ti σ H1 fun i H2 => tget o i H2 fun x H3 => te σ H3 fun y H4 => tip x y H4 fun z H5 => tset o i z H5 fun H6 => D.nx σ H6
/-- o[i], by values -/
def PGet (X : Cx) (t : V → V → Hp → VK → Prop) : Prop :=
  ∀ (pins : List (Addr × Obj)) (s : Shared) (σ : St) (H : Hp) (o i : V) (ov iv : Value) (Q : VK), Inv X pins σ H s → RelV o ov → RelV i iv → t o i H Q →
    wpAny (model X.prog X.w) X.A (getItem ov iv) (EP X pins σ Q) X.xe s
theorem ps_augS {o i e : Expr} {to ti te : TE} {tget : V → V → Hp → VK → Prop} {tip : TIp} {tset : TSet} {op : Operator} {tpos : Pos} (ho : PE X o to) (hi : PE X i ti) (hg : PGet X tget) (he : PE X e te) (hp : PIp X op tip) (hs : PSet X tset)
    (ha : ∀ ov iv new, augStore i ov iv new = (do holding [new, ov, iv] (setItem ov iv new); release [new, ov, iv] []; pure .next) := by intros; rfl) : PS X (.AugAssign (.Subscript o i tpos) op e pos) (tAugS to ti te tget tip tset) := by
  intro pins s σ H D I h
  refine wpAny_AugAssign_SubscriptAny (thn (ho pins s σ H _ I h) fun ov s1 ⟨x1, H1, I1, r1, q1⟩ => ?_) ha
  refine thn (hi pins s1 σ H1 _ I1 q1) fun iv s2 ⟨x2, H2, I2, r2, q2⟩ => ?_
  refine thn (hg pins s2 σ H2 x1 x2 ov iv _ I2 r1 r2 q2) fun old s3 ⟨x3, H3, I3, r3, q3⟩ => ?_
  refine thn (he pins s3 σ H3 _ I3 q3) fun v s4 ⟨x4, H4, I4, r4, q4⟩ => ?_
  refine thn (hp pins s4 σ H4 x3 x4 old v _ I4 r3 r4 q4) fun new s5 ⟨x5, H5, I5, r5, q5⟩ => ?_
  exact thn (hs pins s5 σ H5 x1 x2 x5 ov iv new _ I5 r1 r2 r5 q5) fun _ s6 ⟨H6, I6, q6⟩ => ⟨σ, H6, I6, q6⟩
/-- ints -/
def ipI (f : Int → Int → Int) : TIp := fun x y H Q => ∃ i j, x = .int i ∧ y = .int j ∧ Q (.int (f i j)) H
theorem ip_add : PIp X .Add (ipI fun i j => i + j) := by
  intro pins s σ H x y v u Q I r1 r2 h
  obtain ⟨i, j, e1, e2, q⟩ := h
  subst e1; subst e2
  obtain ⟨t, rfl⟩ := r1
  obtain ⟨t', rfl⟩ := r2
  exact iadd_int ⟨.int _, H, I.tok _, ⟨_, rfl⟩, q⟩
theorem ip_sub : PIp X .Sub (ipI fun i j => i - j) := by
  intro pins s σ H x y v u Q I r1 r2 h
  obtain ⟨i, j, e1, e2, q⟩ := h
  subst e1; subst e2
  obtain ⟨t, rfl⟩ := r1
  obtain ⟨t', rfl⟩ := r2
  exact isub_int ⟨.int _, H, I.tok _, ⟨_, rfl⟩, q⟩
end

/-! ### while -/
section
variable {X : Cx} {pos : Pos}
/-- the invariant W with its measure -/
def tWhile (c : TT) (tb : TS) : TS := fun D σ H => ∃ W : Nat → St → Hp → Prop, (∃ m, W m σ H) ∧ ∀ m σ H, W m σ H →
  c σ H fun b H1 => if b = true then ∃ N : St → Hp → Prop, (∀ σ' H', N σ' H' → ∃ m', m' < m ∧ W m' σ' H') ∧ tb { D with nx := N, ct := N, bk := D.nx } σ H1 else D.nx σ H1
theorem ps_while {c : Expr} {body : List Stmt} {tc : TT} {tb : TS} (hp : PassesOwn (model X.prog X.w) X.A X.env X.xe) (hc : PT X c tc) (hb : PSs X body tb) : PS X (.While c body [] pos) (tWhile tc tb) := by
  intro pins s σ H D I h
  obtain ⟨W, ⟨m0, w0⟩, turn⟩ := h
  refine wpAny_While (codeAny_whileLoop (fun n s' => ∃ σ' H', Inv X pins σ' H' s' ∧ W n σ' H') ?_ m0 ⟨σ, H, I, w0⟩)
  rintro n s1 ⟨σ1, H1, I1, w1⟩
  refine wpAny_passesOwn hp (thn (hc pins s1 σ1 H1 _ I1 (turn n σ1 H1 w1)) fun b s2 ⟨H2, I2, q2⟩ => ?_)
  cases b with
  | true =>
    obtain ⟨N, hN, q2⟩ := q2
    rw [if_pos rfl]
    refine wpAny_passesOwn hp (thn (hb pins s2 σ1 H2 _ I2 q2) fun f s3 q3 => ?_)
    cases f with
    | next =>
      obtain ⟨σ3, H3, I3, n3⟩ := q3
      obtain ⟨m', hm, w3⟩ := hN σ3 H3 n3
      exact ⟨m', hm, σ3, H3, I3, w3⟩
    | cont =>
      obtain ⟨σ3, H3, I3, n3⟩ := q3
      obtain ⟨m', hm, w3⟩ := hN σ3 H3 n3
      exact ⟨m', hm, σ3, H3, I3, w3⟩
    | brk => exact q3
    | ret v => exact q3
  | false =>
    rw [if_neg Bool.false_ne_true]
    exact wpAny_execs_nil ⟨σ1, H2, I2, q2⟩
end

/-! ### what a loop or a comprehension walks -/
/-- at turn i: it yields x (the heap may grow), or it stops -/
structure It where
  go : Nat → Hp → Prop
  yld : Nat → Hp → V → Hp → Prop
  stop : Nat → Hp → Prop
/-- the iterator's own objects may turn: they are not the frame's, not pinned, younger than the entry (or a comprehension's own) -/
def FpOk (X : Cx) (pins : List (Addr × Obj)) (H : Hp) (b : Addr) : Prop :=
  H b = none ∧ b ≠ X.env.locals ∧ b ∉ X.fs ∧ (b ∈ X.ex ∨ X.s₀.heap.objs.size ≤ b) ∧ (∀ x c, X.env.cells.lookup x = some c → c ≠ b) ∧ ∀ p ∈ X.pn ++ pins, p.1 ≠ b
theorem Inv.fpOk {X : Cx} {pins : List (Addr × Obj)} {σ : St} {H H' : Hp} {s : Shared} {b : Addr} (I : Inv X pins σ H s) (hb : s.heap.objs.size ≤ b) (hn : H' b = none) : FpOk X pins H' b := by
  refine ⟨hn, Nat.ne_of_gt (Nat.lt_of_lt_of_le I.lt hb), I.nofs hb, .inr (Nat.le_trans I.sz hb), fun x c e z => ?_, fun p hp z => ?_⟩
  · obtain ⟨v, q⟩ := I.cell x c e
    exact absurd (Nat.lt_of_lt_of_le q.lt (by rw [z]; exact hb)) (Nat.lt_irrefl _)
  · exact absurd (Nat.lt_of_lt_of_le (Heap.lt_size (I.pin p hp).1) (by rw [z]; exact hb)) (Nat.lt_irrefl _)
structure Turn (P : Program) (w : World) (K : PySem.W.Frag) (tg : Expr) (J : It) (fp : List Addr) (it : Addr) (tn : Nat → Heap → Prop) : Prop where
  mem : it ∈ fp
  obj : ∀ i h, tn i h → ∀ b ∈ fp, ∃ o, h.get? b = some o ∧ ∀ v, o.data ≠ .cell v
  keep : ∀ i h h', tn i h → (∀ b ∈ fp, ∀ o, h.get? b = some o → h'.get? b = some o) → tn i h'
  item : ∀ (X : Cx), X.prog = P → X.w = w → X.K = K → X.calm = true → ∀ (i : Nat) (pins : List (Addr × Obj)) (s : Shared) (σ : St) (H : Hp) (E : Value → Shared → Prop), Inv X pins σ H s → (∀ b ∈ fp, FpOk X pins H b) → tn i s.heap → J.go i H →
    wpAny (model P w) X.A (pyNext (.ref it)) (fun r s1 => ∃ u, r = some u ∧
      wpAny (model P w) X.A (letOwnedTupleGo tg (.ref it) u) (fun _ s2 => ∃ x H', Inv X pins σ H' s2 ∧ RelV x u ∧ J.yld i H x H' ∧ tn (i + 1) s2.heap ∧ ∀ b ∈ fp, H' b = none) E s1) E s
  done : ∀ (X : Cx), X.prog = P → X.w = w → X.K = K → X.calm = true → ∀ (i : Nat) (pins : List (Addr × Obj)) (s : Shared) (σ : St) (H : Hp) (E : Value → Shared → Prop), Inv X pins σ H s → (∀ b ∈ fp, FpOk X pins H b) → tn i s.heap → J.stop i H →
    wpAny (model P w) X.A (pyNext (.ref it)) (fun r s1 => r = none ∧ Inv X pins σ H s1) E s
  self : ∀ (A : Around) (i : Nat) (s : Shared) (Q : Value → Shared → Prop) (E : Value → Shared → Prop), tn i s.heap → Q (.ref it) s → wpAny (model P w) A (pyIter (.ref it)) Q E s
abbrev TI := St → Hp → (It → Hp → Prop) → Prop
/-- an iterator has come -/
def PIE (X : Cx) (pins : List (Addr × Obj)) (σ : St) (tg : Expr) (R : It → Hp → Prop) (itv : Value) (s2 : Shared) : Prop :=
  ∃ (it : Addr) (fp : List Addr) (tn : Nat → Heap → Prop) (J : It) (H' : Hp), itv = .ref it ∧ Inv X pins σ H' s2 ∧ Turn X.prog X.w X.K tg J fp it tn ∧ tn 0 s2.heap ∧ (∀ b ∈ fp, FpOk X pins H' b) ∧ R J H'
def PI (X : Cx) (tg iter : Expr) (wi : TI) : Prop :=
  ∀ (pins : List (Addr × Obj)) (s : Shared) (σ : St) (H : Hp) (R : It → Hp → Prop), Inv X pins σ H s → wi σ H R →
    wpAny (model X.prog X.w) X.A (eval iter X.env) (fun v s1 => wpAny (model X.prog X.w) X.A (pyIter v) (PIE X pins σ tg R) X.xe s1) X.xe s

/-- the step ahead of the store is nothing for an iterator that keeps no tuple -/
theorem go_of {M : Model} {A : Around} {E : Value → Shared → Prop} {s : Shared} {tg : Expr} {it : Addr} {u : Value} {o : Obj} {n : String} {vs : Array Value} {Q : Unit → Shared → Prop} (ho : s.heap.get? it = some o) (hc : o.cls = .type n) (hd : o.data = .fields vs)
    (hn : ["enumerate", "zip", "dict_itemiterator", "dict_reverseitemiterator", "odict_iterator", "itertools.zip_longest", "itertools.pairwise"].contains n = false) (hQ : Q () s) : wpAny M A (letOwnedTupleGo tg (.ref it) u) Q E s := by
  unfold letOwnedTupleGo
  cases tg <;> first
    | exact wpAny_pure hQ
    | (cases u <;> first
        | exact wpAny_pure hQ
        | (refine wpAny_bind (wpAny_load ho ?_)
           rw [hc, hd]
           show wpAny M A (if (["enumerate", "zip", "dict_itemiterator", "dict_reverseitemiterator", "odict_iterator", "itertools.zip_longest", "itertools.pairwise"].contains n && vs[0]? == some (rawInt _)) = true then _ else _) Q E s
           rw [if_neg (by intro h; rw [hn, Bool.false_and] at h; cases h)]
           exact wpAny_pure hQ))

/-- the list at a, as it stands at each turn (a loop may append to it) -/
def Itl (K : PySem.W.Frag) (a : Addr) : It :=
  ⟨fun i H => ∃ xs x, SqL K H a xs ∧ xs[i]? = some x, fun i H x H' => H' = H ∧ ∀ xs, SqL K H a xs → xs[i]? = some x, fun i H => ∃ xs, SqL K H a xs ∧ xs.length ≤ i⟩
def Itt (K : PySem.W.Frag) (a : Addr) : It :=
  ⟨fun i H => ∃ xs x, SqT K H a xs ∧ xs[i]? = some x, fun i H x H' => H' = H ∧ ∀ xs, SqT K H a xs → xs[i]? = some x, fun i H => ∃ xs, SqT K H a xs ∧ xs.length ≤ i⟩
/-- lo, lo + 1, .. (n of them) -/
def Itr (lo : Int) (n : Nat) : It := ⟨fun i _ => i < n, fun i H x H' => H' = H ∧ x = .int (lo + i), fun i _ => n ≤ i⟩
theorem turn_list {P : Program} {w : World} {K : PySem.W.Frag} {tg : Expr} (a it : Addr) : Turn P w K tg (Itl K a) [it] it (fun i h => h.IsListIter it a i) where
  mem := by simp
  obj := fun i h st b hb => by
    have e : b = it := by simpa using hb
    subst e
    obtain ⟨o, e, c, d⟩ := st
    exact ⟨o, e, fun v z => by rw [d] at z; cases z⟩
  keep := fun i h h' st k => st.at fun o e => k it (by simp) o e
  item := by
    intro X hP hw hK hc i pins s σ H E I hf st hg
    subst hP hw hK
    obtain ⟨xs, x, hq, hx⟩ := hg
    obtain ⟨its, rv, p, hz⟩ := I.list hq
    obtain ⟨u, hu, ru⟩ := rv.get hx
    obtain ⟨f0, f1, f2, f3, f4, f5⟩ := hf it (by simp)
    refine wpAny_pyNext_list_item st p.isList (x := u) (by simpa using hu) fun h' st' sb => ?_
    have I1 : Inv X pins σ H { s with heap := h' } := I.turned (t' := s.toks) (fun b o hb e => (sb.2 b hb).trans e) f0 f1 f3 f4 f5
    obtain ⟨o, e, c, d⟩ := id st'
    exact ⟨u, rfl, go_of (s := { s with heap := h' }) e c d (by decide) ⟨x, H, I1, ru, ⟨rfl, fun ys hy => by rw [I.list_inj hy hq]; exact hx⟩, st', fun b hb => (hf b hb).1⟩⟩
  done := by
    intro X hP hw hK hc i pins s σ H E I hf st hg
    subst hP hw hK
    obtain ⟨xs, hq, hx⟩ := hg
    obtain ⟨its, rv, p, hz⟩ := I.list hq
    obtain ⟨f0, f1, f2, f3, f4, f5⟩ := hf it (by simp)
    have hl := rv.length
    exact wpAny_pyNext_list_end (I.ok.hd hc) st p.isList (by simp; omega) fun h' eb => ⟨rfl, I.turned (t' := s.toks) (fun b o hb e => eb b o hb e) f0 f1 f3 f4 f5⟩
  self := fun _ _ _ _ _ st h => wpAny_pyIter_listiter st h
theorem turn_tuple {P : Program} {w : World} {K : PySem.W.Frag} {tg : Expr} (a it : Addr) : Turn P w K tg (Itt K a) [it] it (fun i h => h.IsTupleIter it a i) where
  mem := by simp
  obj := fun i h st b hb => by
    have e : b = it := by simpa using hb
    subst e
    obtain ⟨o, e, c, d⟩ := st
    exact ⟨o, e, fun v z => by rw [d] at z; cases z⟩
  keep := fun i h h' st k => st.at fun o e => k it (by simp) o e
  item := by
    intro X hP hw hK hc i pins s σ H E I hf st hg
    subst hP hw hK
    obtain ⟨xs, x, hq, hx⟩ := hg
    obtain ⟨its, rv, p, hz⟩ := I.tuple hq
    obtain ⟨u, hu, ru⟩ := rv.get hx
    obtain ⟨f0, f1, f2, f3, f4, f5⟩ := hf it (by simp)
    refine wpAny_pyNext_tuple_item st (show s.heap.IsTuple a its.toArray from p) (x := u) (by simpa using hu) fun h' st' sb => ?_
    have I1 : Inv X pins σ H { s with heap := h' } := I.turned (t' := s.toks) (fun b o hb e => (sb.2 b hb).trans e) f0 f1 f3 f4 f5
    obtain ⟨o, e, c, d⟩ := id st'
    exact ⟨u, rfl, go_of (s := { s with heap := h' }) e c d (by decide) ⟨x, H, I1, ru, ⟨rfl, fun ys hy => by rw [I.tuple_inj hy hq]; exact hx⟩, st', fun b hb => (hf b hb).1⟩⟩
  done := by
    intro X hP hw hK hc i pins s σ H E I hf st hg
    subst hP hw hK
    obtain ⟨xs, hq, hx⟩ := hg
    obtain ⟨its, rv, p, hz⟩ := I.tuple hq
    obtain ⟨f0, f1, f2, f3, f4, f5⟩ := hf it (by simp)
    have hl := rv.length
    exact wpAny_pyNext_tuple_end (I.ok.hd hc) st (show s.heap.IsTuple a its.toArray from p) (by simp; omega) fun h' eb => ⟨rfl, I.turned (t' := s.toks) (fun b o hb e => eb b o hb e) f0 f1 f3 f4 f5⟩
  self := fun _ _ _ _ _ st h => wpAny_pyIter_tupleiter st h
theorem turn_range {P : Program} {w : World} {K : PySem.W.Frag} {tg : Expr} (it : Addr) (lo : Int) (n : Nat) : Turn P w K tg (Itr lo n) [it] it (fun i h => IsRangeIter h it (lo + (i : Nat) * 1) ((n : Int) - (i : Nat)) 1) where
  mem := by simp
  obj := fun i h st b hb => by
    have e : b = it := by simpa using hb
    subst e
    exact ⟨_, st, fun v z => by
      have z' : Data.fields _ = Data.cell v := z
      cases z'⟩
  keep := fun i h h' st k => k it (by simp) _ st
  item := by
    intro X hP hw hK hc i pins s σ H E I hf st hg
    subst hP hw hK
    obtain ⟨f0, f1, f2, f3, f4, f5⟩ := hf it (by simp)
    have W := Walks.range (prog := X.prog) (w := X.w) (I.ok.hd hc) it lo 1 n
    refine W.item i s _ _ hg st fun v h' tk hv st' kk => ?_
    obtain ⟨t, rfl⟩ := hv
    have I1 : Inv X pins σ H { s with heap := h', toks := tk } := I.turned (fun b o hb e => kk b o (by simpa using hb) e) f0 f1 f3 f4 f5
    refine ⟨_, rfl, go_of (s := { s with heap := h', toks := tk }) (n := "range_iterator") st' rfl rfl (by decide) ⟨.int (lo + i), H, I1, ⟨t, ?_⟩, ⟨rfl, rfl⟩, st', fun b hb => (hf b hb).1⟩⟩
    rw [Int.mul_one]
  done := by
    intro X hP hw hK hc i pins s σ H E I hf st hg
    subst hP hw hK
    obtain ⟨f0, f1, f2, f3, f4, f5⟩ := hf it (by simp)
    exact wpAny_pyNext_range_end (I.ok.hd hc) st (by have : n ≤ i := hg; omega) fun h' eb => ⟨rfl, I.turned (t' := s.toks) (fun b o hb e => eb b o hb e) f0 f1 f3 f4 f5⟩
  self := fun _ _ _ _ _ st h => wpAny_pyIter_rangeiter st h
end L2

namespace L2
open PySem PySem.Spec PyProof.Rows
section
variable {X : Cx} {tg : Expr}
def iList (K : PySem.W.Frag) (tl : TE) : TI := fun σ H R => tl σ H fun x H1 => ∃ a, x = .ref a ∧ (∃ xs, SqL K H1 a xs) ∧ R (Itl K a) H1
def iTup (K : PySem.W.Frag) (tl : TE) : TI := fun σ H R => tl σ H fun x H1 => ∃ a, x = .ref a ∧ (∃ xs, SqT K H1 a xs) ∧ R (Itt K a) H1
theorem pi_list {l : Expr} {tl : TE} (hl : PE X l tl) : PI X tg l (iList X.K tl) := by
  intro pins s σ H R I h
  refine thn (hl pins s σ H _ I h) fun v s1 ⟨x, H1, I1, r1, q1⟩ => ?_
  obtain ⟨a, e, ⟨xs, hq⟩, q⟩ := q1
  subst e
  cases r1
  obtain ⟨its, rv, p, hz⟩ := I1.list hq
  refine wpAny_pyIter_list p.isList ?_
  refine ⟨s1.heap.objs.size, [s1.heap.objs.size], _, _, H1, rfl, I1.kept (t' := s1.toks) fun b o e => Heap.get?_push_of_some _ e, turn_list a _, ⟨_, Heap.get?_push_size _ rfl, rfl, rfl⟩, fun b hb => ?_, q⟩
  have e : b = s1.heap.objs.size := by simpa using hb
  subst e
  exact I1.fpOk (Nat.le_refl _) (I1.hok.fresh (Nat.le_refl _))
theorem pi_tup {l : Expr} {tl : TE} (hl : PE X l tl) : PI X tg l (iTup X.K tl) := by
  intro pins s σ H R I h
  refine thn (hl pins s σ H _ I h) fun v s1 ⟨x, H1, I1, r1, q1⟩ => ?_
  obtain ⟨a, e, ⟨xs, hq⟩, q⟩ := q1
  subst e
  cases r1
  obtain ⟨its, rv, p, hz⟩ := I1.tuple hq
  refine wpAny_pyIter_tuple (show s1.heap.IsTuple a its.toArray from p) ?_
  refine ⟨s1.heap.objs.size, [s1.heap.objs.size], _, _, H1, rfl, I1.kept (t' := s1.toks) fun b o e => Heap.get?_push_of_some _ e, turn_tuple a _, ⟨_, Heap.get?_push_size _ rfl, rfl, rfl⟩, fun b hb => ?_, q⟩
  have e : b = s1.heap.objs.size := by simpa using hb
  subst e
  exact I1.fpOk (Nat.le_refl _) (I1.hok.fresh (Nat.le_refl _))
/-- a range object just made, walked -/
theorem range_it {pins : List (Addr × Obj)} {σ : St} {H : Hp} {s : Shared} {R : It → Hp → Prop} {E : Value → Shared → Prop} {lo hi : Int} {t u v : Tok} {tk : Nat} (I : Inv X pins σ H s) (h1 : -(2 ^ 62) ≤ lo) (h2 : lo < 2 ^ 62) (h3 : -(2 ^ 62) ≤ hi) (h4 : hi < 2 ^ 62)
    (q : R (Itr lo (hi - lo).toNat) H) : wpAny (model X.prog X.w) X.A (pyIter (.ref s.heap.objs.size)) (PIE X pins σ tg R) E { s with heap := s.heap.push { cls := .type "range", data := .fields #[.int lo t, .int hi u, .int 1 v] }, toks := tk } := by
  refine wpAny_pyIter_range (IsRange.new ..) (small_one h1 h2 h3 h4) ?_
  have I1 : Inv X pins σ H { s with heap := s.heap.push { cls := .type "range", data := .fields #[.int lo t, .int hi u, .int 1 v] }, toks := tk } := I.kept fun b o e => Heap.get?_push_of_some _ e
  refine ⟨(s.heap.push { cls := .type "range", data := .fields #[.int lo t, .int hi u, .int 1 v] }).objs.size, [(s.heap.push { cls := .type "range", data := .fields #[.int lo t, .int hi u, .int 1 v] }).objs.size], _, _, H, rfl,
    I1.kept (t' := tk) fun b o e => Heap.get?_push_of_some _ e, turn_range _ lo (hi - lo).toNat, ?_, fun b hb => ?_, q⟩
  · have e1 : lo + ((0 : Nat) : Int) * 1 = lo := by simp
    have e2 : (((hi - lo).toNat : Nat) : Int) - ((0 : Nat) : Int) = Builtin.Range.rangeSize lo hi 1 := by rw [rangeSize_one]; split <;> omega
    show IsRangeIter _ _ (lo + ((0 : Nat) : Int) * 1) ((((hi - lo).toNat : Nat) : Int) - ((0 : Nat) : Int)) 1
    rw [e1, e2]
    exact Heap.get?_push_size _ rfl
  · have e : b = (s.heap.push { cls := .type "range", data := .fields #[.int lo t, .int hi u, .int 1 v] }).objs.size := by simpa using hb
    subst e
    exact I1.fpOk (Nat.le_refl _) (I1.hok.fresh (Nat.le_refl _))
def iRng1 (ta : TA) : TI := fun σ H R => ta σ H fun vs H1 => ∃ j : Int, vs = [.int j] ∧ -(2 ^ 62) ≤ j ∧ j < 2 ^ 62 ∧ R (Itr 0 j.toNat) H1
def iRng2 (ta : TA) : TI := fun σ H R => ta σ H fun vs H1 => ∃ i j : Int, vs = [.int i, .int j] ∧ (-(2 ^ 62) ≤ i ∧ i < 2 ^ 62 ∧ -(2 ^ 62) ≤ j ∧ j < 2 ^ 62) ∧ R (Itr i (j - i).toNat) H1
theorem pi_range1 {a : Expr} {ta : TA} {p pos : Pos} (hg : Gl X "range") (hm : X.mg "range" = none) (ha : PA X [a] ta) (hs : starEach [a] X.env = [(false, eval a X.env)] := by rfl) : PI X tg (.Call (.Name "range" p) [a] [] pos) (iRng1 ta) := by
  intro pins s σ H R I h
  refine Call_ (ld_blt I hg hm boot_range (PyProof.Rows.callWith_type1 (thn (ha pos pins s σ H _ I h) fun us s1 ⟨vs, H1, I1, r1, q1⟩ => ?_) hs rfl))
  obtain ⟨j, e, q1, q2, q⟩ := q1
  subst e
  cases r1 with
  | cons r rr =>
    cases rr
    obtain ⟨t, rfl⟩ := r
    exact call_range_1 (range_it I1 (by omega) (by omega) q1 q2 (by simpa using q))
theorem pi_range2 {a b : Expr} {ta : TA} {p pos : Pos} (hg : Gl X "range") (hm : X.mg "range" = none) (ha : PA X [a, b] ta) (hs : starEach [a, b] X.env = [(false, eval a X.env), (false, eval b X.env)] := by rfl) (hs2 : starEach [b] X.env = [(false, eval b X.env)] := by rfl) :
    PI X tg (.Call (.Name "range" p) [a, b] [] pos) (iRng2 ta) := by
  intro pins s σ H R I h
  refine Call_ (ld_blt I hg hm boot_range (PyProof.Rows.callWith_type1 (thn (ha pos pins s σ H _ I h) fun us s1 ⟨vs, H1, I1, r1, q1⟩ => ?_) (by rw [hs, hs2]) (by rw [hs2]; rfl)))
  obtain ⟨i, j, e, ⟨q1, q2, q3, q4⟩, q⟩ := q1
  subst e
  cases r1 with
  | cons r rr =>
    cases rr with
    | cons r' rr =>
      cases rr
      obtain ⟨t, rfl⟩ := r
      obtain ⟨t', rfl⟩ := r'
      exact call_range_2 (range_it I1 q1 q2 q3 q4 q)

/-! ### for -/
/-- W: the invariant by the turn and a measure; N: what the body is to reach -/
def tFor (wi : TI) (g : TG) (tb : TS) : TS := fun D σ H => wi σ H fun J H1 => ∃ W : Nat → Nat → St → Hp → Prop, (∃ m, W 0 m σ H1) ∧ ∀ i m σ H, W i m σ H →
  (J.stop i H ∧ D.nx σ H) ∨ (J.go i H ∧ ∃ N : St → Hp → Prop, (∀ σ' H', N σ' H' → ∃ m', m' < m ∧ W (i + 1) m' σ' H') ∧ ∀ x H', J.yld i H x H' → g x σ H' fun σ2 H2 => tb { D with nx := N, ct := N, bk := D.nx } σ2 H2)
/-- the records at fp as they stand -/
def pinsAt (fp : List Addr) (h : Heap) : List (Addr × Obj) := fp.filterMap fun b => (h.get? b).map fun o => (b, o)
theorem mem_pinsAt {fp : List Addr} {h : Heap} {b : Addr} {o : Obj} (hb : b ∈ fp) (e : h.get? b = some o) : (b, o) ∈ pinsAt fp h := List.mem_filterMap.mpr ⟨b, hb, by rw [e]; rfl⟩
theorem of_pinsAt {fp : List Addr} {h : Heap} {p : Addr × Obj} (hp : p ∈ pinsAt fp h) : p.1 ∈ fp ∧ h.get? p.1 = some p.2 := by
  obtain ⟨b, hb, e⟩ := List.mem_filterMap.mp hp
  cases q : h.get? b with
  | none => rw [q] at e; cases e
  | some o =>
    rw [q] at e
    have e' : (b, o) = p := Option.some.inj e
    subst e'
    exact ⟨hb, q⟩
theorem Inv.pinned {pins : List (Addr × Obj)} {σ : St} {H : Hp} {s : Shared} {fp : List Addr} (I : Inv X pins σ H s) (hf : ∀ b ∈ fp, FpOk X pins H b) (ho : ∀ b ∈ fp, ∃ o, s.heap.get? b = some o ∧ ∀ v, o.data ≠ .cell v) : Inv X (pins ++ pinsAt fp s.heap) σ H s :=
  I.pins_of fun p hp => (List.mem_append.mp hp).elim (fun z => I.pin p (List.mem_append_right _ z)) fun z => by
    obtain ⟨hb, e⟩ := of_pinsAt z
    obtain ⟨f0, f1, f2, _⟩ := hf p.1 hb
    obtain ⟨o, e', d⟩ := ho p.1 hb
    rw [e] at e'; cases e'
    exact ⟨e, f0, f1, f2, d⟩
theorem Inv.unpinned {pins pl : List (Addr × Obj)} {σ : St} {H : Hp} {s : Shared} (I : Inv X (pins ++ pl) σ H s) : Inv X pins σ H s := I.pins_of fun p hp => I.pin p (List.mem_append_right _ (List.mem_append_left _ hp))
theorem ps_for {iter : Expr} {body : List Stmt} {wi : TI} {g : TG} {tb : TS} {pos : Pos} (hp : PassesOwn (model X.prog X.w) X.A X.env X.xe) (hc : X.calm = true) (hi : PI X tg iter wi) (hg : PG X tg g) (hb : PSs X body tb)
    (hs : ∀ x, foldedSetIterable iter X.env x = pure x := by intro _; rfl) : PS X (.For tg iter body [] pos) (tFor wi g tb) := by
  intro pins s σ H D I h
  refine wpAny_For (thn (hi pins s σ H _ I h) fun v s1 h1 => thn h1 fun itv s2 h2 => ?_) hs
  obtain ⟨it, fp, tn, J, H2, e, I2, T, st2, f2, W, ⟨m0, w0⟩, turn⟩ := h2
  subst e
  -- what stays true of the iterator's objects through the loop
  have stat : ∀ {H' : Hp}, (∀ b ∈ fp, H' b = none) → ∀ b ∈ fp, FpOk X pins H' b := fun hn b hb => ⟨hn b hb, (f2 b hb).2⟩
  refine codeAny_forLoop_any (fun n s' => ∃ i σ' H', Inv X pins σ' H' s' ∧ tn i s'.heap ∧ (∀ b ∈ fp, H' b = none) ∧ W i n σ' H') ?_ m0 ⟨0, σ, H2, I2, st2, fun b hb => (f2 b hb).1, w0⟩
  rintro n s3 ⟨i, σ3, H3, I3, st3, fr3, w3⟩
  rcases turn i n σ3 H3 w3 with ⟨stop, qn⟩ | ⟨go, N, hN, step⟩
  · refine wpAny_passesOwn hp (thn (T.done X rfl rfl rfl hc i pins s3 σ3 H3 X.xe I3 (stat fr3) st3 stop) fun r s4 ⟨hr, I4⟩ => ?_)
    subst hr
    exact wpAny_execs_nil ⟨σ3, H3, I4, qn⟩
  · refine wpAny_passesOwn hp (thn (T.item X rfl rfl rfl hc i pins s3 σ3 H3 X.xe I3 (stat fr3) st3 go) fun r s4 ⟨u, hr, h4⟩ => ?_)
    subst hr
    refine wpAny_passesOwn hp (thn h4 fun _ s5 ⟨x, H5, I5, r5, y5, st5, fr5⟩ => ?_)
    have I5' := I5.pinned (stat fr5) (T.obj _ _ st5)
    refine wpAny_passesOwn hp (thn (hg _ s5 σ3 H5 x u _ I5' r5 (step x H5 y5)) fun _ s6 ⟨σ6, H6, I6, q6⟩ => ?_)
    refine wpAny_passesOwn hp (thn (hb _ s6 σ6 H6 _ I6 q6) fun f s7 q7 => ?_)
    have again : ∀ {σ7 : St} {H7 : Hp}, Inv X (pins ++ pinsAt fp s5.heap) σ7 H7 s7 → N σ7 H7 → ∃ m, m < n ∧ ∃ i σ' H', Inv X pins σ' H' s7 ∧ tn i s7.heap ∧ (∀ b ∈ fp, H' b = none) ∧ W i m σ' H' := fun {σ7 H7} I7 n7 => by
      obtain ⟨m', hm, w7⟩ := hN σ7 H7 n7
      refine ⟨m', hm, i + 1, σ7, H7, I7.unpinned, T.keep _ _ _ st5 fun b hb o e => (I7.pin (b, o) (List.mem_append_right _ (List.mem_append_right _ (mem_pinsAt hb e)))).1, fun b hb => ?_, w7⟩
      obtain ⟨o, e, d⟩ := T.obj _ _ st5 b hb
      exact (I7.pin (b, o) (List.mem_append_right _ (List.mem_append_right _ (mem_pinsAt hb e)))).2.1
    cases f with
    | next => obtain ⟨σ7, H7, I7, n7⟩ := q7; exact again I7 n7
    | cont => obtain ⟨σ7, H7, I7, n7⟩ := q7; exact again I7 n7
    | brk => obtain ⟨σ7, H7, I7, q7⟩ := q7; exact ⟨σ7, H7, I7.unpinned, q7⟩
    | ret v => obtain ⟨x7, σ7, H7, I7, r7, q7⟩ := q7; exact ⟨x7, σ7, H7, I7.unpinned, r7, q7⟩
end

/-! ### the forms one uses -/
/-- over a list that the body leaves as it is -/
theorem for_list {K : PySem.W.Frag} {a : Addr} {xs : List V} {g : TG} {tb : TS} {D : Ends} {σ : St} {H : Hp} (Pv : Nat → St → Hp → Prop) (h0 : Pv 0 σ H) (hl : ∀ i σ H, i ≤ xs.length → Pv i σ H → SqL K H a xs)
    (hs : ∀ i x σ H, xs[i]? = some x → Pv i σ H → g x σ H fun σ2 H2 => tb { D with nx := Pv (i + 1), ct := Pv (i + 1), bk := D.nx } σ2 H2) (hd : ∀ σ H, Pv xs.length σ H → D.nx σ H) :
    ∃ W : Nat → Nat → St → Hp → Prop, (∃ m, W 0 m σ H) ∧ ∀ i m σ H, W i m σ H →
      ((Itl K a).stop i H ∧ D.nx σ H) ∨ ((Itl K a).go i H ∧ ∃ N : St → Hp → Prop, (∀ σ' H', N σ' H' → ∃ m', m' < m ∧ W (i + 1) m' σ' H') ∧ ∀ x H', (Itl K a).yld i H x H' → g x σ H' fun σ2 H2 => tb { D with nx := N, ct := N, bk := D.nx } σ2 H2) := by
  refine ⟨fun i m σ H => m = xs.length - i ∧ i ≤ xs.length ∧ Pv i σ H, ⟨xs.length, by simp, Nat.zero_le _, h0⟩, ?_⟩
  rintro i m σ H ⟨rfl, hi, p⟩
  have q := hl i σ H hi p
  by_cases hlt : i < xs.length
  · refine .inr ⟨⟨xs, xs[i], q, by simp [hlt]⟩, Pv (i + 1), fun σ' H' p' => ⟨xs.length - (i + 1), by omega, rfl, hlt, p'⟩, fun x H' y => ?_⟩
    obtain ⟨e, y⟩ := y
    subst e
    exact hs i x σ _ (y xs q) p
  · have e : i = xs.length := by omega
    subst e
    exact .inl ⟨⟨xs, q, Nat.le_refl _⟩, hd σ H p⟩
theorem for_tup {K : PySem.W.Frag} {a : Addr} {xs : List V} {g : TG} {tb : TS} {D : Ends} {σ : St} {H : Hp} (Pv : Nat → St → Hp → Prop) (h0 : Pv 0 σ H) (hl : ∀ i σ H, i ≤ xs.length → Pv i σ H → SqT K H a xs)
    (hs : ∀ i x σ H, xs[i]? = some x → Pv i σ H → g x σ H fun σ2 H2 => tb { D with nx := Pv (i + 1), ct := Pv (i + 1), bk := D.nx } σ2 H2) (hd : ∀ σ H, Pv xs.length σ H → D.nx σ H) :
    ∃ W : Nat → Nat → St → Hp → Prop, (∃ m, W 0 m σ H) ∧ ∀ i m σ H, W i m σ H →
      ((Itt K a).stop i H ∧ D.nx σ H) ∨ ((Itt K a).go i H ∧ ∃ N : St → Hp → Prop, (∀ σ' H', N σ' H' → ∃ m', m' < m ∧ W (i + 1) m' σ' H') ∧ ∀ x H', (Itt K a).yld i H x H' → g x σ H' fun σ2 H2 => tb { D with nx := N, ct := N, bk := D.nx } σ2 H2) := by
  refine ⟨fun i m σ H => m = xs.length - i ∧ i ≤ xs.length ∧ Pv i σ H, ⟨xs.length, by simp, Nat.zero_le _, h0⟩, ?_⟩
  rintro i m σ H ⟨rfl, hi, p⟩
  have q := hl i σ H hi p
  by_cases hlt : i < xs.length
  · refine .inr ⟨⟨xs, xs[i], q, by simp [hlt]⟩, Pv (i + 1), fun σ' H' p' => ⟨xs.length - (i + 1), by omega, rfl, hlt, p'⟩, fun x H' y => ?_⟩
    obtain ⟨e, y⟩ := y
    subst e
    exact hs i x σ _ (y xs q) p
  · have e : i = xs.length := by omega
    subst e
    exact .inl ⟨⟨xs, q, Nat.le_refl _⟩, hd σ H p⟩
theorem for_range {lo : Int} {n : Nat} {g : TG} {tb : TS} {D : Ends} {σ : St} {H : Hp} (Pv : Nat → St → Hp → Prop) (h0 : Pv 0 σ H)
    (hs : ∀ i σ H, i < n → Pv i σ H → g (.int (lo + i)) σ H fun σ2 H2 => tb { D with nx := Pv (i + 1), ct := Pv (i + 1), bk := D.nx } σ2 H2) (hd : ∀ σ H, Pv n σ H → D.nx σ H) :
    ∃ W : Nat → Nat → St → Hp → Prop, (∃ m, W 0 m σ H) ∧ ∀ i m σ H, W i m σ H →
      ((Itr lo n).stop i H ∧ D.nx σ H) ∨ ((Itr lo n).go i H ∧ ∃ N : St → Hp → Prop, (∀ σ' H', N σ' H' → ∃ m', m' < m ∧ W (i + 1) m' σ' H') ∧ ∀ x H', (Itr lo n).yld i H x H' → g x σ H' fun σ2 H2 => tb { D with nx := N, ct := N, bk := D.nx } σ2 H2) := by
  refine ⟨fun i m σ H => m = n - i ∧ i ≤ n ∧ Pv i σ H, ⟨n, by simp, Nat.zero_le _, h0⟩, ?_⟩
  rintro i m σ H ⟨rfl, hi, p⟩
  by_cases hlt : i < n
  · refine .inr ⟨hlt, Pv (i + 1), fun σ' H' p' => ⟨n - (i + 1), by omega, rfl, hlt, p'⟩, fun x H' y => ?_⟩
    obtain ⟨e, y⟩ := y
    subst e y
    exact hs i σ _ hlt p
  · have e : i = n := by omega
    subst e
    exact .inl ⟨Nat.le_refl _, hd σ H p⟩
/-- while, by a word and a measure of the state -/
theorem while_by {c : TT} {tb : TS} {D : Ends} {σ : St} {H : Hp} (Pv : St → Hp → Prop) (μ : St → Hp → Nat) (h0 : Pv σ H)
    (hs : ∀ σ H, Pv σ H → c σ H fun b H1 => if b = true then tb { D with nx := fun σ' H' => Pv σ' H' ∧ μ σ' H' < μ σ H, ct := fun σ' H' => Pv σ' H' ∧ μ σ' H' < μ σ H, bk := D.nx } σ H1 else D.nx σ H1)
    (mono : ∀ σ H Q Q', (∀ b H1, Q b H1 → Q' b H1) → c σ H Q → c σ H Q') : tWhile c tb D σ H := by
  refine ⟨fun m σ H => m = μ σ H ∧ Pv σ H, ⟨_, rfl, h0⟩, ?_⟩
  rintro m σ H ⟨rfl, p⟩
  refine mono σ H _ _ (fun b H1 q => ?_) (hs σ H p)
  cases b with
  | true => exact ⟨_, fun σ' H' ⟨p', l⟩ => ⟨_, l, rfl, p'⟩, q⟩
  | false => exact q
end L2

namespace L2
open PySem PySem.Spec PyProof.Rows

abbrev R2 := V → V → Hp → VK → Prop
/-- a two-place operation on values: f is binaryOp op, inplaceOp op or compareOp op -/
def OpR (X : Cx) (f : Value → Value → Sem Value) (r : R2) : Prop :=
  ∀ (pins : List (Addr × Obj)) (s : Shared) (σ : St) (H : Hp) (x y : V) (v u : Value) (Q : VK), Inv X pins σ H s → RelV x v → RelV y u → r x y H Q →
    wpAny (model X.prog X.w) X.A (f v u) (EP X pins σ Q) X.xe s
/-- a one-place operation -/
def UnR (X : Cx) (f : Value → Sem Value) (r : V → Hp → VK → Prop) : Prop :=
  ∀ (pins : List (Addr × Obj)) (s : Shared) (σ : St) (H : Hp) (x : V) (v : Value) (Q : VK), Inv X pins σ H s → RelV x v → r x H Q →
    wpAny (model X.prog X.w) X.A (f v) (EP X pins σ Q) X.xe s
/-- a call of a value that is known (a builtin, a type) with values -/
def CallR (X : Cx) (f : Value) (r : List V → Hp → VK → Prop) : Prop :=
  ∀ (pins : List (Addr × Obj)) (s : Shared) (σ : St) (H : Hp) (xs : List V) (us : List Value) (Q : VK), Inv X pins σ H s → Vals xs us → r xs H Q →
    wpAny (model X.prog X.w) X.A (call f us) (EP X pins σ Q) X.xe s
/-- a value's truth -/
def TruR (X : Cx) (r : V → Hp → (Bool → Hp → Prop) → Prop) : Prop :=
  ∀ (pins : List (Addr × Obj)) (s : Shared) (σ : St) (H : Hp) (x : V) (v : Value) (Q : Bool → Hp → Prop), Inv X pins σ H s → RelV x v → r x H Q →
    wpAny (model X.prog X.w) X.A (truthy v) (TP X pins σ Q) X.xe s

def tOp (r : R2) (ta tb : TE) : TE := fun σ H Q => ta σ H fun x H1 => tb σ H1 fun y H2 => r x y H2 Q
def tUn (r : V → Hp → VK → Prop) (ta : TE) : TE := fun σ H Q => ta σ H fun x H1 => r x H1 Q
/-- ints in, under C, and a value out -/
def rI (C : Int → Int → Prop) (g : Int → Int → V) : R2 := fun x y H Q => ∃ i j, x = .int i ∧ y = .int j ∧ C i j ∧ Q (g i j) H
def rI0 (g : Int → Int → V) : R2 := fun x y H Q => ∃ i j, x = .int i ∧ y = .int j ∧ Q (g i j) H
def rU (g : Int → V) : V → Hp → VK → Prop := fun x H Q => ∃ i, x = .int i ∧ Q (g i) H

section
variable {X : Cx} {a b c : Expr} {ta tb tc : TE} {pos : Pos}

theorem binT (ha : PE X a ta) (hb : PE X b tb) {pins : List (Addr × Obj)} {s : Shared} {σ : St} {H : Hp} {R : V → V → Hp → Prop} (I : Inv X pins σ H s)
    (h : ta σ H fun x H1 => tb σ H1 fun y H2 => R x y H2) {Q : Value → Shared → Prop} {f : Value → Value → Sem Value}
    (hf : ∀ v u s2 x y H2, Inv X pins σ H2 s2 → RelV x v → RelV y u → R x y H2 → wpAny (model X.prog X.w) X.A (f v u) Q X.xe s2) :
    wpAny (model X.prog X.w) X.A (eval a X.env) (fun v s₁ => wpAny (model X.prog X.w) X.A (eval b X.env) (fun u s₂ => wpAny (model X.prog X.w) X.A (f v u) Q X.xe s₂) X.xe s₁) X.xe s := by
  refine thn (ha pins s σ H _ I h) fun v s1 ⟨x, H1, I1, r1, q1⟩ => ?_
  refine thn (hb pins s1 σ H1 _ I1 q1) fun u s2 ⟨y, H2, I2, r2, q2⟩ => ?_
  exact hf v u s2 x y H2 I2 r1 r2 q2

theorem pe_op {op : Operator} {r : R2} (ho : OpR X (binaryOp op) r) (ha : PE X a ta) (hb : PE X b tb) : PE X (.BinOp a op b pos) (tOp r ta tb) := by
  intro pins s σ H Q I h
  exact wpAny_BinOp (binT ha hb I h fun v u s2 x y H2 I2 rx ry q => ho pins s2 σ H2 x y v u Q I2 rx ry q)
theorem pe_un {op : UnaryOp} {r : V → Hp → VK → Prop} (ho : UnR X (unaryOp op) r) (ha : PE X a ta) : PE X (.UnaryOp op a pos) (tUn r ta) := by
  intro pins s σ H Q I h
  exact UnaryOp_ (thn (ha pins s σ H _ I h) fun v s1 ⟨x, H1, I1, r1, q1⟩ => ho pins s1 σ H1 x v Q I1 r1 q1)
/-- a op= e at a name: the name's slot i -/
theorem augR {op : Operator} {r : R2} (ho : OpR X (inplaceOp op) r) {pins : List (Addr × Obj)} {s : Shared} {σ : St} {H : Hp} {x y : V} {v u : Value} {Q : VK} (I : Inv X pins σ H s)
    (rx : RelV x v) (ry : RelV y u) (q : r x y H Q) : wpAny (model X.prog X.w) X.A (inplaceOp op v u) (EP X pins σ Q) X.xe s := ho pins s σ H x y v u Q I rx ry q

/-! ### ints -/
theorem opI {f : Value → Value → Sem Value} {C : Int → Int → Prop} {g : Int → Int → Int}
    (rule : ∀ (i j : Int) (t u : Tok) (s : Shared) (Q : Value → Shared → Prop) (E : Value → Shared → Prop), C i j → Q (.int (g i j) s.toks) { s with toks := s.toks + 1 } → wpAny (model X.prog X.w) X.A (f (.int i t) (.int j u)) Q E s) :
    OpR X f (rI C fun i j => .int (g i j)) := by
  intro pins s σ H x y v u Q I rx ry h
  obtain ⟨i, j, rfl, rfl, hc, q⟩ := h
  obtain ⟨t, rfl⟩ := rx
  obtain ⟨t', rfl⟩ := ry
  exact rule i j t t' s _ _ hc ⟨.int (g i j), H, I.tok _, ⟨_, rfl⟩, q⟩
theorem opI0 {f : Value → Value → Sem Value} {g : Int → Int → Int}
    (rule : ∀ (i j : Int) (t u : Tok) (s : Shared) (Q : Value → Shared → Prop) (E : Value → Shared → Prop), Q (.int (g i j) s.toks) { s with toks := s.toks + 1 } → wpAny (model X.prog X.w) X.A (f (.int i t) (.int j u)) Q E s) :
    OpR X f (rI0 fun i j => .int (g i j)) := by
  intro pins s σ H x y v u Q I rx ry h
  obtain ⟨i, j, rfl, rfl, q⟩ := h
  obtain ⟨t, rfl⟩ := rx
  obtain ⟨t', rfl⟩ := ry
  exact rule i j t t' s _ _ ⟨.int (g i j), H, I.tok _, ⟨_, rfl⟩, q⟩
theorem opB0 {f : Value → Value → Sem Value} {g : Int → Int → Bool}
    (rule : ∀ (i j : Int) (t u : Tok) (s : Shared) (Q : Value → Shared → Prop) (E : Value → Shared → Prop), Q (.bool (g i j)) s → wpAny (model X.prog X.w) X.A (f (.int i t) (.int j u)) Q E s) :
    OpR X f (rI0 fun i j => .bl (g i j)) := by
  intro pins s σ H x y v u Q I rx ry h
  obtain ⟨i, j, rfl, rfl, q⟩ := h
  obtain ⟨t, rfl⟩ := rx
  obtain ⟨t', rfl⟩ := ry
  exact rule i j t t' s _ _ ⟨.bl (g i j), H, I, rfl, q⟩

def CDiv (i j : Int) : Prop := 0 < j ∧ j < 1073741824
def CDivN (i j : Int) : Prop := j ≠ 0 ∧ j.natAbs < 1073741824
def CPow (i j : Int) : Prop := 0 ≤ j ∧ j ≤ 1000000 ∧ i.natAbs < 2 ^ 64
def CMul (i j : Int) : Prop := (-(2 ^ 64) < i ∧ i < 2 ^ 64) ∨ (-(2 ^ 64) < j ∧ j < 2 ^ 64)
theorem CMul.ok {i j : Int} (h : CMul i j) : IntMulOk i j := by
  rcases h with ⟨h1, h2⟩ | ⟨h1, h2⟩
  · exact .of_left (intBits_le_64 h1 h2)
  · exact .of_right (intBits_le_64 h1 h2)
theorem two_pow_nn (k : Nat) : (0 : Int) ≤ 2 ^ k := by
  rw [two_pow_cast]
  exact Int.natCast_nonneg _

theorem op_add : OpR X (binaryOp .Add) (rI0 fun i j => .int (i + j)) := opI0 fun _ _ _ _ _ _ _ q => add_int q
theorem op_sub : OpR X (binaryOp .Sub) (rI0 fun i j => .int (i - j)) := opI0 fun _ _ _ _ _ _ _ q => sub_int q
theorem op_mul : OpR X (binaryOp .Mult) (rI CMul fun i j => .int (i * j)) := opI fun _ _ _ _ _ _ _ hc q => mul_int q hc.ok
/-- // by a positive divisor -/
theorem op_fdiv : OpR X (binaryOp .FloorDiv) (rI CDiv fun i j => .int (i / j)) := opI fun i j _ _ _ _ _ hc q => by
  have h1 : (0 : Int) < j := hc.1
  have h2 : j < 1073741824 := hc.2
  exact floordiv_int (by omega) (by rw [Int.fdiv_eq_ediv_of_nonneg i (by omega)]; exact q) (.inl (PyProof.noPylong_small (by omega)))
theorem op_fdivN : OpR X (binaryOp .FloorDiv) (rI CDivN fun i j => .int (i.fdiv j)) := opI fun _ _ _ _ _ _ _ hc q => floordiv_int hc.1 q (.inl (PyProof.noPylong_small hc.2))
/-- % by a positive divisor of any size -/
theorem op_mod : OpR X (binaryOp .Mod) (rI (fun _ j => 0 < j) fun i j => .int (i % j)) := opI fun i j _ _ _ _ _ hc q => by
  have h1 : (0 : Int) < j := hc
  exact mod_int' (by omega) (by rw [Int.fmod_eq_emod_of_nonneg i (by omega)]; exact q)
theorem op_modN : OpR X (binaryOp .Mod) (rI (fun _ j => j ≠ 0) fun i j => .int (i.fmod j)) := opI fun _ _ _ _ _ _ _ hc q => mod_int' hc q
theorem op_pow : OpR X (binaryOp .Pow) (rI CPow fun i j => .int (i ^ j.toNat)) := opI fun _ _ _ _ _ _ _ hc q => pow_int_small hc.1 hc.2.1 hc.2.2 q
theorem op_shl : OpR X (binaryOp .LShift) (rI CPow fun i j => .int (i * 2 ^ j.toNat)) := opI fun _ _ _ _ _ _ _ hc q => lshift_int_small hc.1 hc.2.1 hc.2.2 q
theorem op_shr : OpR X (binaryOp .RShift) (rI (fun _ j => 0 ≤ j) fun i j => .int (i / 2 ^ j.toNat)) := opI fun i j _ _ _ _ _ hc q =>
  rshift_int hc (by rw [Int.fdiv_eq_ediv_of_nonneg i (two_pow_nn _)]; exact q)
theorem op_and : OpR X (binaryOp .BitAnd) (rI0 fun i j => .int (Builtin.bitAnd i j)) := opI0 fun _ _ _ _ _ _ _ q => and_int q
theorem op_or : OpR X (binaryOp .BitOr) (rI0 fun i j => .int (Builtin.bitOr i j)) := opI0 fun _ _ _ _ _ _ _ q => or_int q
theorem op_xor : OpR X (binaryOp .BitXor) (rI0 fun i j => .int (Builtin.bitXor i j)) := opI0 fun _ _ _ _ _ _ _ q => xor_int q

theorem iop_add : OpR X (inplaceOp .Add) (rI0 fun i j => .int (i + j)) := opI0 fun _ _ _ _ _ _ _ q => iadd_int q
theorem iop_sub : OpR X (inplaceOp .Sub) (rI0 fun i j => .int (i - j)) := opI0 fun _ _ _ _ _ _ _ q => isub_int q
theorem iop_mul : OpR X (inplaceOp .Mult) (rI CMul fun i j => .int (i * j)) := opI fun _ _ _ _ _ _ _ hc q => imul_int q hc.ok
theorem iop_fdiv : OpR X (inplaceOp .FloorDiv) (rI CDiv fun i j => .int (i / j)) := opI fun i j _ _ _ _ _ hc q => by
  have h1 : (0 : Int) < j := hc.1
  have h2 : j < 1073741824 := hc.2
  exact ifloordiv_int (by omega) (by rw [Int.fdiv_eq_ediv_of_nonneg i (by omega)]; exact q) (.inl (PyProof.noPylong_small (by omega)))
theorem iop_mod : OpR X (inplaceOp .Mod) (rI (fun _ j => 0 < j) fun i j => .int (i % j)) := opI fun i j _ _ _ _ _ hc q => by
  have h1 : (0 : Int) < j := hc
  exact imod_int (by omega) (by rw [Int.fmod_eq_emod_of_nonneg i (by omega)]; exact q)
theorem iop_shl : OpR X (inplaceOp .LShift) (rI CPow fun i j => .int (i * 2 ^ j.toNat)) := opI fun _ _ _ _ _ _ _ hc q => ilshift_int_small hc.1 hc.2.1 hc.2.2 q
theorem iop_shr : OpR X (inplaceOp .RShift) (rI (fun _ j => 0 ≤ j) fun i j => .int (i / 2 ^ j.toNat)) := opI fun i j _ _ _ _ _ hc q =>
  irshift_int hc (by rw [Int.fdiv_eq_ediv_of_nonneg i (two_pow_nn _)]; exact q)
theorem iop_and : OpR X (inplaceOp .BitAnd) (rI0 fun i j => .int (Builtin.bitAnd i j)) := opI0 fun _ _ _ _ _ _ _ q => iand_int q
theorem iop_or : OpR X (inplaceOp .BitOr) (rI0 fun i j => .int (Builtin.bitOr i j)) := opI0 fun _ _ _ _ _ _ _ q => ior_int q
theorem iop_xor : OpR X (inplaceOp .BitXor) (rI0 fun i j => .int (Builtin.bitXor i j)) := opI0 fun _ _ _ _ _ _ _ q => ixor_int q

theorem unI {f : Value → Sem Value} {g : Int → Int}
    (rule : ∀ (i : Int) (t : Tok) (s : Shared) (Q : Value → Shared → Prop) (E : Value → Shared → Prop), Q (.int (g i) s.toks) { s with toks := s.toks + 1 } → wpAny (model X.prog X.w) X.A (f (.int i t)) Q E s) :
    UnR X f (rU fun i => .int (g i)) := by
  intro pins s σ H x v Q I rx h
  obtain ⟨i, rfl, q⟩ := h
  obtain ⟨t, rfl⟩ := rx
  exact rule i t s _ _ ⟨.int (g i), H, I.tok _, ⟨_, rfl⟩, q⟩
theorem un_neg : UnR X (unaryOp .USub) (rU fun i => .int (-i)) := unI fun _ _ _ _ _ q => neg_int q
theorem un_inv : UnR X (unaryOp .Invert) (rU fun i => .int (Builtin.bitNot i)) := unI fun _ _ _ _ _ q => invert_int q

/-! ### bools among ints: n += (a < b) -/
theorem op_add_ib : OpR X (binaryOp .Add) (fun x y H Q => ∃ i k, x = .int i ∧ y = .bl k ∧ Q (.int (i + b2i k)) H) := by
  intro pins s σ H x y v u Q I rx ry h
  obtain ⟨i, k, rfl, rfl, q⟩ := h
  obtain ⟨t, rfl⟩ := rx
  cases ry
  exact add_int_bool ⟨.int (i + b2i k), H, I.tok _, ⟨_, rfl⟩, q⟩
end

/-! ### comparisons -/
/-- the scalars that == tells apart as data does -/
def scal : V → V → Bool
  | .non, .non => true | .non, .int _ => true | .int _, .non => true | .non, .bl _ => true | .bl _, .non => true | .non, .str _ => true | .str _, .non => true
  | .int _, .int _ => true | .bl _, .bl _ => true | .str _, .str _ => true | .byt _, .byt _ => true
  | .int _, .str _ => true | .str _, .int _ => true | .bl _, .str _ => true | .str _, .bl _ => true
  | _, _ => false
def rEq : R2 := fun x y H Q => scal x y = true ∧ Q (.bl (decide (x = y))) H
def rNe : R2 := fun x y H Q => scal x y = true ∧ Q (.bl (!decide (x = y))) H

theorem dec_int {i j : Int} : decide (V.int i = V.int j) = (i == j) := by
  rw [Bool.eq_iff_iff]
  simp
theorem dec_bl {i j : Bool} : decide (V.bl i = V.bl j) = (i == j) := by
  rw [Bool.eq_iff_iff]
  simp
theorem dec_str {i j : Str} : decide (V.str i = V.str j) = (i == j) := by
  rw [Bool.eq_iff_iff]
  simp
theorem dec_byt {i j : Array UInt8} : decide (V.byt i = V.byt j) = (i.toList == j.toList) := by
  rw [Bool.eq_iff_iff]
  cases i
  cases j
  simp

section
variable {X : Cx} {a b c : Expr} {ta tb tc : TE} {pos : Pos}
theorem fin_bl {pins : List (Addr × Obj)} {σ : St} {H : Hp} {s : Shared} {Q : VK} {k k' : Bool} (I : Inv X pins σ H s) (q : Q (.bl k) H) (e : k = k') : EP X pins σ Q (.bool k') s := by
  subst e
  exact ⟨.bl k, H, I, rfl, q⟩
theorem op_eq : OpR X (compareOp .Eq) rEq := by
  intro pins s σ H x y v u Q I rx ry h
  obtain ⟨hs, q⟩ := h
  cases x with
  | non =>
    cases rx
    cases y with
    | non => cases ry; exact PySem.EqNone.eq_none_none (fin_bl I q (by simp))
    | bl j => cases ry; exact PySem.EqNone.eq_none_bool (fin_bl I q (by simp))
    | int j => obtain ⟨t', rfl⟩ := ry; exact PySem.EqNone.eq_none_int (fin_bl I q (by simp))
    | str j => obtain ⟨t', rfl⟩ := ry; exact PySem.EqNone.eq_none_str (fin_bl I q (by simp))
    | _ => exact absurd (show false = true from hs) Bool.false_ne_true
  | bl i =>
    cases rx
    cases y with
    | non => cases ry; exact PySem.EqNone.eq_bool_none (fin_bl I q (by simp))
    | bl j => cases ry; exact eq_bool (fin_bl I q dec_bl)
    | str j => obtain ⟨t', rfl⟩ := ry; exact PySem.EqMixed.eq_bool_str (fin_bl I q (by simp))
    | _ => exact absurd (show false = true from hs) Bool.false_ne_true
  | int i =>
    obtain ⟨t, rfl⟩ := rx
    cases y with
    | non => cases ry; exact PySem.EqNone.eq_int_none (fin_bl I q (by simp))
    | int j => obtain ⟨t', rfl⟩ := ry; exact eq_int (fin_bl I q dec_int)
    | str j => obtain ⟨t', rfl⟩ := ry; exact PySem.EqMixed.eq_int_str (fin_bl I q (by simp))
    | _ => exact absurd (show false = true from hs) Bool.false_ne_true
  | str i =>
    obtain ⟨t, rfl⟩ := rx
    cases y with
    | non => cases ry; exact PySem.EqNone.eq_str_none (fin_bl I q (by simp))
    | bl j => cases ry; exact PySem.EqMixed.eq_str_bool (fin_bl I q (by simp))
    | int j => obtain ⟨t', rfl⟩ := ry; exact PySem.EqMixed.eq_str_int (fin_bl I q (by simp))
    | str j => obtain ⟨t', rfl⟩ := ry; exact eq_str (fin_bl I q dec_str)
    | _ => exact absurd (show false = true from hs) Bool.false_ne_true
  | byt i =>
    obtain ⟨t, rfl⟩ := rx
    cases y with
    | byt j => obtain ⟨t', rfl⟩ := ry; exact PySem.W.eq_bytes (fin_bl I q dec_byt)
    | _ => exact absurd (show false = true from hs) Bool.false_ne_true
  | _ => cases y <;> exact absurd (show false = true from hs) Bool.false_ne_true
theorem op_ne : OpR X (compareOp .NotEq) rNe := by
  intro pins s σ H x y v u Q I rx ry h
  obtain ⟨hs, q⟩ := h
  cases x with
  | non =>
    cases rx
    cases y with
    | non => cases ry; exact PySem.EqNone.ne_none_none (fin_bl I q (by simp))
    | bl j => cases ry; exact PySem.EqNone.ne_none_bool (fin_bl I q (by simp))
    | int j => obtain ⟨t', rfl⟩ := ry; exact PySem.EqNone.ne_none_int (fin_bl I q (by simp))
    | str j => obtain ⟨t', rfl⟩ := ry; exact PySem.EqNone.ne_none_str (fin_bl I q (by simp))
    | _ => exact absurd (show false = true from hs) Bool.false_ne_true
  | bl i =>
    cases rx
    cases y with
    | non => cases ry; exact PySem.EqNone.ne_bool_none (fin_bl I q (by simp))
    | bl j => cases ry; exact ne_bool (fin_bl I q (congrArg not dec_bl))
    | str j => obtain ⟨t', rfl⟩ := ry; exact PySem.EqMixed.ne_bool_str (fin_bl I q (by simp))
    | _ => exact absurd (show false = true from hs) Bool.false_ne_true
  | int i =>
    obtain ⟨t, rfl⟩ := rx
    cases y with
    | non => cases ry; exact PySem.EqNone.ne_int_none (fin_bl I q (by simp))
    | int j => obtain ⟨t', rfl⟩ := ry; exact ne_int (fin_bl I q (congrArg not dec_int))
    | str j => obtain ⟨t', rfl⟩ := ry; exact PySem.EqMixed.ne_int_str (fin_bl I q (by simp))
    | _ => exact absurd (show false = true from hs) Bool.false_ne_true
  | str i =>
    obtain ⟨t, rfl⟩ := rx
    cases y with
    | non => cases ry; exact PySem.EqNone.ne_str_none (fin_bl I q (by simp))
    | bl j => cases ry; exact PySem.EqMixed.ne_str_bool (fin_bl I q (by simp))
    | int j => obtain ⟨t', rfl⟩ := ry; exact PySem.EqMixed.ne_str_int (fin_bl I q (by simp))
    | str j => obtain ⟨t', rfl⟩ := ry; exact ne_str (fin_bl I q (congrArg not dec_str))
    | _ => exact absurd (show false = true from hs) Bool.false_ne_true
  | byt i =>
    obtain ⟨t, rfl⟩ := rx
    cases y with
    | byt j => obtain ⟨t', rfl⟩ := ry; exact PySem.W.ne_bytes (fin_bl I q (congrArg not dec_byt))
    | _ => exact absurd (show false = true from hs) Bool.false_ne_true
  | _ => cases y <;> exact absurd (show false = true from hs) Bool.false_ne_true

theorem op_lt : OpR X (compareOp .Lt) (rI0 fun i j => .bl (decide (i < j))) := opB0 fun _ _ _ _ _ _ _ q => lt_int q
theorem op_le : OpR X (compareOp .LtE) (rI0 fun i j => .bl (decide (i ≤ j))) := opB0 fun _ _ _ _ _ _ _ q => le_int q
theorem op_gt : OpR X (compareOp .Gt) (rI0 fun i j => .bl (decide (j < i))) := opB0 fun _ _ _ _ _ _ _ q => gt_int q
theorem op_ge : OpR X (compareOp .GtE) (rI0 fun i j => .bl (decide (j ≤ i))) := opB0 fun _ _ _ _ _ _ _ q => ge_int q
theorem op_lt_str : OpR X (compareOp .Lt) (fun x y H Q => ∃ i j, x = .str i ∧ y = .str j ∧ Q (.bl (decide (i.cps.toList < j.cps.toList))) H) := by
  intro pins s σ H x y v u Q I rx ry h
  obtain ⟨i, j, rfl, rfl, q⟩ := h
  obtain ⟨t, rfl⟩ := rx
  obtain ⟨t', rfl⟩ := ry
  exact lt_str (fin_bl I q rfl)
/-- the one string within the other -/
theorem op_in_str : OpR X (compareOp .In) (fun x y H Q => ∃ i j, x = .str i ∧ y = .str j ∧ Q (.bl (!(Builtin.Str.occurrences j i 0 j.length 1).isEmpty)) H) := by
  intro pins s σ H x y v u Q I rx ry h
  obtain ⟨i, j, rfl, rfl, q⟩ := h
  obtain ⟨t, rfl⟩ := rx
  obtain ⟨t', rfl⟩ := ry
  exact in_str (fin_bl I q rfl)

/-- is None, is not None: the right side a value none -/
theorem op_isN : OpR X (compareOp .Is) (fun x y H Q => y = .non ∧ Q (.bl (decide (x = .non))) H) := by
  intro pins s σ H x y v u Q I rx ry h
  obtain ⟨rfl, q⟩ := h
  cases ry
  refine is_none_gen (fin_bl I q ?_)
  cases x <;> first
    | (cases rx; rfl)
    | (obtain ⟨t, rfl⟩ := rx; rfl)
theorem op_notN : OpR X (compareOp .IsNot) (fun x y H Q => y = .non ∧ Q (.bl (!decide (x = .non))) H) := by
  intro pins s σ H x y v u Q I rx ry h
  obtain ⟨rfl, q⟩ := h
  cases ry
  refine isnot_none_gen (fin_bl I q ?_)
  cases x <;> first
    | (cases rx; rfl)
    | (obtain ⟨t, rfl⟩ := rx; rfl)

theorem op_notin_str : OpR X (compareOp .NotIn) (fun x y H Q => ∃ i j, x = .str i ∧ y = .str j ∧ Q (.bl (!(!(Builtin.Str.occurrences j i 0 j.length 1).isEmpty))) H) := by
  intro pins s σ H x y v u Q I rx ry h
  obtain ⟨i, j, rfl, rfl, q⟩ := h
  obtain ⟨t, rfl⟩ := rx
  obtain ⟨t', rfl⟩ := ry
  exact notIn_str (fin_bl I q rfl)
/-- is, is not of two objects that are tracked lists or instances -/
def isObj : HO → Bool
  | .lst _ => true
  | .ins _ _ _ => true
  | _ => false
theorem obj_there {pins : List (Addr × Obj)} {s : Shared} {σ : St} {H : Hp} {a : Addr} {o : HO} (I : Inv X pins σ H s) (h : H a = some o) (p : isObj o = true) : ∃ ob, s.heap.get? a = some ob ∧ ob.cls ≠ .type "tuple" := by
  cases o with
  | lst xs =>
    obtain ⟨_, its, n, _, e⟩ : xs.length ≤ sizeLine ∧ ∃ (its : List Value) (n : Nat), Vals xs its ∧ s.heap.get? a = some { cls := .type "list", data := .seq its.toArray n } := I.hok a _ h
    exact ⟨_, e, (by show Value.type "list" ≠ .type "tuple"; decide +kernel)⟩
  | ins C dx fs =>
    have x := I.hok a _ h
    obtain ⟨_, _, _, e, _⟩ := x
    exact ⟨_, e, (by show Value.ref C ≠ .type "tuple"; exact fun z => by cases z)⟩
  | _ => exact absurd (show false = true from p) Bool.false_ne_true
theorem op_is_ref : OpR X (compareOp .Is) (fun x y H Q => ∃ a b oa ob, x = .ref a ∧ y = .ref b ∧ H a = some oa ∧ isObj oa = true ∧ H b = some ob ∧ isObj ob = true ∧ Q (.bl (decide (a = b))) H) := by
  intro pins s σ H x y v u Q I rx ry h
  obtain ⟨a, b, oa, ob, rfl, rfl, ha, pa, hb, pb, q⟩ := h
  cases rx
  cases ry
  obtain ⟨o1, e1, n1⟩ := obj_there I ha pa
  obtain ⟨o2, e2, _⟩ := obj_there I hb pb
  by_cases z : a = b
  · subst z
    exact wpAny_is_ref_self (fin_bl I q (by simp))
  · exact wpAny_is_ref_other z e1 e2 n1 (fin_bl I q (by simp [z]))
theorem op_isnot_ref : OpR X (compareOp .IsNot) (fun x y H Q => ∃ a b oa ob, x = .ref a ∧ y = .ref b ∧ H a = some oa ∧ isObj oa = true ∧ H b = some ob ∧ isObj ob = true ∧ Q (.bl (!decide (a = b))) H) := by
  intro pins s σ H x y v u Q I rx ry h
  obtain ⟨a, b, oa, ob, rfl, rfl, ha, pa, hb, pb, q⟩ := h
  cases rx
  cases ry
  obtain ⟨o1, e1, n1⟩ := obj_there I ha pa
  obtain ⟨o2, e2, _⟩ := obj_there I hb pb
  by_cases z : a = b
  · subst z
    exact wpAny_isNot_ref_self (fin_bl I q (by simp))
  · exact wpAny_isNot_ref_other z e1 e2 n1 (fin_bl I q (by simp [z]))

/-- two rules for one operation: by cases -/
theorem OpR.or {f : Value → Value → Sem Value} {r r' : R2} (h : OpR X f r) (h' : OpR X f r') : OpR X f (fun x y H Q => r x y H Q ∨ r' x y H Q) := by
  intro pins s σ H x y v u Q I rx ry q
  rcases q with q | q
  · exact h pins s σ H x y v u Q I rx ry q
  · exact h' pins s σ H x y v u Q I rx ry q

theorem nomark (b : Expr) {op : CmpOp} (h : op ≠ .In := by decide) (h2 : op ≠ .NotIn := by decide) : behindInMarks op b = false := by
  have e1 : (op == CmpOp.In) = false := by cases op <;> first | rfl | exact absurd rfl h
  have e2 : (op == CmpOp.NotIn) = false := by cases op <;> first | rfl | exact absurd rfl h2
  cases b <;> simp [behindInMarks, e1, e2]
/-- a comparison as a value; hm: nomark b, or (for in, not in) by with_unfolding_all rfl -/
theorem pe_cmpR {op : CmpOp} {r : R2} (ho : OpR X (compareOp op) r) (ha : PE X a ta) (hb : PE X b tb) (hm : behindInMarks op b = false) : PE X (.Compare a [op] [b] pos) (tOp r ta tb) := by
  intro pins s σ H Q I h
  exact wpAny_Compare1 (binT ha hb I h fun v u s2 x y H2 I2 rx ry q => ho pins s2 σ H2 x y v u Q I2 rx ry q) hm
/-- a reading of a value as a test -/
def tTest (t : TE) : TT := fun σ H Q => t σ H fun x H' => ∃ k, x = .bl k ∧ Q k H'
theorem pt_cmpR {op : CmpOp} {r : R2} (ho : OpR X (compareOp op) r) (ha : PE X a ta) (hb : PE X b tb) (hm : behindInMarks op b = false) : PT X (.Compare a [op] [b] pos) (tTest (tOp r ta tb)) := by
  intro pins s σ H Q I h
  refine wpAny_isTrue_Compare1 (thn (ha pins s σ H _ I h) fun v s1 ⟨x, H1, I1, r1, q1⟩ => thn (hb pins s1 σ H1 _ I1 q1) fun u s2 ⟨y, H2, I2, r2, q2⟩ =>
    thn (ho pins s2 σ H2 x y v u _ I2 r1 r2 q2) fun c s3 ⟨z, H3, I3, r3, k, e, q3⟩ => ?_) hm
  subst e
  cases r3
  exact wpAny_truthy_bool ⟨H3, I3, q3⟩
/-- a op1 b op2 c -/
def tChain (r r' : R2) (ta tb tc : TE) : TE := fun σ H Q => ta σ H fun x H1 => tb σ H1 fun y H2 => r x y H2 fun z H3 => ∃ k, z = .bl k ∧
  (if k = true then tc σ H3 fun w' H4 => r' y w' H4 Q else Q (.bl false) H3)
theorem pe_chain {op op' : CmpOp} {r r' : R2} (ho : OpR X (compareOp op) r) (ho' : OpR X (compareOp op') r') (ha : PE X a ta) (hb : PE X b tb) (hc : PE X c tc)
    (hm : lastMarks [op, op'] [b, c] = false := by with_unfolding_all rfl) : PE X (.Compare a [op, op'] [b, c] pos) (tChain r r' ta tb tc) := by
  intro pins s σ H Q I h
  refine Compare_chain (thn (ha pins s σ H _ I h) fun v s1 ⟨x, H1, I1, r1, q1⟩ => chain_link (thn (hb pins s1 σ H1 _ I1 q1) fun u s2 ⟨y, H2, I2, r2, q2⟩ =>
    thn (ho pins s2 σ H2 x y v u _ I2 r1 r2 q2) fun d s3 ⟨z, H3, I3, r3, k, e, q3⟩ => ?_)) hm
  subst e
  cases r3
  refine wpAny_truthy_bool ?_
  cases k with
  | false => exact ite_ff ⟨.bl false, H3, I3, rfl, q3⟩
  | true => exact ite_tt (chain_last (thn (hc pins s3 σ H3 _ I3 q3) fun w' s4 ⟨z', H4, I4, r4, q4⟩ => ho' pins s4 σ H4 y z' u w' Q I4 r2 r4 q4))
theorem pt_chain {op op' : CmpOp} {r r' : R2} (ho : OpR X (compareOp op) r) (ho' : OpR X (compareOp op') r') (ha : PE X a ta) (hb : PE X b tb) (hc : PE X c tc)
    (hm : lastMarks [op, op'] [b, c] = false := by with_unfolding_all rfl) : PT X (.Compare a [op, op'] [b, c] pos) (tTest (tChain r r' ta tb tc)) := by
  intro pins s σ H Q I h
  refine isTrue_chain (thn (ha pins s σ H _ I h) fun v s1 ⟨x, H1, I1, r1, q1⟩ => test_link (thn (hb pins s1 σ H1 _ I1 q1) fun u s2 ⟨y, H2, I2, r2, q2⟩ =>
    thn (ho pins s2 σ H2 x y v u _ I2 r1 r2 q2) fun d s3 ⟨z, H3, I3, r3, k, e, q3⟩ => ?_)) hm
  subst e
  cases r3
  refine wpAny_truthy_bool ?_
  cases k with
  | false =>
    obtain ⟨k', e', q'⟩ := q3
    cases e'
    exact ite_ff ⟨H3, I3, q'⟩
  | true =>
    refine ite_tt (test_last (thn (hc pins s3 σ H3 _ I3 q3) fun w' s4 ⟨z', H4, I4, r4, q4⟩ => thn (ho' pins s4 σ H4 y z' u w' _ I4 r2 r4 q4) fun d' s5 ⟨z2, H5, I5, r5, k2, e2, q5⟩ => ?_))
    subst e2
    cases r5
    exact wpAny_truthy_bool ⟨H5, I5, q5⟩

/-! ### truth -/
/-- a value's truth by the abstract heap -/
def TruV (K : PySem.W.Frag) (x : V) (H : Hp) (k : Bool) : Prop :=
  match x with
  | .non => k = false
  | .bl b => k = b
  | .int i => k = (i != 0)
  | .str y => y.length ≤ sizeLine ∧ k = ((y.length : Int) != 0)
  | .byt y => y.size ≤ sizeLine ∧ k = ((y.size : Int) != 0)
  | .ref p => (∃ xs, SqL K H p xs ∧ k = !xs.isEmpty) ∨ (∃ xs, SqT K H p xs ∧ k = !xs.isEmpty) ∨ ∃ kvs, H p = some (.dK kvs) ∧ k = !kvs.isEmpty
  | _ => False
theorem isEmpty_kv {κ : Type} {kvs : List (κ × V)} {vs : List (κ × Value)} (r : KV kvs vs) : (!vs.isEmpty) = !kvs.isEmpty := by
  cases r <;> rfl
theorem isEmpty_of {xs : List V} {its : List Value} (r : Vals xs its) : (!its.toArray.isEmpty) = !xs.isEmpty := by
  cases r <;> simp
theorem line63 : (sizeLine : Nat) < 2 ^ 63 := by rw [sizeLine_eq]; decide
theorem tru_ok : TruR X (fun x H Q => ∃ k, TruV X.K x H k ∧ Q k H) := by
  intro pins s σ H x v Q I rx h
  obtain ⟨k, e, q⟩ := h
  have hl := line63
  have hs : sizeLine = 16777216 := sizeLine_eq
  cases x with
  | non =>
    cases rx
    have e' : k = false := e
    subst e'
    exact truthy_none ⟨H, I, q⟩
  | bl b =>
    cases rx
    have e' : k = b := e
    subst e'
    exact wpAny_truthy_bool ⟨H, I, q⟩
  | int i =>
    obtain ⟨t, rfl⟩ := rx
    have e' : k = (i != 0) := e
    subst e'
    exact PySem.P.truthy_int ⟨H, I, q⟩
  | str y =>
    obtain ⟨t, rfl⟩ := rx
    obtain ⟨hy, e'⟩ : y.length ≤ sizeLine ∧ k = ((y.length : Int) != 0) := e
    subst e'
    exact PySem.P.truthy_str (by omega) ⟨H, I.tok _, q⟩
  | byt y =>
    obtain ⟨t, rfl⟩ := rx
    obtain ⟨hy, e'⟩ : y.size ≤ sizeLine ∧ k = ((y.size : Int) != 0) := e
    subst e'
    exact PySem.W.truthy_bytes (by omega) ⟨H, I.tok _, q⟩
  | ref p =>
    cases rx
    have e' : (∃ xs, SqL X.K H p xs ∧ k = !xs.isEmpty) ∨ (∃ xs, SqT X.K H p xs ∧ k = !xs.isEmpty) ∨ ∃ kvs, H p = some (.dK kvs) ∧ k = !kvs.isEmpty := e
    rcases e' with ⟨xs, hx, e'⟩ | ⟨xs, hx, e'⟩ | ⟨kvs, hx, e'⟩
    · subst e'
      obtain ⟨its, r, pl, hz⟩ := I.list hx
      have hlen := r.length
      exact wpAny_truthy_list pl.isList (by simp only [List.size_toArray]; omega) ⟨H, I.tok _, by rw [isEmpty_of r]; exact q⟩
    · subst e'
      obtain ⟨its, r, pl, hz⟩ := I.tuple hx
      have hlen := r.length
      exact truthy_tuple pl (by simp only [List.size_toArray]; omega) ⟨H, I.tok _, by rw [isEmpty_of r]; exact q⟩
    · subst e'
      obtain ⟨hz, hS, vs, r, m⟩ : kvs.length ≤ sizeLine ∧ (p == sysModules) = false ∧ ∃ vs, KV kvs vs ∧ s.heap.DictOf (mixKind X.prog X.w) p vs := I.hok p _ hx
      have hlen : kvs.length = vs.length := Paired.length r
      exact wpAny_truthy_dict hS m (by omega) ⟨H, I.tok _, by rw [isEmpty_kv r]; exact q⟩
  | _ => exact (show False from e).elim
/-- any expression whose test is its value's truth (a name, a call, a subscript, a field ..: he by fun _ => rfl) -/
theorem pt_truth (ha : PE X a ta) (he : ∀ whole, isTrue a X.env whole = (do let v ← whole; standAt a.pos; holding [v] (truthy v))) :
    PT X a (fun σ H Q => ta σ H fun x H' => ∃ k, TruV X.K x H' k ∧ Q k H') := by
  intro pins s σ H Q I h
  exact isTrue_plain (thn (ha pins s σ H _ I h) fun v s1 ⟨x, H1, I1, r1, q1⟩ => tru_ok pins s1 σ H1 x v Q I1 r1 q1) (he _)

/-! ### strs and bytes -/
theorem pe_byt {x : List UInt8} {k : Nat} : PE X (.Constant (.bytes x) k pos) (fun _ H Q => Q (.byt x.toArray) H) := fun _ _ _ H _ I h => PySem.W.Constant_bytes ⟨.byt x.toArray, H, I.tok _, ⟨_, rfl⟩, h⟩
theorem op_add_str : OpR X (binaryOp .Add) (fun x y H Q => ∃ i j, x = .str i ∧ y = .str j ∧ i.length + j.length ≤ sizeLine ∧ Q (.str (i ++ j)) H) := by
  intro pins s σ H x y v u Q I rx ry h
  obtain ⟨i, j, rfl, rfl, hz, q⟩ := h
  obtain ⟨t, rfl⟩ := rx
  obtain ⟨t', rfl⟩ := ry
  exact add_str (fun t' tk => ⟨.str (i ++ j), H, I.tok _, ⟨_, rfl⟩, q⟩) hz
theorem iop_add_str : OpR X (inplaceOp .Add) (fun x y H Q => ∃ i j, x = .str i ∧ y = .str j ∧ i.length + j.length ≤ sizeLine ∧ Q (.str (i ++ j)) H) := by
  intro pins s σ H x y v u Q I rx ry h
  obtain ⟨i, j, rfl, rfl, hz, q⟩ := h
  obtain ⟨t, rfl⟩ := rx
  obtain ⟨t', rfl⟩ := ry
  exact iadd_str (fun t' tk => ⟨.str (i ++ j), H, I.tok _, ⟨_, rfl⟩, q⟩) hz
theorem op_add_byt : OpR X (binaryOp .Add) (fun x y H Q => ∃ i j, x = .byt i ∧ y = .byt j ∧ i.size + j.size ≤ 16777216 ∧ Q (.byt (i ++ j)) H) := by
  intro pins s σ H x y v u Q I rx ry h
  obtain ⟨i, j, rfl, rfl, hz, q⟩ := h
  obtain ⟨t, rfl⟩ := rx
  obtain ⟨t', rfl⟩ := ry
  exact PySem.W.KBy.add_bytes hz (fun t' tk => ⟨.byt (i ++ j), H, I.tok _, ⟨_, rfl⟩, q⟩)

def PlainIxT (b : Expr) : Prop := ∀ o i, subscripted b false o i = operate [o, i] (getItem o i)
/-- s[i], 0 ≤ i < len -/
theorem pe_item_str (ha : PE X a ta) (hb : PE X b tb) (hs : PlainIxT b) :
    PE X (.Subscript a b pos) (tOp (fun x y H Q => ∃ z i c, x = .str z ∧ y = .int i ∧ 0 ≤ i ∧ i < 2 ^ 63 ∧ i < z.length ∧ z.cps[i.toNat]? = some c ∧ Q (.str ⟨#[c]⟩) H) ta tb) := by
  intro pins s σ H Q I h
  refine Subscript_ (binT ha hb I h fun v u s2 x y H2 I2 rx ry q => ?_)
  obtain ⟨z, i, c, rfl, rfl, h0, h63, h1, hc, q⟩ := q
  obtain ⟨t, rfl⟩ := rx
  obtain ⟨t', rfl⟩ := ry
  have e : seqIndex? i z.length = some i.toNat := PySem.StrLaws.seqIndex_nonneg h0 h1
  exact tail_any (typeIs_str s2 z t) slot_str_getitem.lookup (getItem_str (c := c) (by
    have e1 : decide (i < -(2 ^ 63 : Int)) = false := decide_eq_false (by omega)
    have e2 : decide (i ≥ 2 ^ 63) = false := decide_eq_false (by omega)
    rw [e1, e2] <;> rfl) (by rw [e]; exact hc) ⟨.str ⟨#[c]⟩, H2, I2.tok _, ⟨_, rfl⟩, q⟩) (hs _ _)
/-- b[i], 0 ≤ i < len -/
theorem pe_item_byt (ha : PE X a ta) (hb : PE X b tb) (hs : PlainIxT b) :
    PE X (.Subscript a b pos) (tOp (fun x y H Q => ∃ (z : List UInt8) (i : Int), x = .byt z.toArray ∧ y = .int i ∧ z.length ≤ sizeLine ∧ 0 ≤ i ∧ i < z.length ∧ Q (.int ((z.getD i.toNat 0).toNat : Nat)) H) ta tb) := by
  intro pins s σ H Q I h
  refine Subscript_ (binT ha hb I h fun v u s2 x y H2 I2 rx ry q => ?_)
  obtain ⟨z, i, rfl, rfl, hz, h0, h1, q⟩ := q
  obtain ⟨t, rfl⟩ := rx
  obtain ⟨t', rfl⟩ := ry
  have hl : sizeLine = 16777216 := sizeLine_eq
  exact tail_any (PySem.W.typeIs_bytes s2 z.toArray t) PySem.W.FB.slot_bytes_getitem.lookup (PySem.W.getItem_bytes (by omega) h0 h1 ⟨.int ((z.getD i.toNat 0).toNat : Nat), H2, I2.tok _, ⟨_, rfl⟩, q⟩) (hs _ _)

/-! ### scalar builtins, by CallR -/
theorem vals1 {x : V} {us : List Value} (r : Vals [x] us) : ∃ u, us = [u] ∧ RelV x u := by
  cases r with
  | cons r1 r2 => cases r2; exact ⟨_, rfl, r1⟩
theorem vals2 {x y : V} {us : List Value} (r : Vals [x, y] us) : ∃ u w', us = [u, w'] ∧ RelV x u ∧ RelV y w' := by
  cases r with
  | cons r1 r2 =>
    cases r2 with
    | cons r3 r4 => cases r4; exact ⟨_, _, rfl, r1, r3⟩
theorem call_abs : CallR X (.builtin "abs") (fun xs H Q => ∃ i, xs = [.int i] ∧ Q (.int (if i < 0 then -i else i)) H) := by
  intro pins s σ H xs us Q I r h
  obtain ⟨i, rfl, q⟩ := h
  obtain ⟨u, rfl, t, rfl⟩ := vals1 r
  exact call_abs_int fun u tk => ⟨.int (if i < 0 then -i else i), H, I.tok _, ⟨_, rfl⟩, q⟩
theorem call_max2 (hc : X.calm = true) : CallR X (.builtin "max") (fun xs H Q => ∃ i j, xs = [.int i, .int j] ∧ Q (.int (if j > i then j else i)) H) := by
  intro pins s σ H xs us Q I r h
  obtain ⟨i, j, rfl, q⟩ := h
  obtain ⟨u, w', rfl, ⟨t, rfl⟩, ⟨t', rfl⟩⟩ := vals2 r
  refine max_two_ints (I.ok.hd hc) fun h' tk k => ⟨_, H, I.kept k, ?_, q⟩
  by_cases hj : j > i
  · rw [if_pos hj, if_pos hj]; exact ⟨_, rfl⟩
  · rw [if_neg hj, if_neg hj]; exact ⟨_, rfl⟩
theorem call_min2 (hc : X.calm = true) : CallR X (.builtin "min") (fun xs H Q => ∃ i j, xs = [.int i, .int j] ∧ Q (.int (if j < i then j else i)) H) := by
  intro pins s σ H xs us Q I r h
  obtain ⟨i, j, rfl, q⟩ := h
  obtain ⟨u, w', rfl, ⟨t, rfl⟩, ⟨t', rfl⟩⟩ := vals2 r
  refine min_two_ints (I.ok.hd hc) fun h' tk k => ⟨_, H, I.kept k, ?_, q⟩
  by_cases hj : j < i
  · rw [if_pos hj, if_pos hj]; exact ⟨_, rfl⟩
  · rw [if_neg hj, if_neg hj]; exact ⟨_, rfl⟩
theorem call_int1 : CallR X (.type "int") (fun xs H Q => (∃ i, xs = [.int i] ∧ Q (.int i) H) ∨ ∃ k, xs = [.bl k] ∧ Q (.int (if k then 1 else 0)) H) := by
  intro pins s σ H xs us Q I r h
  rcases h with ⟨i, rfl, q⟩ | ⟨k, rfl, q⟩
  · obtain ⟨u, rfl, t, rfl⟩ := vals1 r
    exact call_int_int ⟨.int i, H, I, ⟨_, rfl⟩, q⟩
  · obtain ⟨u, rfl, r1⟩ := vals1 r
    cases r1
    exact call_int_bool ⟨.int (if k then 1 else 0), H, I.tok _, ⟨_, rfl⟩, q⟩
theorem call_bool1 : CallR X (.type "bool") (fun xs H Q => (∃ i, xs = [.int i] ∧ Q (.bl (i != 0)) H) ∨ ∃ k, xs = [.bl k] ∧ Q (.bl k) H) := by
  intro pins s σ H xs us Q I r h
  rcases h with ⟨i, rfl, q⟩ | ⟨k, rfl, q⟩
  · obtain ⟨u, rfl, t, rfl⟩ := vals1 r
    exact call_bool_int ⟨.bl (i != 0), H, I, rfl, q⟩
  · obtain ⟨u, rfl, r1⟩ := vals1 r
    cases r1
    exact call_bool_bool ⟨.bl k, H, I, rfl, q⟩
theorem call_str_int : CallR X (.type "str") (fun xs H Q => ∃ i, xs = [.int i] ∧ i.natAbs.log2 < 1920 ∧ Q (.str (toString i)) H) := by
  intro pins s σ H xs us Q I r h
  obtain ⟨i, rfl, hz, q⟩ := h
  obtain ⟨u, rfl, t, rfl⟩ := vals1 r
  exact PySem.P.str_of_int hz ⟨.str _, H, I.tok _, ⟨_, rfl⟩, q⟩
theorem call_ord : CallR X (.builtin "ord") (fun xs H Q => ∃ x, xs = [.str x] ∧ x.length = 1 ∧ Q (.int (x.cps.getD 0 0 : Nat)) H) := by
  intro pins s σ H xs us Q I r h
  obtain ⟨x, rfl, hz, q⟩ := h
  obtain ⟨u, rfl, t, rfl⟩ := vals1 r
  exact ord_of_one hz ⟨.int _, H, I.tok _, ⟨_, rfl⟩, q⟩
theorem call_chr : CallR X (.builtin "chr") (fun xs H Q => ∃ i, xs = [.int i] ∧ 0 ≤ i ∧ i ≤ 1114111 ∧ Q (.str ⟨#[i.toNat]⟩) H) := by
  intro pins s σ H xs us Q I r h
  obtain ⟨i, rfl, h0, h1, q⟩ := h
  obtain ⟨u, rfl, t, rfl⟩ := vals1 r
  exact chr_of_range h0 h1 ⟨.str _, H, I.tok _, ⟨_, rfl⟩, q⟩
/-- len of a str, a bytes, a list, a tuple -/
def LenV (K : PySem.W.Frag) (x : V) (H : Hp) (n : Nat) : Prop :=
  match x with
  | .str y => y.length ≤ sizeLine ∧ n = y.length
  | .byt y => y.size ≤ sizeLine ∧ n = y.size
  | .ref p => (∃ xs, SqL K H p xs ∧ n = xs.length) ∨ ∃ xs, SqT K H p xs ∧ n = xs.length
  | _ => False
theorem call_len : CallR X (.builtin "len") (fun xs H Q => ∃ x n, xs = [x] ∧ LenV X.K x H n ∧ Q (.int n) H) := by
  intro pins s σ H xs us Q I r h
  obtain ⟨x, n, rfl, e, q⟩ := h
  obtain ⟨u, rfl, rx⟩ := vals1 r
  have hl := line63
  have hs : sizeLine = 16777216 := sizeLine_eq
  cases x with
  | str y =>
    obtain ⟨t, rfl⟩ := rx
    obtain ⟨hy, e'⟩ : y.length ≤ sizeLine ∧ n = y.length := e
    subst e'
    exact len_str (by omega) ⟨.int _, H, I.tok _, ⟨_, rfl⟩, q⟩
  | byt y =>
    obtain ⟨t, rfl⟩ := rx
    obtain ⟨hy, e'⟩ : y.size ≤ sizeLine ∧ n = y.size := e
    subst e'
    exact PySem.W.len_bytes (by omega) ⟨.int _, H, I.tok _, ⟨_, rfl⟩, q⟩
  | ref p =>
    cases rx
    have e' : (∃ xs, SqL X.K H p xs ∧ n = xs.length) ∨ ∃ xs, SqT X.K H p xs ∧ n = xs.length := e
    rcases e' with ⟨xs, hx, e'⟩ | ⟨xs, hx, e'⟩
    · subst e'
      obtain ⟨its, r', pl, hz⟩ := I.list hx
      have hlen := r'.length
      exact Calls.call_len_list pl.isList (by simp only [List.size_toArray]; omega) ⟨.int xs.length, H, I.tok _, ⟨_, by simp only [List.size_toArray]; rw [hlen]⟩, q⟩
    · subst e'
      obtain ⟨its, r', pl, hz⟩ := I.tuple hx
      have hlen := r'.length
      exact len_tuple pl (by simp only [List.size_toArray]; omega) ⟨.int xs.length, H, I.tok _, ⟨_, by simp only [List.size_toArray]; rw [hlen]⟩, q⟩
  | _ => exact (show False from e).elim
/-- divmod: a new tuple -/
theorem call_divmod : CallR X (.builtin "divmod") (fun xs H Q => ∃ i j, xs = [.int i, .int j] ∧ CDiv i j ∧ ∀ p, H p = none → Q (.ref p) (upd H p (.tup [.int (i / j), .int (i % j)]))) := by
  intro pins s σ H xs us Q I r h
  obtain ⟨i, j, rfl, ⟨h1, h2⟩, q⟩ := h
  obtain ⟨u, w', rfl, ⟨t, rfl⟩, ⟨t', rfl⟩⟩ := vals2 r
  refine divmod_int (by omega) ?_ (.inl (PyProof.noPylong_small (by omega)))
  rw [Int.fdiv_eq_ediv_of_nonneg i (by omega), Int.fmod_eq_emod_of_nonneg i (by omega)]
  have hn : H s.heap.objs.size = none := I.hok.fresh (Nat.le_refl _)
  refine ⟨.ref s.heap.objs.size, _, ?_, rfl, q _ hn⟩
  refine I.laid (fun b o e => Heap.get?_push_of_some _ e) (Nat.le_refl _) ⟨by simp only [List.length_cons, List.length_nil]; rw [sizeLine_eq]; decide, [.int (i / j) s.toks, .int (i % j) (s.toks + 1)], .cons ⟨_, rfl⟩ (.cons ⟨_, rfl⟩ .nil), ?_⟩
  exact ⟨_, Heap.get?_push_size s.heap rfl, rfl, 0, rfl⟩
end
end L2

namespace L2
open PySem PySem.Spec PyProof.Rows

/-! ### an instance, its attributes a map -/
structure ObjM (h : Heap) (x dx C : Addr) (mA : Str → Option Value) : Prop where
  obj : h.get? x = some (PySem.W.instObj C dx)
  ns : h.Ns1 dx mA
  ne : dx ≠ x

theorem lookIn_ns {h : Heap} {dx : Addr} {mA : Str → Option Value} (n : h.Ns1 dx mA) : ∃ od, h.get? dx = some od ∧ ∀ name, PySem.W.lookIn name od = some (mA name) := by
  obtain ⟨o, es, ep, ho, hd, hk, _, hm⟩ := n
  refine ⟨o, ho, fun name => ?_⟩
  have e := hm name
  unfold nsFind findBy at e
  rw [← Array.find?_toList] at e
  unfold PySem.W.lookIn
  rw [hd]
  dsimp only
  split
  · rename_i y q
    rw [q] at e
    exact congrArg some e
  · rename_i q
    rw [q] at e
    have a : es.toList.any (·.refKey) = false := by
      rw [List.any_eq_false]
      intro y hy
      obtain ⟨z, t, hkey⟩ := hk y (Array.mem_toList_iff.mp hy)
      simp [DictEntry.refKey, hkey]
    have a' : ¬ es.toList.any (·.refKey) = true := by rw [a]; exact Bool.false_ne_true
    rw [if_neg a']
    exact congrArg some e

theorem ObjM.look {h : Heap} {x dx C : Addr} {mA : Str → Option Value} (I : ObjM h x dx C mA) : ∃ od, PySem.W.InstAt h x (PySem.W.instObj C dx) C (some od) ∧ ∀ name, PySem.W.lookIn name od = some (mA name) :=
  let ⟨od, ho, hl⟩ := lookIn_ns I.ns
  ⟨od, ⟨I.obj, rfl, rfl, ho⟩, hl⟩

section
variable {prog : Program} {w : World} {A : Around} {E : Value → Shared → Prop} {s : Shared} {K : PySem.W.Frag} {x dx C f : Addr} {mA : Str → Option Value} {name : Str} {v : Value}

theorem get_map {expr : Bool} {Q : Value → Shared → Prop} (X : K.In s.heap) (I : ObjM s.heap x dx C mA) (hg : PySem.W.plainGet K C name = true) (hh : PySem.W.hasDictIn K C = true)
    (ha : PySem.W.findIn K (.ref C) name = some none) (hv : mA name = some v) (hv' : PySem.W.handedIn v = true) (h : Q v { s with toks := s.toks + 1 }) :
    wpAny (model prog w) A (getAttr (.ref x) name expr) Q E s := by
  obtain ⟨od, J, hl⟩ := I.look
  exact PySem.W.get_value X J (PySem.W.plainGet_of hg).1 (PySem.W.findObj_own hh ha rfl (by rw [hl, hv])) hv' h

theorem get_const {expr : Bool} {a : Value} {Q : Value → Shared → Prop} (X : K.In s.heap) (I : ObjM s.heap x dx C mA) (hg : PySem.W.plainGet K C name = true) (hh : PySem.W.hasDictIn K C = true)
    (ha : PySem.W.findIn K (.ref C) name = some (some a)) (hn : PySem.W.specialIn K a "__get__" = some none) (hc : PySem.W.copiedNames.contains name = false) (hv : mA name = none) (hv' : PySem.W.handedIn a = true)
    (h : Q a { s with toks := s.toks + 1 }) : wpAny (model prog w) A (getAttr (.ref x) name expr) Q E s := by
  obtain ⟨od, J, hl⟩ := I.look
  exact PySem.W.get_value X J (PySem.W.plainGet_of hg).1 (PySem.W.findObj_cls hh ha hn hv' hc (by rw [hl, hv])) hv' h

theorem get_meth {pl : Sem Bool} {Q : Value × List Value → Shared → Prop} (X : K.In s.heap) (I : ObjM s.heap x dx C mA) (hg : PySem.W.plainGet K C name = true)
    (hf : PySem.W.findIn K (.ref C) name = some (some (.ref f))) (ht : PySem.W.isFn K (.ref f) = true) (hv : mA name = none) (h : Q (.ref f, [.ref x]) s) :
    wpAny (model prog w) A (getMethod (.ref x) name pl) Q E s := by
  obtain ⟨od, J, hl⟩ := I.look
  exact PySem.W.method_fn X J (PySem.W.plainGet_of hg).1 (PySem.W.plainGet_of hg).2 hf (beq_iff_eq.mp ht) (by show (PySem.W.lookIn name od).map (·.isSome) = some false; rw [hl, hv]; rfl) h

theorem set_map {ns : List Str} {Q : Unit → Shared → Prop} (X : K.In s.heap) (I : ObjM s.heap x dx C mA)
    (hs : PySem.W.findIn K (.ref C) "__setattr__" = some (some (.builtin "object.__setattr__"))) (hp : PySem.W.plainOver K C = true) (ht : PySem.W.takerIn K C name = some none) (hh : PySem.W.hasDictIn K C = true)
    (hw : PySem.Within mA ns) (hsz : ns.length ≤ sizeLine)
    (h : ∀ h', ObjM h' x dx C (fun y => if y = name then some v else mA y) → Heap.SameBut dx s.heap h' → Q () { s with heap := h', toks := s.toks + 2 }) :
    wpAny (model prog w) A (setAttr (.ref x) name v) Q E s := by
  obtain ⟨od, J, hl⟩ := I.look
  refine PySem.W.set_plain X J hs (PySem.W.osa_open (s := { s with toks := s.toks + 1 }) (r := none) X J hp ht fun b => ?_)
  obtain ⟨cd, hc, hd'⟩ := PySem.W.any_some hh
  have hx : s.heap.get? x = some ⟨.ref C, some dx, .plain, #[]⟩ := I.obj
  refine wpAny_bind (wpAny_pure (wpAny_bind (wpAny_bind (wpAny_loadPart hx (wpAny_bind (PySem.W.Looks.here (s := { s with toks := s.toks + 1 }) (PySem.W.looks_clsIn X hc) ?_))))))
  rw [hd']
  refine wpAny_pure (a := some dx) (wpAny_bind (wpAny_pure (wpAny_bind ?_)))
  refine wpAny_nsSet1 (s := { s with toks := s.toks + 1 }) I.ns fun h' hn2 hs2 => ?_
  obtain ⟨oD, esD, epD, hoD, hdD, hcD⟩ := hn2.count (PySem.Within.cons name v hw)
  refine wpAny_bind (wpAny_lookBehind hoD (by rw [hdD]; exact pastItsLine_dict (Nat.le_trans hcD (by rw [List.length_cons]; omega))) ?_)
  exact wpAny_pure (h _ ⟨(hs2.2 _ (Ne.symm I.ne)).trans I.obj, hn2, I.ne⟩ hs2)

/-- C(..): the dict at the heap's end, the instance behind it; then its __init__ -/
theorem make_map {R : Result → Shared → Prop} {vs : List Value} {kw : List (Str × Value)} (X : K.In s.heap) (hm : PySem.W.makesIn K C = true)
    (hi : PySem.W.findIn K (.ref C) "__init__" = some (some (.ref f))) (hf : PySem.W.typeIn K (.ref f) = some (.type "function"))
    (h : codeAny (model prog w) (A.under (.builtin "type.__call__" ⟨.ref C :: vs, kw⟩)) (.call (.ref f) ⟨.ref (s.heap.objs.size + 1) :: vs, kw⟩) (PySem.W.InitBack (s.heap.objs.size + 1) R)
      { s with heap := (s.heap.push PySem.W.emptyDict).push (PySem.W.instObj C s.heap.objs.size) }) :
    codeAny (model prog w) A (.call (.ref C) ⟨vs, kw⟩) R s := by
  obtain ⟨hh, g, d, t, os⟩ := s
  exact PySem.W.make_core (PySem.W.makes_of X hm) (PySem.W.looks_findIn X hi) (fun self => PySem.W.bind_fn X self hf) (.inl rfl) h
/-- C() where there is no __init__ but object's -/
theorem make_map0 {R : Result → Shared → Prop} (X : K.In s.heap) (hm : PySem.W.makesIn K C = true)
    (hi : PySem.W.findIn K (.ref C) "__init__" = some (some (.builtin "object.__init__")))
    (hb : ∀ self, PySem.W.Looks (model prog w) s.heap (bindSpecial (.builtin "object.__init__") self) (.builtin "object.__init__", [self]))
    (h : codeAny (model prog w) (A.under (.builtin "type.__call__" ⟨[.ref C], []⟩)) (.call (.builtin "object.__init__") ⟨[.ref (s.heap.objs.size + 1)], []⟩) (PySem.W.InitBack (s.heap.objs.size + 1) R)
      { s with heap := (s.heap.push PySem.W.emptyDict).push (PySem.W.instObj C s.heap.objs.size) }) :
    codeAny (model prog w) A (.call (.ref C) ⟨[], []⟩) R s := by
  obtain ⟨hh, g, d, t, os⟩ := s
  exact PySem.W.make_core (PySem.W.makes_of X hm) (PySem.W.looks_findIn X hi) hb (.inr ⟨rfl, rfl⟩) h
end

/-! ### the attributes as a list of pairs -/
def putF (f : Str) (v : V) : List (Str × V) → List (Str × V)
  | [] => [(f, v)]
  | (g, x) :: r => if g = f then (g, v) :: r else (g, x) :: putF f v r
theorem lookup_putF (f g : Str) (v : V) : ∀ fs : List (Str × V), (putF f v fs).lookup g = if g = f then some v else fs.lookup g
  | [] => by
    show List.lookup g [(f, v)] = _
    by_cases h : g = f
    · have hb : (g == f) = true := beq_iff_eq.mpr h
      simp only [List.lookup, hb, if_pos h]
    · have hb : (g == f) = false := beq_eq_false_iff_ne.mpr h
      simp only [List.lookup, hb, if_neg h]
  | (k, x) :: r => by
    have ih := lookup_putF f g v r
    rw [show putF f v ((k, x) :: r) = (if k = f then (k, v) :: r else (k, x) :: putF f v r) from rfl]
    by_cases hk : k = f
    · rw [if_pos hk]
      by_cases h : g = k
      · have hb : (g == k) = true := beq_iff_eq.mpr h
        simp only [List.lookup, hb, if_pos (h.trans hk)]
      · have hb : (g == k) = false := beq_eq_false_iff_ne.mpr h
        simp only [List.lookup, hb, if_neg (fun e : g = f => h (e.trans hk.symm))]
    · rw [if_neg hk]
      by_cases h : g = k
      · have hb : (g == k) = true := beq_iff_eq.mpr h
        simp only [List.lookup, hb, if_neg (fun e : g = f => hk (h.symm.trans e))]
      · have hb : (g == k) = false := beq_eq_false_iff_ne.mpr h
        simp only [List.lookup, hb]
        exact ih
theorem keys_putF (f : Str) (v : V) : ∀ fs : List (Str × V), f ∈ (putF f v fs).map (·.1) ∧ ∀ g, g ∈ fs.map (·.1) → g ∈ (putF f v fs).map (·.1)
  | [] => ⟨by simp [putF], fun g h => by simp at h⟩
  | (k, x) :: r => by
    obtain ⟨i1, i2⟩ := keys_putF f v r
    rw [show putF f v ((k, x) :: r) = (if k = f then (k, v) :: r else (k, x) :: putF f v r) from rfl]
    by_cases hk : k = f
    · rw [if_pos hk]
      subst hk
      exact ⟨by simp, fun g h => by simpa using h⟩
    · rw [if_neg hk]
      refine ⟨?_, fun g h => ?_⟩
      · rw [List.map_cons]
        exact List.mem_cons_of_mem _ i1
      · rw [List.map_cons] at h ⊢
        rcases List.mem_cons.mp h with e | e
        · exact List.mem_cons.mpr (.inl e)
        · exact List.mem_cons_of_mem _ (i2 g e)
theorem length_putF (f : Str) (v : V) : ∀ fs : List (Str × V), (putF f v fs).length ≤ fs.length + 1
  | [] => by simp [putF]
  | (k, x) :: r => by
    have ih := length_putF f v r
    rw [show putF f v ((k, x) :: r) = (if k = f then (k, v) :: r else (k, x) :: putF f v r) from rfl]
    by_cases hk : k = f
    · rw [if_pos hk, List.length_cons, List.length_cons]; omega
    · rw [if_neg hk, List.length_cons, List.length_cons]; omega

theorem RelO.some_of {v : V} {o : Option Value} (r : RelO (some v) o) : ∃ u, o = some u ∧ RelV v u := by
  cases o with
  | none => exact (show False from r).elim
  | some u => exact ⟨u, rfl, r⟩
theorem RelO.none_of {o : Option Value} (r : RelO none o) : o = none := by
  cases o with
  | none => rfl
  | some u => exact (show False from r).elim
theorem handed_of {v : V} {u : Value} (r : RelV v u) : PySem.W.handedIn u = true := by
  cases v with
  | non => cases (show u = Value.none from r); rfl
  | bl b => cases (show u = Value.bool b from r); rfl
  | int i => obtain ⟨t, e⟩ := (show ∃ t, u = Value.int i t from r); cases e; rfl
  | str x => obtain ⟨t, e⟩ := (show ∃ t, u = Value.str x t from r); cases e; rfl
  | byt b => obtain ⟨t, e⟩ := (show ∃ t, u = Value.bytes b t from r); cases e; rfl
  | flt b => obtain ⟨t, e⟩ := (show ∃ t, u = Value.float b t from r); cases e; rfl
  | ref a => cases (show u = Value.ref a from r); rfl
  | ty n => cases (show u = Value.type n from r); rfl

section
variable {P : Program} {w : World} {H H' : Hp} {h h' : Heap} {a C dx : Addr} {fs fs' : List (Str × V)}
theorem ins_get (hok : HOk P w H h) (e : H a = some (.ins C dx fs)) : ∃ mA, ObjM h a dx C mA ∧ (∀ f, RelO (fs.lookup f) (mA f)) ∧ PySem.Within mA (fs.map (·.1)) ∧ fs.length ≤ 1000 ∧ H dx = some (.own a) := by
  obtain ⟨d, z, ne, ob, mA, n, r, q⟩ := (show ObjOk P w H h a (.ins C dx fs) from hok a _ e)
  exact ⟨mA, ⟨ob, n, ne⟩, r, q, z, d⟩
end

/-! ### what of the text a class must have -/
structure Cls (K : PySem.W.Frag) (C : Addr) : Prop where
  pg : PySem.W.plainGet K C Str.empty = true
  hd : PySem.W.hasDictIn K C = true
  po : PySem.W.plainOver K C = true
  sa : PySem.W.findIn K (.ref C) "__setattr__" = some (some (.builtin "object.__setattr__"))
theorem Cls.get {K : PySem.W.Frag} {C : Addr} (c : Cls K C) (f : Str) : PySem.W.plainGet K C f = true := c.pg
/-- no class of it has the name -/
def NoAttr (K : PySem.W.Frag) (C : Addr) (f : Str) : Prop := PySem.W.findIn K (.ref C) f = some none
theorem NoAttr.taker {K : PySem.W.Frag} {C : Addr} {f : Str} (n : NoAttr K C f) : PySem.W.takerIn K C f = some none := by
  unfold PySem.W.takerIn
  rw [show PySem.W.findIn K (.ref C) f = some none from n]
  rfl
/-- a constant of the class -/
structure Con (K : PySem.W.Frag) (C : Addr) (f : Str) (v : V) (u : Value) : Prop where
  at_ : PySem.W.findIn K (.ref C) f = some (some u)
  rel : RelV v u
  get : PySem.W.specialIn K u "__get__" = some none
  cp : PySem.W.copiedNames.contains f = false
/-- a method: a plain def of the class or of one above it -/
structure Meth (K : PySem.W.Frag) (C : Addr) (m : Str) (f : Addr) : Prop where
  at_ : PySem.W.findIn K (.ref C) m = some (some (.ref f))
  fn : PySem.W.isFn K (.ref f) = true
  kp : PySem.W.keepIn K (.ref f) = true

section
variable {X : Cx} {pins : List (Addr × Obj)} {σ : St} {H : Hp} {s : Shared} {a C dx : Addr} {fs : List (Str × V)} {f : Str} {v : V} {A : Around} {E : Value → Shared → Prop}

theorem getattr_ok {b : Bool} {Q : Value → Shared → Prop} (I : Inv X pins σ H s) (e : H a = some (.ins C dx fs)) (c : Cls X.K C) (n : NoAttr X.K C f) (l : fs.lookup f = some v)
    (h : ∀ u s', Inv X pins σ H s' → RelV v u → Q u s') : wpAny (model X.prog X.w) A (getAttr (.ref a) f b) Q E s := by
  obtain ⟨mA, O, r, _, _, _⟩ := ins_get I.hok e
  obtain ⟨u, hu, ru⟩ := RelO.some_of (v := v) (o := mA f) (by rw [← l]; exact r f)
  exact get_map I.kIn O (c.get f) c.hd n hu (handed_of ru) (h u _ (I.tok _) ru)

theorem getcon_ok {b : Bool} {u : Value} {Q : Value → Shared → Prop} (I : Inv X pins σ H s) (e : H a = some (.ins C dx fs)) (c : Cls X.K C) (k : Con X.K C f v u) (l : fs.lookup f = none)
    (h : ∀ s', Inv X pins σ H s' → Q u s') : wpAny (model X.prog X.w) A (getAttr (.ref a) f b) Q E s := by
  obtain ⟨mA, O, r, _, _, _⟩ := ins_get I.hok e
  have hn : mA f = none := RelO.none_of (by rw [← l]; exact r f)
  exact get_const I.kIn O (c.get f) c.hd k.at_ k.get k.cp hn (handed_of k.rel) (h _ (I.tok _))

theorem getmeth_ok {m : Str} {g : Addr} {pl : Sem Bool} {Q : Value × List Value → Shared → Prop} (I : Inv X pins σ H s) (e : H a = some (.ins C dx fs)) (c : Cls X.K C) (k : Meth X.K C m g) (l : fs.lookup m = none)
    (h : Q (.ref g, [.ref a]) s) : wpAny (model X.prog X.w) A (getMethod (.ref a) m pl) Q E s := by
  obtain ⟨mA, O, r, _, _, _⟩ := ins_get I.hok e
  have hn : mA m = none := RelO.none_of (by rw [← l]; exact r m)
  exact get_meth I.kIn O (c.get m) k.at_ k.fn hn h

theorem setattr_ok {y : V} {u : Value} {Q : Unit → Shared → Prop} (I : Inv X pins σ H s) (e : H a = some (.ins C dx fs)) (c : Cls X.K C) (n : NoAttr X.K C f) (hl : fs.length < 1000) (ry : RelV y u)
    (h : ∀ s', Inv X pins σ (upd H a (.ins C dx (putF f y fs))) s' → Q () s') : wpAny (model X.prog X.w) A (setAttr (.ref a) f u) Q E s := by
  obtain ⟨mA, O, r, wi, _, ho⟩ := ins_get I.hok e
  have hz : (fs.map (·.1)).length ≤ sizeLine := by rw [List.length_map, sizeLine_eq]; omega
  refine set_map I.kIn O c.sa c.po n.taker c.hd wi hz fun h' O' sb => h _ ?_
  have hd : ∃ o, h'.get? dx = some o := let ⟨o, _, _, e', _⟩ := O'.ns; ⟨o, e'⟩
  refine I.write (x := a) (e := dx) (by rw [e]; exact True.intro) (.inr ho) (fun b q hb z => (sb.2 b hb).trans z) hd ?_
  refine ⟨by rw [upd_ne O.ne]; exact ho, ?_, O.ne, O'.obj, _, O'.ns, fun g => ?_, fun g hg => ?_⟩
  · have := length_putF f y fs; omega
  · show RelO ((putF f y fs).lookup g) (if g = f then some u else mA g)
    rw [lookup_putF]
    by_cases q : g = f
    · rw [if_pos q, if_pos q]; exact ry
    · rw [if_neg q, if_neg q]; exact r g
  · by_cases q : g = f
    · rw [q]; exact (keys_putF f y fs).1
    · refine (keys_putF f y fs).2 g (wi g fun z => hg ?_)
      show (if g = f then some u else mA g) = none
      rw [if_neg q]; exact z

/-- a new instance, tracked, without attributes -/
theorem Inv.made (I : Inv X pins σ H s) : Inv X pins σ (upd (upd H s.heap.objs.size (.own (s.heap.objs.size + 1))) (s.heap.objs.size + 1) (.ins C s.heap.objs.size []))
    { s with heap := (s.heap.push PySem.W.emptyDict).push (PySem.W.instObj C s.heap.objs.size) } := by
  have e1 : (s.heap.push PySem.W.emptyDict).get? s.heap.objs.size = some PySem.W.emptyDict := Heap.get?_push_size s.heap rfl
  have e2 : ((s.heap.push PySem.W.emptyDict).push (PySem.W.instObj C s.heap.objs.size)).get? (s.heap.objs.size + 1) = some (PySem.W.instObj C s.heap.objs.size) := by
    have := Heap.get?_push_size (s.heap.push PySem.W.emptyDict) (o := PySem.W.instObj C s.heap.objs.size) rfl
    rwa [Heap.size_push] at this
  have e3 : (s.heap.push PySem.W.emptyDict).Ns s.heap.objs.size (fun _ => none) := ⟨PySem.W.emptyDict, #[], _, e1, rfl, (fun e he => absurd he (by simp)), fun _ => rfl⟩
  have I1 := I.laid (a := s.heap.objs.size) (o := .own (s.heap.objs.size + 1)) (h' := s.heap.push PySem.W.emptyDict) (t' := s.toks) (fun b u q => Heap.get?_push_of_some _ q) (Nat.le_refl _) ⟨_, e1⟩
  refine I1.laid (a := s.heap.objs.size + 1) (o := .ins C s.heap.objs.size []) (t' := s.toks) (fun b u q => Heap.get?_push_of_some _ q) (Nat.le_of_eq (Heap.size_push _ _)) ?_
  have ne : s.heap.objs.size ≠ s.heap.objs.size + 1 := Nat.ne_of_lt (Nat.lt_succ_self _)
  refine ⟨by rw [upd_ne ne, upd_same], Nat.zero_le _, ne, e2, fun _ => none, (Heap.Ns1.of_empty e3).at fun o q => Heap.get?_push_of_some _ q, fun _ => True.intro, fun y hy => absurd rfl hy⟩

/-- e.f where nothing but the object is asked: through attributeBase (super) and the last hold -/
theorem attr_of {prog : Program} {w : World} {env : Env} {e : Expr} {f : Str} {pos : Pos} {s : Shared} {Q : Value → Shared → Prop} (hb : attributeBase e f env (eval e env) = eval e env)
    (h : wpAny (model prog w) A (eval e env) (fun o s₁ => wpAny (model prog w) A (getAttr o f true) Q E s₁) E s) : wpAny (model prog w) A (eval (.Attribute e f pos) env) Q E s :=
  Attribute_any_ h (by rw [arm_eval_Attribute, hb])
end

/-! ### readings and rules -/
/-- e.f, an attribute of the instance -/
def tFld (K : PySem.W.Frag) (ta : TE) (f : Str) : TE := fun σ H Q => ta σ H fun x H1 => ∃ a C dx fs v, x = .ref a ∧ H1 a = some (.ins C dx fs) ∧ Cls K C ∧ NoAttr K C f ∧ fs.lookup f = some v ∧ Q v H1
/-- e.f, a constant of the class -/
def tCon (K : PySem.W.Frag) (ta : TE) (f : Str) : TE := fun σ H Q => ta σ H fun x H1 => ∃ a C dx fs v u, x = .ref a ∧ H1 a = some (.ins C dx fs) ∧ Cls K C ∧ Con K C f v u ∧ fs.lookup f = none ∧ Q v H1
/-- e.f = value -/
def sFld (K : PySem.W.Frag) (ta tv : TE) (f : Str) : TS := fun D σ H => tv σ H fun y H1 => ta σ H1 fun x H2 => ∃ a C dx fs, x = .ref a ∧ H2 a = some (.ins C dx fs) ∧ Cls K C ∧ NoAttr K C f ∧ fs.length < 1000 ∧
  D.nx σ (upd H2 a (.ins C dx (putF f y fs)))
/-- an augmented operator on two values -/
def InOp (X : Cx) (op : Operator) (rd : V → V → Hp → VK → Prop) : Prop :=
  ∀ (pins : List (Addr × Obj)) (s : Shared) (σ : St) (H : Hp) (x y : V) (u v : Value) (Q : VK), Inv X pins σ H s → RelV x u → RelV y v → rd x y H Q → wpAny (model X.prog X.w) X.A (inplaceOp op u v) (EP X pins σ Q) X.xe s
/-- e.f op= value -/
def sFldAug (K : PySem.W.Frag) (ta tv : TE) (rd : V → V → Hp → VK → Prop) (f : Str) : TS := fun D σ H => ta σ H fun x H1 => ∃ a C dx fs v, x = .ref a ∧ H1 a = some (.ins C dx fs) ∧ Cls K C ∧ NoAttr K C f ∧ fs.lookup f = some v ∧
  tv σ H1 fun y H2 => rd v y H2 fun z H3 => ∃ dx' fs', H3 a = some (.ins C dx' fs') ∧ fs'.length < 1000 ∧ D.nx σ (upd H3 a (.ins C dx' (putF f z fs')))

section
variable {X : Cx} {o e value : Expr} {f : Str} {pos pos' tpos : Pos} {ta tv : TE}
theorem pe_fld (he : PE X e ta) (hb : attributeBase e f X.env (eval e X.env) = eval e X.env) : PE X (.Attribute e f pos) (tFld X.K ta f) := by
  intro pins s σ H Q I h
  refine attr_of hb (thn (he pins s σ H _ I h) fun u s1 ⟨x, H1, I1, rx, a, C, dx, fs, v, ex, ea, c, n, l, q⟩ => ?_)
  subst ex
  obtain rfl : u = Value.ref a := rx
  exact getattr_ok I1 ea c n l fun u' s2 I2 ru => ⟨v, H1, I2, ru, q⟩
theorem pe_con (he : PE X e ta) (hb : attributeBase e f X.env (eval e X.env) = eval e X.env) : PE X (.Attribute e f pos) (tCon X.K ta f) := by
  intro pins s σ H Q I h
  refine attr_of hb (thn (he pins s σ H _ I h) fun u s1 ⟨x, H1, I1, rx, a, C, dx, fs, v, u0, ex, ea, c, k, l, q⟩ => ?_)
  subst ex
  obtain rfl : u = Value.ref a := rx
  exact getcon_ok I1 ea c k l fun s2 I2 => ⟨v, H1, I2, k.rel, q⟩
theorem ps_fld (ha : PE X o ta) (hv : PE X value tv) (hs : swapsWith value (some (.Attribute o f pos')) pos.line X.env = pure false) : PS X (.Assign [.Attribute o f pos'] value pos) (sFld X.K ta tv f) := by
  intro pins s σ H D I h
  refine plainObj_wpAny_Assign_Attribute (thn (hv pins s σ H _ I h) fun u s1 ⟨y, H1, I1, ry, q⟩ => thn (ha pins s1 σ H1 _ I1 q) fun ov s2 ⟨x, H2, I2, rx, a, C, dx, fs, ex, ea, c, n, l, q2⟩ => ?_) hs
  subst ex
  obtain rfl : ov = Value.ref a := rx
  exact setattr_ok I2 ea c n l ry fun s3 I3 => ⟨σ, _, I3, q2⟩
theorem ps_fldaug {op : Operator} {rd : V → V → Hp → VK → Prop} (ha : PE X o ta) (hv : PE X value tv) (hop : InOp X op rd) : PS X (.AugAssign (.Attribute o f tpos) op value pos) (sFldAug X.K ta tv rd f) := by
  intro pins s σ H D I h
  refine wpAny_AugAssign_AttributeAny (thn (ha pins s σ H _ I h) fun ov s1 ⟨x, H1, I1, rx, a, C, dx, fs, v, ex, ea, c, n, l, q⟩ => ?_)
  subst ex
  obtain rfl : ov = Value.ref a := rx
  refine getattr_ok I1 ea c n l fun u s2 I2 ru => thn (hv pins s2 σ H1 _ I2 q) fun w3 s3 ⟨y, H2, I3, ry, q3⟩ => thn (hop pins s3 σ H2 v y u w3 _ I3 ru ry q3) fun w4 s4 ⟨z, H3, I4, rz, dx', fs', ea', l', q4⟩ => ?_
  exact setattr_ok I4 ea' c n l' rz fun s5 I5 => ⟨σ, _, I5, q4⟩
def rAdd : V → V → Hp → VK → Prop := fun x y H Q => ∃ i j, x = .int i ∧ y = .int j ∧ Q (.int (i + j)) H
def rSub : V → V → Hp → VK → Prop := fun x y H Q => ∃ i j, x = .int i ∧ y = .int j ∧ Q (.int (i - j)) H
theorem in_add : InOp X .Add rAdd := by
  rintro pins s σ H x y u v Q I rx ry ⟨i, j, rfl, rfl, q⟩
  obtain ⟨t, rfl⟩ := (show ∃ t, u = Value.int i t from rx)
  obtain ⟨t', rfl⟩ := (show ∃ t', v = Value.int j t' from ry)
  exact PyProof.Rows.iadd_int ⟨.int (i + j), H, I.tok _, ⟨_, rfl⟩, q⟩
theorem in_sub : InOp X .Sub rSub := by
  rintro pins s σ H x y u v Q I rx ry ⟨i, j, rfl, rfl, q⟩
  obtain ⟨t, rfl⟩ := (show ∃ t, u = Value.int i t from rx)
  obtain ⟨t', rfl⟩ := (show ∃ t', v = Value.int j t' from ry)
  exact PyProof.Rows.isub_int ⟨.int (i - j), H, I.tok _, ⟨_, rfl⟩, q⟩

/-- what is between an instance and its method: the tree of a method call -/
theorem methcall_of {pl : Sem Bool} {m : Str} {apos : Pos} {args : List Expr} {pins : List (Addr × Obj)} {s : Shared} {σ : St} {H : Hp} {Q : Value → Shared → Prop} {te : TE} (he : PE X e te) (I : Inv X pins σ H s)
    (h : te σ H fun x H1 => ∃ a C dx fs g, x = .ref a ∧ H1 a = some (.ins C dx fs) ∧ Cls X.K C ∧ Meth X.K C m g ∧ fs.lookup m = none ∧
      ∀ s1, Inv X pins σ H1 s1 → wpAny (model X.prog X.w) X.A (callWith pos (.ref g) [.ref a] (backTo pos (starEach args X.env)) (backToKw pos (keywordEach [] X.env))) Q X.xe s1)
    (ht : eval (.Call (.Attribute e m apos) args [] pos) X.env = (do
      let ov ← eval e X.env
      standAt apos.atName
      let (f, first) ← holding [ov] (getMethod ov m pl)
      callWith pos f first (backTo pos (starEach args X.env)) (backToKw pos (keywordEach [] X.env)))) :
    wpAny (model X.prog X.w) X.A (eval (.Call (.Attribute e m apos) args [] pos) X.env) Q X.xe s := by
  refine PySem.W.methodCall_KW (pl := pl) (thn (he pins s σ H _ I h) fun u s1 ⟨x, H1, I1, rx, a, C, dx, fs, g, ex, ea, c, k, l, q⟩ => ?_) ht
  subst ex
  obtain rfl : u = Value.ref a := rx
  exact getmeth_ok I1 ea c k l (q s1 I1)
end

/-! ### isinstance -/
section
variable {X : Cx} {pins : List (Addr × Obj)} {σ : St} {H : Hp} {s : Shared} {A : Around} {E : Value → Shared → Prop} {Q : Value → Shared → Prop} {c : Value} {b : Bool}
/-- the type of a value, as the fragment's deciders take it; for an instance its class -/
inductive TyOf (K : PySem.W.Frag) (H : Hp) : V → Value → Prop where
  | non : TyOf K H .non (.type "NoneType")
  | bl (x : Bool) : TyOf K H (.bl x) (.type "bool")
  | int (i : Int) : TyOf K H (.int i) (.type "int")
  | str (x : Str) : TyOf K H (.str x) (.type "str")
  | flt (x : UInt64) : TyOf K H (.flt x) (.type "float")
  | lst {a : Addr} {xs : List V} (e : H a = some (.lst xs)) : TyOf K H (.ref a) (.type "list")
  | frz {a : Addr} {o : Obj} {xs : List V} (e : H a = some (.frz o (.lst xs))) : TyOf K H (.ref a) (.type "list")
  | tup {a : Addr} {xs : List V} (e : H a = some (.tup xs)) : TyOf K H (.ref a) (.type "tuple")
  | dK {a : Addr} {kvs : List (Key × V)} (e : H a = some (.dK kvs)) : TyOf K H (.ref a) (.type "dict")
  | dT {a : Addr} {kvs : List (List Key × V)} (e : H a = some (.dT kvs)) : TyOf K H (.ref a) (.type "dict")
  | ins {a C dx : Addr} {fs : List (Str × V)} (e : H a = some (.ins C dx fs)) (cl : Cls K C) (ha : PySem.W.findIn K (.ref C) "__class__" = some (some (.builtin "object.__class__")))
      (hn : PySem.W.specialIn K (.builtin "object.__class__") "__get__" = some (some (.builtin "getset_descriptor.__get__"))) (htk : PySem.W.takesIn K (.builtin "object.__class__") = some true)
      (hm : PySem.W.mroIn K C (.type "object") = some true) : TyOf K H (.ref a) (.ref C)
/-- isinstance(x, c) for one class c, a built-in or an own one: kitOne's answer -/
theorem isinst_ok {x : V} {u t : Value} (I : Inv X pins σ H s) (rx : RelV x u) (ty : TyOf X.K H x t) (e : PySem.W.kitOne X.K t c = some b) (h : ∀ tk, Q (.bool b) { s with toks := tk }) :
    wpAny (model X.prog X.w) A (call (.builtin "isinstance") [u, c]) Q E s := by
  cases ty with
  | non => cases (show u = Value.none from rx); exact PySem.W.kia_one PySem.W.kitx_none I.kIn True.intro e (fun z => nomatch z) h
  | bl y => cases (show u = Value.bool y from rx); exact PySem.W.kia_one PySem.W.kitx_bool I.kIn True.intro e (fun z => nomatch z) h
  | int i => obtain ⟨t, q⟩ := (show ∃ t, u = Value.int i t from rx); cases q; exact PySem.W.kia_one PySem.W.kitx_int I.kIn True.intro e (fun z => nomatch z) h
  | str y => obtain ⟨t, q⟩ := (show ∃ t, u = Value.str y t from rx); cases q; exact PySem.W.kia_one PySem.W.kitx_str I.kIn True.intro e (fun z => nomatch z) h
  | flt y => obtain ⟨t, q⟩ := (show ∃ t, u = Value.float y t from rx); cases q; exact PySem.W.kia_one PySem.W.kitx_float I.kIn True.intro e (fun z => nomatch z) h
  | @lst a xs ea =>
    cases (show u = Value.ref a from rx)
    obtain ⟨_, _, n, _, h1⟩ := (show ObjOk X.prog X.w H s.heap a (.lst xs) from I.hok a _ ea)
    exact PySem.W.kia_one PySem.W.kitx_list I.kIn ⟨_, h1, rfl⟩ e (fun z => nomatch z) h
  | @frz a ob xs ea =>
    cases (show u = Value.ref a from rx)
    obtain ⟨_, _, _, n, _, h1⟩ := (show ObjOk X.prog X.w H s.heap a (.frz ob (.lst xs)) from I.hok a _ ea)
    exact PySem.W.kia_one PySem.W.kitx_list I.kIn ⟨_, h1, rfl⟩ e (fun z => nomatch z) h
  | @tup a xs ea =>
    cases (show u = Value.ref a from rx)
    obtain ⟨_, _, _, p⟩ := (show ObjOk X.prog X.w H s.heap a (.tup xs) from I.hok a _ ea)
    obtain ⟨o, h1, h2, _⟩ := p
    exact PySem.W.kia_one PySem.W.kitx_tuple I.kIn ⟨o, h1, h2⟩ e (fun z => nomatch z) h
  | @dK a kvs ea =>
    cases (show u = Value.ref a from rx)
    obtain ⟨_, _, vs, _, p⟩ := (show ObjOk X.prog X.w H s.heap a (.dK kvs) from I.hok a _ ea)
    obtain ⟨o, es, ep, h1, h2, _⟩ := p
    exact PySem.W.kia_one PySem.W.kitx_dict I.kIn ⟨o, h1, h2.1⟩ e (fun z => nomatch z) h
  | @dT a kvs ea =>
    cases (show u = Value.ref a from rx)
    obtain ⟨_, _, xs, _, o, es, ep, h1, h2, _⟩ := (show ObjOk X.prog X.w H s.heap a (.dT kvs) from I.hok a _ ea)
    exact PySem.W.kia_one PySem.W.kitx_dict I.kIn ⟨o, h1, h2.1⟩ e (fun z => nomatch z) h
  | @ins a C dx fs ea cl ha hn htk hm =>
    cases (show u = Value.ref a from rx)
    obtain ⟨mA, O, _⟩ := ins_get I.hok ea
    obtain ⟨od, J, _⟩ := O.look
    exact PySem.W.kia_one (PySem.W.kitx_own (cl.get _) cl.hd ha hn htk hm) I.kIn J e (fun z => nomatch z) h
end
end L2

namespace L2
open PySem PySem.Spec PyProof.Rows

/-! ### room -/
structure Room (k : Nat) (A : Around) : Prop where
  hd : A.handled = none
  gd : A.guards = some []
  dp : A.depth + 3 * k + 5 < recursionLimit
  un : A.units + 16 * k + 200 < cLine
theorem Room.mono {j k : Nat} {A : Around} (r : Room k A) (h : j ≤ k) : Room j A := ⟨r.hd, r.gd, by have := r.dp; omega, by have := r.un; omega⟩
theorem Room.deeper {k : Nat} {A : Around} (r : Room (k + 1) A) (env : Env) : Room k (A.deeper env) :=
  ⟨r.hd, r.gd, by have := r.dp; show A.depth + 1 + 3 * k + 5 < _; omega, by have := r.un; show A.units + 3 + 16 * k + 200 < _; omega⟩
theorem Room.in1 {k : Nat} {A : Around} (r : Room (k + 1) A) : Room k A.in1 :=
  ⟨r.hd, r.gd, by have := r.dp; show A.depth + 3 * k + 5 < _; omega, by have := r.un; show A.units + 1 + 16 * k + 200 < _; omega⟩
theorem make_depth {A : Around} {C : Addr} {us : List Value} {kw : List (Str × Value)} : (A.under (.builtin "type.__call__" ⟨.ref C :: us, kw⟩)).depth = A.depth + 1 := by
  first | rfl | simp [Around.under, Code.weight, Code.isCreation, Code.isGuard, Code.isCaller, Code.frames, Code.isFrame, guardIds]
theorem make_units {A : Around} {C : Addr} {us : List Value} {kw : List (Str × Value)} : (A.under (.builtin "type.__call__" ⟨.ref C :: us, kw⟩)).units = A.units + 1 := by
  first | rfl | simp [Around.under, Code.cUnits, Code.frames, Code.isFrame]
theorem make_guards {A : Around} {C : Addr} {us : List Value} {kw : List (Str × Value)} : (A.under (.builtin "type.__call__" ⟨.ref C :: us, kw⟩)).guards = A.guards := by
  first
    | rfl
    | (show pushGuards (Code.guards _) A.guards = A.guards
       have e : Code.guards (.builtin "type.__call__" ⟨.ref C :: us, kw⟩) = [] := by first | rfl | (simp [Code.guards, Code.isGuard, guardIds])
       rw [e, pushGuards_eq]
       cases A.guards <;> simp)
theorem Room.make {k : Nat} {A : Around} (r : Room (k + 1) A) (C : Addr) (us : List Value) (kw : List (Str × Value)) : Room k (A.under (.builtin "type.__call__" ⟨.ref C :: us, kw⟩)) :=
  ⟨r.hd, by rw [make_guards]; exact r.gd, by have := r.dp; rw [make_depth]; omega, by have := r.un; rw [make_units]; omega⟩
theorem Room.depth {k : Nat} {A : Around} (r : Room k A) : A.depth < recursionLimit := by have := r.dp; omega
theorem Room.units {k : Nat} {A : Around} (r : Room k A) : A.units + 64 < cLine := by have := r.un; omega
theorem Room.units0 {k : Nat} {A : Around} (r : Room k A) : A.units < cLine := by have := r.un; omega

/-! ### argument lists and displays -/
def tNil : TA := fun _ H Q => Q [] H
def tCons (ta : TE) (tr : TA) : TA := fun σ H Q => ta σ H fun x H1 => tr σ H1 fun xs H2 => Q (x :: xs) H2
section
variable {X : Cx} {e : Expr} {es : List Expr} {te : TE} {t : TA} {pos : Pos}
theorem pa_nil : PA X [] tNil := fun _ _ _ _ H Q I h => Calls.spliced_nil ⟨[], H, I, .nil, h⟩
theorem pa_cons (ha : PE X e te) (hr : PA X es t) (hs : starEach (e :: es) X.env = (false, eval e X.env) :: starEach es X.env := by rfl) : PA X (e :: es) (tCons te t) := by
  intro pos pins s σ H Q I h
  rw [hs]
  show wpAny _ _ (spliced ((false, eval e X.env) :: backTo pos (starEach es X.env))) _ _ s
  refine Calls.spliced_cons (thn (ha pins s σ H _ I h) fun u s1 ⟨x, H1, I1, r1, q1⟩ => ?_)
  exact thn (hr pos pins s1 σ H1 _ I1 q1) fun us s2 ⟨xs, H2, I2, r2, q2⟩ => ⟨x :: xs, H2, I2, .cons r1 r2, q2⟩

/-- a tuple, a list of written items -/
def tTup (t : TA) : TE := fun σ H Q => t σ H fun xs H1 => xs.length ≤ sizeLine ∧ ∀ p, H1 p = none → Q (.ref p) (upd H1 p (.tup xs))
def tLst (t : TA) : TE := fun σ H Q => t σ H fun xs H1 => xs.length ≤ sizeLine ∧ ∀ p, H1 p = none → Q (.ref p) (upd H1 p (.lst xs))
theorem pe_tup {x1} (h : PA X es t) : PE X (.Tuple es x1 pos) (tTup t) := by
  intro pins s σ H Q I hq
  refine wpAny_Tuple_spliced (thn (h pos pins s σ H _ I hq) fun us s1 ⟨xs, H1, I1, r, z, q⟩ => ⟨by rw [← r.length]; exact z, ?_⟩)
  have hf : H1 s1.heap.objs.size = none := I1.hok.fresh (Nat.le_refl _)
  refine ⟨.ref s1.heap.objs.size, upd H1 s1.heap.objs.size (.tup xs), I1.laid (t' := s1.toks) (fun b u e => Heap.get?_push_of_some _ e) (Nat.le_refl _) ?_, rfl, q _ hf⟩
  exact ⟨z, us, r, ⟨_, Heap.get?_push_size _ rfl, rfl, _, rfl⟩⟩
theorem pe_lst (h : PA X es t) : PE X (.List es pos) (tLst t) := by
  intro pins s σ H Q I hq
  refine wpAny_List_spliced (thn (h pos pins s σ H _ I hq) fun us s1 ⟨xs, H1, I1, r, z, q⟩ => ⟨by rw [← r.length]; exact z, ?_⟩)
  have hf : H1 s1.heap.objs.size = none := I1.hok.fresh (Nat.le_refl _)
  refine ⟨.ref s1.heap.objs.size, upd H1 s1.heap.objs.size (.lst xs), I1.laid (t' := s1.toks) (fun b u e => Heap.get?_push_of_some _ e) (Nat.le_refl _) ?_, rfl, q _ hf⟩
  exact ⟨z, us, 0, r, Heap.get?_push_size _ rfl⟩
end

/-! ### what a def promises -/
/-- a def's promise: the bound arguments in the parameters' order, the heap, the wanted end, the wanted exception -/
abbrev Sp := List V → Hp → VK → XK → Prop
/-- how an exception lies behind a call (file 08 gives it): the callers' frames, abstract heap and state ahead of the call, the wish, the exception, the state -/
abbrev CXT := List Env → Hp → Shared → XK → Value → Shared → Prop

/-- the state at a call -/
structure Env0 (P : Program) (w : World) (K : PySem.W.Frag) (mg : Str → Option Value) (base : Heap) (A : Around) (outer : List Env) (s : Shared) (H : Hp) : Prop where
  frames : A.frames = some outer
  mod : Mod K mg base
  bs : ∀ b o, base.get? b = some o → s.heap.get? b = some o ∧ H b = none
  bsz : base.objs.size ≤ s.heap.objs.size
  funs : s.heap.FunFrames base outer
  frf : ∀ b ∈ frs outer, H b = none
  hok : HOk P w H s.heap
  bare : AllBare s.gens
/-- a call's end -/
def CE (outer : List Env) (P : Program) (w : World) (H : Hp) (s : Shared) (Q : VK) (u : Value) (s' : Shared) : Prop :=
  ∃ v H', s'.os = s.os ∧ AllBare s'.gens ∧ Un (frs outer) [] H H' s.heap s'.heap ∧ HOk P w H' s'.heap ∧ RelV v u ∧ Q v H'
def CR (CX : CXT) (outer : List Env) (P : Program) (w : World) (H : Hp) (s : Shared) (Q : VK) (E : XK) (r : Result) (s' : Shared) : Prop :=
  match r with
  | .ok (.ret u) => CE outer P w H s Q u s'
  | .ok _ => False
  | .error e => CX outer H s E e s'
structure FnOk (P : Program) (w : World) (K : PySem.W.Frag) (mg : Str → Option Value) (base : Heap) (CX : CXT) (k : Nat) (f : Addr) (fd : FuncData) (ps : List Str) (sp : Sp) : Prop where
  len : ∀ vs H Q E, sp vs H Q E → vs.length = ps.length
  run : ∀ (A : Around) (outer : List Env) (s : Shared) (H : Hp) (args : Args) (us : List Value) (vs : List V) (Q : VK) (E : XK), Room k A → Env0 P w K mg base A outer s H → BindsTo s fd args (ps.zip us) → Vals vs us → sp vs H Q E →
    codeAny (model P w) A (.call (.ref f) args) (CR CX outer P w H s Q E) s
theorem FnOk.mono {P : Program} {w : World} {K : PySem.W.Frag} {mg : Str → Option Value} {base : Heap} {CX : CXT} {j k : Nat} {f : Addr} {fd : FuncData} {ps : List Str} {sp : Sp} (F : FnOk P w K mg base CX j f fd ps sp) (h : j ≤ k) :
    FnOk P w K mg base CX k f fd ps sp := ⟨F.len, fun A outer s H args us vs Q E hr => F.run A outer s H args us vs Q E (hr.mono h)⟩
/-- a weaker promise -/
theorem FnOk.imp {P : Program} {w : World} {K : PySem.W.Frag} {mg : Str → Option Value} {base : Heap} {CX : CXT} {k : Nat} {f : Addr} {fd : FuncData} {ps : List Str} {sp sp' : Sp} (F : FnOk P w K mg base CX k f fd ps sp)
    (h : ∀ vs H Q E, sp' vs H Q E → sp vs H Q E) : FnOk P w K mg base CX k f fd ps sp' :=
  ⟨fun vs H Q E q => F.len vs H Q E (h _ _ _ _ q), fun A outer s H args us vs Q E hr he hb hv hs => F.run A outer s H args us vs Q E hr he hb hv (h _ _ _ _ hs)⟩

theorem Env0.make {P : Program} {w : World} {K : PySem.W.Frag} {mg : Str → Option Value} {base : Heap} {A : Around} {outer : List Env} {s : Shared} {H : Hp} (e : Env0 P w K mg base A outer s H) (C : Addr) (us : List Value) (kw : List (Str × Value)) :
    Env0 P w K mg base (A.under (.builtin "type.__call__" ⟨.ref C :: us, kw⟩)) outer s H := ⟨by first | exact e.frames | (simpa [Around.under, Code.envs, Code.isFrame, pushEnvs] using e.frames), e.mod, e.bs, e.bsz, e.funs, e.frf, e.hok, e.bare⟩
theorem Env0.in1 {P : Program} {w : World} {K : PySem.W.Frag} {mg : Str → Option Value} {base : Heap} {A : Around} {outer : List Env} {s : Shared} {H : Hp} (e : Env0 P w K mg base A outer s H) :
    Env0 P w K mg base A.in1 outer s H := ⟨e.frames, e.mod, e.bs, e.bsz, e.funs, e.frf, e.hok, e.bare⟩

section
variable {X : Cx} {pins : List (Addr × Obj)} {σ : St} {H : Hp} {s s' : Shared}
/-- from a body: what a callee wants -/
theorem Inv.env0 (I : Inv X pins σ H s) : Env0 X.prog X.w X.K X.mg X.base X.A X.stack s H :=
  ⟨I.ok.frames, I.ok.mod, I.bs, Nat.le_trans I.ok.bsz I.sz, I.stack, I.stkFree, I.hok, I.bare⟩
/-- behind a call -/
theorem Inv.after {Q : VK} {u : Value} (I : Inv X pins σ H s) (h : CE X.stack X.prog X.w H s Q u s') : EP X pins σ Q u s' := by
  obtain ⟨v, H', os, bare, un, hok, r, q⟩ := h
  obtain ⟨hh, g, d, t, os'⟩ := s'
  obtain rfl : os' = s.os := os
  exact ⟨v, H', I.call (h' := hh) (g' := g) (d' := d) (t' := t) (ch := []) un hok bare (fun b z => absurd z (by simp)), r, q⟩
end

/-! ### calls -/
/-- f(..): the written arguments, then the defaults dvs; E: what is wanted of an exception -/
def tCall (sp : Sp) (dvs : List V) (E : XK) (t : TA) : TE := fun σ H Q => t σ H fun vs H1 => sp (vs ++ dvs) H1 Q E
/-- o.m(..) of an instance of the class at C -/
def tMeth (C : Addr) (m : Str) (sp : Sp) (dvs : List V) (E : XK) (ta : TE) (t : TA) : TE := fun σ H Q => ta σ H fun x H1 => ∃ a dx fs, x = .ref a ∧ H1 a = some (.ins C dx fs) ∧ fs.lookup m = none ∧
  t σ H1 fun vs H2 => sp (x :: (vs ++ dvs)) H2 Q E
/-- C(..): a new instance and its dict, then __init__ -/
def tMake (C : Addr) (sp : Sp) (dvs : List V) (E : XK) (t : TA) : TE := fun σ H Q => t σ H fun vs H1 => ∀ x dx, H1 x = none → H1 dx = none → dx ≠ x →
  sp (.ref x :: (vs ++ dvs)) (upd (upd H1 dx (.own x)) x (.ins C dx [])) (fun v H2 => v = .non ∧ Q (.ref x) H2) E

/-- how the parameters are bound: us the positional arguments, kw the keywords' values by name, ds the defaults that fill up -/
def Binds (K : PySem.W.Frag) (fd : FuncData) (ps : List Str) (ds : List Value) : Prop :=
  ∀ (s : Shared) (us : List Value), K.In s.heap → (us ++ ds).length = ps.length → BindsTo s fd ⟨us, []⟩ (ps.zip (us ++ ds))
/-- every parameter is given -/
theorem Binds.all {K : PySem.W.Frag} {fd : FuncData} {ps : List Str} (h : ∀ us : List Value, us.length = ps.length → bindArgs fd ⟨us, []⟩ = pure (ps.zip us)) : Binds K fd ps [] := fun s us _ hl => by
  rw [List.append_nil] at hl ⊢
  exact .of_eq (h us hl)

/-- an exception of a callee reaches what this body wants of exceptions -/
def Passes (CX : CXT) (X : Cx) (E : XK) : Prop := ∀ (pins : List (Addr × Obj)) (σ : St) (H : Hp) (s : Shared) (e : Value) (s' : Shared), Inv X pins σ H s → CX X.stack H s E e s' → X.xe e s'

section
variable {X : Cx} {CX : CXT} {k : Nat} {f C : Addr} {fd : FuncData} {ps : List Str} {sp : Sp} {dvs : List V} {ds : List Value} {E : XK} {x m : Str} {p pos apos : Pos} {e o : Expr} {es : List Expr} {ta : TE} {t : TA}

/-- the callee runs -/
theorem run_fn {pins : List (Addr × Obj)} {σ : St} {H : Hp} {s : Shared} {Q : VK} {us : List Value} {vs : List V} (F : FnOk X.prog X.w X.K X.mg X.base CX k f fd ps sp) (hr : Room k X.A) (hb : Binds X.K fd ps ds) (hd : Vals dvs ds) (hx : Passes CX X E)
    (I : Inv X pins σ H s) (r : Vals vs us) (h : sp (vs ++ dvs) H Q E) : wpAny (model X.prog X.w) X.A (call (.ref f) us) (EP X pins σ Q) X.xe s := by
  have r2 : Vals (vs ++ dvs) (us ++ ds) := r.append hd
  have hl : (us ++ ds).length = ps.length := by rw [← r2.length]; exact F.len _ _ _ _ h
  refine wpAny_call (codeAny_mono (F.run X.A X.stack s H ⟨us, []⟩ (us ++ ds) (vs ++ dvs) Q E hr I.env0 (hb s us I.kIn hl) r2 h) fun r s' hq => ?_)
  cases r with
  | error e => exact hx pins σ H s e s' I hq
  | ok fl =>
    cases fl with
    | ret u => exact I.after hq
    | next => exact False.elim hq
    | brk => exact False.elim hq
    | cont => exact False.elim hq

theorem pe_call (F : FnOk X.prog X.w X.K X.mg X.base CX k f fd ps sp) (hr : Room k X.A) (hg : Gl X x) (hm : X.mg x = some (.ref f)) (hk : PySem.W.keepIn X.K (.ref f) = true) (hb : Binds X.K fd ps ds) (hd : Vals dvs ds) (hx : Passes CX X E)
    (ha : PA X (e :: es) t) (hdb : (x == ("__debug__" : Str)) = false := by decide) (he : starEach (e :: es) X.env = (false, eval e X.env) :: starEach es X.env := by rfl) (hpl : (backTo pos (starEach es X.env)).any (·.1) = false := by rfl) :
    PE X (.Call (.Name x p) (e :: es) [] pos) (tCall sp dvs E t) := by
  intro pins s σ H Q I h
  refine wpAny_Call_Name_kw (ld_glob I hg hm ?_ hdb)
  refine PySem.W.callWith_K (h₀ := X.base) I.ok.mod.kin hk (thn (ha pos pins s σ H _ I h) fun us s1 ⟨vs, H1, I1, r, q⟩ => ⟨I1.kIn, ?_⟩) he hpl
  exact run_fn F hr hb hd hx I1 r q
theorem pe_call0 (F : FnOk X.prog X.w X.K X.mg X.base CX k f fd ps sp) (hr : Room k X.A) (hg : Gl X x) (hm : X.mg x = some (.ref f)) (hk : PySem.W.keepIn X.K (.ref f) = true) (hb : Binds X.K fd ps ds) (hd : Vals dvs ds) (hx : Passes CX X E)
    (hdb : (x == ("__debug__" : Str)) = false := by decide) : PE X (.Call (.Name x p) [] [] pos) (tCall sp dvs E tNil) := by
  intro pins s σ H Q I h
  refine wpAny_Call_Name_kw (ld_glob I hg hm ?_ hdb)
  exact PySem.W.callWith_K0 I.kIn hk (run_fn (us := []) F hr hb hd hx I .nil h)

/-- o.m(e, ..) -/
theorem pe_meth {pl : Sem Bool} (he : PE X o ta) (c : Cls X.K C) (hm : Meth X.K C m f) (F : FnOk X.prog X.w X.K X.mg X.base CX k f fd ps sp) (hr : Room k X.A) (hb : Binds X.K fd ps ds) (hd : Vals dvs ds) (hx : Passes CX X E) (ha : PA X (e :: es) t)
    (hst : starEach (e :: es) X.env = (false, eval e X.env) :: starEach es X.env := by rfl) (hpl : (backTo pos (starEach es X.env)).any (·.1) = false := by rfl)
    (ht : eval (.Call (.Attribute o m apos) (e :: es) [] pos) X.env = (do
      let ov ← eval o X.env
      standAt apos.atName
      let (f, first) ← holding [ov] (getMethod ov m pl)
      callWith pos f first (backTo pos (starEach (e :: es) X.env)) (backToKw pos (keywordEach [] X.env))) := by rfl) :
    PE X (.Call (.Attribute o m apos) (e :: es) [] pos) (tMeth C m sp dvs E ta t) := by
  intro pins s σ H Q I h
  refine PySem.W.methodCall_KW (pl := pl) (thn (he pins s σ H _ I h) fun u s1 ⟨x, H1, I1, rx, a, dx, fs, ex, ea, l, q⟩ => ?_) ht
  subst ex
  obtain rfl : u = Value.ref a := rx
  refine getmeth_ok I1 ea c hm l ?_
  refine PySem.W.callWith_K (first := [.ref a]) (h₀ := X.base) I.ok.mod.kin hm.kp (thn (ha pos pins s1 σ H1 _ I1 q) fun us s2 ⟨vs, H2, I2, r, q2⟩ => ⟨I2.kIn, ?_⟩) hst hpl
  exact run_fn (us := .ref a :: us) (vs := .ref a :: vs) F hr hb hd hx I2 (.cons rfl r) q2
/-- o.m() -/
theorem pe_meth0 {pl : Sem Bool} (he : PE X o ta) (c : Cls X.K C) (hm : Meth X.K C m f) (F : FnOk X.prog X.w X.K X.mg X.base CX k f fd ps sp) (hr : Room k X.A) (hb : Binds X.K fd ps ds) (hd : Vals dvs ds) (hx : Passes CX X E)
    (ht : eval (.Call (.Attribute o m apos) [] [] pos) X.env = (do
      let ov ← eval o X.env
      standAt apos.atName
      let (f, first) ← holding [ov] (getMethod ov m pl)
      callWith pos f first (backTo pos (starEach [] X.env)) (backToKw pos (keywordEach [] X.env))) := by rfl) :
    PE X (.Call (.Attribute o m apos) [] [] pos) (tMeth C m sp dvs E ta tNil) := by
  intro pins s σ H Q I h
  refine PySem.W.methodCall_KW (pl := pl) (thn (he pins s σ H _ I h) fun u s1 ⟨x, H1, I1, rx, a, dx, fs, ex, ea, l, q⟩ => ?_) ht
  subst ex
  obtain rfl : u = Value.ref a := rx
  refine getmeth_ok I1 ea c hm l ?_
  exact PySem.W.callWith_K0 (first := [.ref a]) I1.kIn hm.kp (run_fn (us := [.ref a]) (vs := [.ref a]) F hr hb hd hx I1 (.cons rfl .nil) q)

/-- what a class must have to be made -/
structure Mk (K : PySem.W.Frag) (C f : Addr) : Prop where
  makes : PySem.W.makesIn K C = true
  init : PySem.W.findIn K (.ref C) "__init__" = some (some (.ref f))
  fn : PySem.W.isFn K (.ref f) = true
  kp : PySem.W.keepIn K (.ref C) = true

theorem run_make {pins : List (Addr × Obj)} {σ : St} {H : Hp} {s : Shared} {Q : VK} {us : List Value} {vs : List V} (M : Mk X.K C f) (F : FnOk X.prog X.w X.K X.mg X.base CX k f fd ps sp) (hr : Room (k + 1) X.A) (hb : Binds X.K fd ps ds) (hd : Vals dvs ds)
    (hx : Passes CX X E) (I : Inv X pins σ H s) (r : Vals vs us)
    (h : ∀ x dx, H x = none → H dx = none → dx ≠ x → sp (.ref x :: (vs ++ dvs)) (upd (upd H dx (.own x)) x (.ins C dx [])) (fun v H2 => v = .non ∧ Q (.ref x) H2) E) :
    wpAny (model X.prog X.w) X.A (call (.ref C) us) (EP X pins σ Q) X.xe s := by
  have hq := h (s.heap.objs.size + 1) s.heap.objs.size (I.hok.fresh (Nat.le_succ _)) (I.hok.fresh (Nat.le_refl _)) (Nat.ne_of_lt (Nat.lt_succ_self _))
  have I2 := Inv.made (C := C) I
  have r2 : Vals (V.ref (s.heap.objs.size + 1) :: (vs ++ dvs)) (Value.ref (s.heap.objs.size + 1) :: (us ++ ds)) := .cons rfl (r.append hd)
  have hl : (Value.ref (s.heap.objs.size + 1) :: us ++ ds).length = ps.length := by
    have e := r2.length
    rw [F.len _ _ _ _ hq] at e
    exact e.symm
  refine wpAny_call (make_map (f := f) I.kIn M.makes M.init (beq_iff_eq.mp M.fn) (codeAny_mono (F.run _ X.stack _ _ ⟨Value.ref (s.heap.objs.size + 1) :: us, []⟩ (Value.ref (s.heap.objs.size + 1) :: (us ++ ds)) _ _ E (hr.make C us [])
    (I2.env0.make C us []) (hb _ (Value.ref (s.heap.objs.size + 1) :: us) I2.kIn hl) r2 hq) fun r s' hq' => ?_))
  cases r with
  | error e => exact hx pins σ _ _ e s' I2 hq'
  | ok fl =>
    cases fl with
    | ret u =>
      obtain ⟨v, H', I3, rv, ev, q3⟩ := I2.after hq'
      subst ev
      exact ⟨rv, ⟨V.ref (s.heap.objs.size + 1), H', I3, rfl, q3⟩⟩
    | next => exact False.elim hq'
    | brk => exact False.elim hq'
    | cont => exact False.elim hq'
theorem pe_make (M : Mk X.K C f) (F : FnOk X.prog X.w X.K X.mg X.base CX k f fd ps sp) (hr : Room (k + 1) X.A) (hg : Gl X x) (hm : X.mg x = some (.ref C)) (hb : Binds X.K fd ps ds) (hd : Vals dvs ds) (hx : Passes CX X E)
    (ha : PA X (e :: es) t) (hdb : (x == ("__debug__" : Str)) = false := by decide) (he : starEach (e :: es) X.env = (false, eval e X.env) :: starEach es X.env := by rfl) (hpl : (backTo pos (starEach es X.env)).any (·.1) = false := by rfl) :
    PE X (.Call (.Name x p) (e :: es) [] pos) (tMake C sp dvs E t) := by
  intro pins s σ H Q I h
  refine wpAny_Call_Name_kw (ld_glob I hg hm ?_ hdb)
  refine PySem.W.callWith_K (h₀ := X.base) I.ok.mod.kin M.kp (thn (ha pos pins s σ H _ I h) fun us s1 ⟨vs, H1, I1, r, q⟩ => ⟨I1.kIn, ?_⟩) he hpl
  exact run_make M F hr hb hd hx I1 r q
theorem pe_make0 (M : Mk X.K C f) (F : FnOk X.prog X.w X.K X.mg X.base CX k f fd ps sp) (hr : Room (k + 1) X.A) (hg : Gl X x) (hm : X.mg x = some (.ref C)) (hb : Binds X.K fd ps ds) (hd : Vals dvs ds) (hx : Passes CX X E)
    (hdb : (x == ("__debug__" : Str)) = false := by decide) : PE X (.Call (.Name x p) [] [] pos) (tMake C sp dvs E tNil) := by
  intro pins s σ H Q I h
  refine wpAny_Call_Name_kw (ld_glob I hg hm ?_ hdb)
  exact PySem.W.callWith_K0 I.kIn M.kp (run_make (us := []) M F hr hb hd hx I .nil h)
end

/-! ### keywords -/
/-- the values of the keywords, from the left -/
def PK (X : Cx) (kws : List Keyword) (t : TA) : Prop :=
  ∀ (pos : Pos) (pins : List (Addr × Obj)) (s : Shared) (σ : St) (H : Hp) (Q : List V → Hp → Prop), Inv X pins σ H s → t σ H Q → wpAny (model X.prog X.w) X.A (evalAll ((backToKw pos (keywordEach kws X.env)).map (·.2))) (AP X pins σ Q) X.xe s
section
variable {X : Cx} {CX : CXT} {k : Nat} {f C : Addr} {fd : FuncData} {ps ks : List Str} {sp : Sp} {E : XK} {x m : Str} {p pos apos kpos : Pos} {e o : Expr} {es : List Expr} {kws : List Keyword} {te ta : TE} {t tk : TA} {nm : Option Str}
theorem pk_nil : PK X [] tNil := fun _ _ _ _ H Q I h => wpAny_evalAll_nil ⟨[], H, I, .nil, h⟩
theorem pk_cons (ha : PE X e te) (hr : PK X kws t) : PK X (⟨nm, e, kpos⟩ :: kws) (tCons te t) := by
  intro pos pins s σ H Q I h
  show wpAny _ _ (evalAll ((do let v ← eval e X.env; standAt pos; pure v) :: (backToKw pos (keywordEach kws X.env)).map (·.2))) _ _ s
  refine wpAny_evalAll_cons (wpAny_bind (thn (ha pins s σ H _ I h) fun u s1 ⟨x, H1, I1, r1, q1⟩ => wpAny_bind (wpAny_standAt (wpAny_pure ?_))))
  exact thn (hr pos pins s1 σ H1 _ I1 q1) fun us s2 ⟨xs, H2, I2, r2, q2⟩ => ⟨x :: xs, H2, I2, .cons r1 r2, q2⟩

/-- how a call with keywords binds: g puts the positional values us and the keywords' values ws (names ks) in the parameters' order, defaults among them -/
structure KBinds (K : PySem.W.Frag) (fd : FuncData) (ps ks : List Str) (g : List Value → List Value → List Value) (gV : List V → List V → List V) : Prop where
  to : ∀ (s : Shared) (us ws : List Value), K.In s.heap → (g us ws).length = ps.length → BindsTo s fd ⟨us, ks.zip ws⟩ (ps.zip (g us ws))
  rel : ∀ {vs : List V} {us : List Value} {zs : List V} {ws : List Value}, Vals vs us → Vals zs ws → Vals (gV vs zs) (g us ws)
def tCallK (sp : Sp) (gV : List V → List V → List V) (E : XK) (t tk : TA) : TE := fun σ H Q => t σ H fun vs H1 => tk σ H1 fun zs H2 => sp (gV vs zs) H2 Q E
variable {g : List Value → List Value → List Value} {gV : List V → List V → List V}
theorem run_fnk {pins : List (Addr × Obj)} {σ : St} {H : Hp} {s : Shared} {Q : VK} {us ws : List Value} {vs zs : List V} (F : FnOk X.prog X.w X.K X.mg X.base CX k f fd ps sp) (hr : Room k X.A) (hb : KBinds X.K fd ps ks g gV) (hx : Passes CX X E)
    (I : Inv X pins σ H s) (r : Vals vs us) (rz : Vals zs ws) (h : sp (gV vs zs) H Q E) : wpAny (model X.prog X.w) X.A (call (.ref f) us (ks.zip ws)) (EP X pins σ Q) X.xe s := by
  have r2 := hb.rel r rz
  have hl : (g us ws).length = ps.length := by rw [← r2.length]; exact F.len _ _ _ _ h
  refine wpAny_call (codeAny_mono (F.run X.A X.stack s H ⟨us, ks.zip ws⟩ (g us ws) (gV vs zs) Q E hr I.env0 (hb.to s us ws I.kIn hl) r2 h) fun r s' hq => ?_)
  cases r with
  | error e => exact hx pins σ H s e s' I hq
  | ok fl =>
    cases fl with
    | ret u => exact I.after hq
    | next => exact False.elim hq
    | brk => exact False.elim hq
    | cont => exact False.elim hq
/-- f(e, .., k = v, ..) -/
theorem pe_callK (F : FnOk X.prog X.w X.K X.mg X.base CX k f fd ps sp) (hr : Room k X.A) (hg : Gl X x) (hm : X.mg x = some (.ref f)) (hk : PySem.W.keepIn X.K (.ref f) = true) (hb : KBinds X.K fd ps ks g gV) (hx : Passes CX X E)
    (ha : PA X (e :: es) t) (hkw : PK X kws tk) (hall : (backToKw pos (keywordEach kws X.env)).all (·.1.isSome) = true := by rfl) (hks : (backToKw pos (keywordEach kws X.env)).filterMap (·.1) = ks := by rfl)
    (hdb : (x == ("__debug__" : Str)) = false := by decide) (he : starEach (e :: es) X.env = (false, eval e X.env) :: starEach es X.env := by rfl)
    (hpl : ((backTo pos (starEach (e :: es) X.env)).any (·.1) || (backToKw pos (keywordEach kws X.env)).any (·.1.isNone)) = false := by rfl) :
    PE X (.Call (.Name x p) (e :: es) kws pos) (tCallK sp gV E t tk) := by
  intro pins s σ H Q I h
  refine wpAny_Call_Name_kw (ld_glob I hg hm ?_ hdb)
  refine PySem.W.callWith_KW (h₀ := X.base) I.ok.mod.kin hk hall (thn (ha pos pins s σ H _ I h) fun us s1 ⟨vs, H1, I1, r, q⟩ => ?_) hpl he
  refine thn (hkw pos pins s1 σ H1 _ I1 q) fun ws s2 ⟨zs, H2, I2, rz, q2⟩ => ⟨I2.kIn, ?_⟩
  rw [hks]
  exact run_fnk F hr hb hx I2 r rz q2
end

/-! ### a def's body keeps its promise -/
/-- names: the parameters first -/
structure FnScope (N P : List Str) (sc : Scope) : Prop where
  kind : sc.kind = .function
  co : sc.isCoroutine = false
  gen : sc.isGenerator = false
  nd : N.Nodup
  pre : N.take P.length = P
  par : ∀ x ∈ P, sc.names.lookup x = some .local ∨ sc.names.lookup x = some .cell
  nofree : ∀ y ∈ sc.names, y.2 ≠ .free

theorem bindL_out {kindOf : Str → Option NameKind} {x : Str} : ∀ {binds : List (Str × Value)} {m : Str → Option Value}, (∀ v, (x, v) ∉ binds) → bindL kindOf binds m x = m x
  | [], _, _ => rfl
  | (n, v) :: r, m, h => by
    unfold bindL
    rw [bindL_out fun w hw => h w (List.mem_cons_of_mem _ hw)]
    split
    · have : x ≠ n := by rintro rfl; exact h v List.mem_cons_self
      simp [this]
    · rfl
theorem bindC_out {kindOf : Str → Option NameKind} {x : Str} : ∀ {binds : List (Str × Value)} {m : Str → Option Value}, (∀ v, (x, v) ∉ binds) → bindC kindOf binds m x = m x
  | [], _, _ => rfl
  | (n, v) :: r, m, h => by
    unfold bindC
    rw [bindC_out fun w hw => h w (List.mem_cons_of_mem _ hw)]
    split
    · rfl
    · have : x ≠ n := by rintro rfl; exact h v List.mem_cons_self
      simp [this]
theorem bindL_get {kindOf : Str → Option NameKind} {x : Str} {v : Value} : ∀ {P : List Str} {vs : List Value} {i : Nat} {m : Str → Option Value}, P.Nodup → P[i]? = some x → vs[i]? = some v → kindOf x = some .local →
    bindL kindOf (P.zip vs) m x = some v
  | [], _, _, _, _, h, _, _ => by simp at h
  | _ :: _, [], _, _, _, _, h, _ => by simp at h
  | p :: P, w :: vs, 0, m, nd, h1, h2, hk => by
    simp at h1 h2; subst h1; subst h2
    show bindL kindOf ((p, w) :: P.zip vs) m p = _
    unfold bindL
    rw [bindL_out fun v hv => (List.nodup_cons.mp nd).1 (List.of_mem_zip hv).1, if_pos hk]
    simp
  | p :: P, w :: vs, i + 1, m, nd, h1, h2, hk => by
    show bindL kindOf ((p, w) :: P.zip vs) m x = _
    unfold bindL
    exact bindL_get (i := i) (List.nodup_cons.mp nd).2 (by simpa using h1) (by simpa using h2) hk
theorem bindC_get {kindOf : Str → Option NameKind} {x : Str} {v : Value} : ∀ {P : List Str} {vs : List Value} {i : Nat} {m : Str → Option Value}, P.Nodup → P[i]? = some x → vs[i]? = some v → kindOf x ≠ some .local →
    bindC kindOf (P.zip vs) m x = some v
  | [], _, _, _, _, h, _, _ => by simp at h
  | _ :: _, [], _, _, _, _, h, _ => by simp at h
  | p :: P, w :: vs, 0, m, nd, h1, h2, hk => by
    simp at h1 h2; subst h1; subst h2
    show bindC kindOf ((p, w) :: P.zip vs) m p = _
    unfold bindC
    rw [bindC_out fun v hv => (List.nodup_cons.mp nd).1 (List.of_mem_zip hv).1, if_neg hk]
    simp
  | p :: P, w :: vs, i + 1, m, nd, h1, h2, hk => by
    show bindC kindOf ((p, w) :: P.zip vs) m x = _
    unfold bindC
    exact bindC_get (i := i) (List.nodup_cons.mp nd).2 (by simpa using h1) (by simpa using h2) hk

/-- the names' values at the entry -/
def start (N : List Str) (vs : List V) : St := vs.map some ++ List.replicate (N.length - vs.length) none

/-- the context of a def's body, at its entry; an exception leaves the frame, then lies as CX says -/
def cxOf (CX : CXT) (P : Program) (w : World) (K : PySem.W.Frag) (mg : Str → Option Value) (base : Heap) (N : List Str) (qual : Str) (scope : Scope) (f : Addr) (cd : Value) (A : Around) (outer : List Env) (s : Shared) (H : Hp) (E : XK) : Cx where
  prog := P
  w := w
  K := K
  mg := mg
  base := base
  A := A.deeper (envOfC qual scope s.heap.objs.size f cd)
  N := N
  s₀ := s
  H₀ := H
  env := envOfC qual scope s.heap.objs.size f cd
  outer := outer
  stack := envOfC qual scope s.heap.objs.size f cd :: outer
  ex := []
  calm := true
  fn := fun _ => true
  pn := []
  xe := fun e s' => wpAny (model P w) (A.deeper (envOfC qual scope s.heap.objs.size f cd)) (leaving (envOfC qual scope s.heap.objs.size f cd) e) (fun _ s'' => CX outer H s E e s'') (fun e' s'' => CX outer H s E e' s'') s'

theorem cell_has {sc : Scope} {n : Nat} {x : Str} (h : sc.names.lookup x = some .cell) : ∃ c, (cellsFrom n sc.names []).lookup x = some c := by
  have q := PySem.W.cellsFrom_some sc.names n [] (.inl h)
  exact Option.isSome_iff_exists.mp q

theorem inv_start {CX : CXT} {P : Program} {w : World} {K : PySem.W.Frag} {mg : Str → Option Value} {base : Heap} {N ps : List Str} {qual : Str} {scope : Scope} {f : Addr} {cd : Value} {A : Around} {outer : List Env} {s s1 : Shared} {H : Hp} {E : XK} {us : List Value} {vs : List V}
    (S : FnScope N ps scope) (hd : A.handled = none) (e0 : Env0 P w K mg base A outer s H) (hl : vs.length = ps.length) (r : Vals vs us)
    (x : InCallC s s.heap.objs.size (bindL (envOfC qual scope s.heap.objs.size f cd).kindOf (ps.zip us) fun _ => none) (cellsFrom (s.heap.objs.size + 1) scope.names []) (bindC (envOfC qual scope s.heap.objs.size f cd).kindOf (ps.zip us) fun _ => none) s1) :
    Inv (cxOf CX P w K mg base N qual scope f cd A outer s H E) [] (start N vs) H s1 := by
  have hpl : ps.length ≤ N.length := by have := congrArg List.length S.pre; rw [List.length_take] at this; omega
  obtain ⟨h1, tk, rfl, hk⟩ := x.done
  have noA : ∀ b : Addr, b ∉ (cxOf CX P w K mg base N qual scope f cd A outer s H E).ex := fun b z => absurd (show b ∈ ([] : List Addr) from z) (by simp)
  refine ⟨⟨e0.mod, S.kind, rfl, rfl, Nat.le_refl _, fun y z c h1 h2 => ?_, fun y hy => ?_, fun y c _ h => ?_, fun _ => hd, Around.frames_deeper e0.frames, .inr ⟨rfl, rfl⟩, fun b z => absurd z (noA b), e0.bs, e0.bsz, fun b _ _ => noA b, fun b z => absurd z (noA b), e0.funs, e0.frf⟩,
    rfl, e0.bare, Un.kept hk, ⟨_, x.toInCall.ns, fun i y v h1 h2 h3 => ?_⟩, fun y c h => ⟨_, x.cell y c h⟩, e0.hok.fresh (Nat.le_refl _), fun y c h => ?_, fun p hp => absurd (show p ∈ ([] : List (Addr × Obj)) from hp) (by simp), e0.hok.kept hk, ?_⟩
  · exact name_of_addr x.apart (PySem.mem_of_lookup h1) (PySem.mem_of_lookup h2)
  · have hy : scope.names.lookup y = some .cell ∨ scope.names.lookup y = some .free := hy
    rcases hy with hy | hy
    · exact cell_has hy
    · exact absurd rfl (S.nofree _ (PySem.mem_of_lookup hy))
  · exact Nat.le_of_lt (x.above y c (PySem.mem_of_lookup h))
  · have hi : i < vs.length := by
      unfold start at h2
      by_cases hi : i < vs.length
      · exact hi
      · rw [List.getElem?_append_right (by simpa using hi)] at h2
        rw [List.getElem?_replicate] at h2
        split at h2 <;> cases h2
    have ha : vs[i]? = some v := by
      unfold start at h2
      rw [List.getElem?_append_left (by simpa using hi), List.getElem?_map] at h2
      cases e : vs[i]? with
      | none => rw [e] at h2; cases h2
      | some a => rw [e] at h2; cases h2; rfl
    obtain ⟨u, hu, rv⟩ := r.get ha
    have hp : ps[i]? = some y := by
      rw [← S.pre, List.getElem?_take_of_lt (by omega)]; exact h1
    have ndP : ps.Nodup := by rw [← S.pre]; exact S.nd.sublist (List.take_sublist _ _)
    refine ⟨u, rv, ?_⟩
    rcases S.par y (List.mem_of_getElem? hp) with k | k
    · exact .inl ⟨k, bindL_get ndP hp hu k⟩
    · obtain ⟨c, e⟩ := cell_has (n := s.heap.objs.size + 1) k
      refine .inr ⟨.inl k, c, e, ?_⟩
      have q := x.cell y c e
      rw [bindC_get ndP hp hu (by show scope.names.lookup y ≠ _; rw [k]; decide)] at q
      exact q
  · exact e0.hok.fresh (Nat.le_of_lt (x.above y c (PySem.mem_of_lookup h)))
  · unfold start
    show _ = N.length
    rw [List.length_append, List.length_map, List.length_replicate]
    omega

/-- THE RULE: a def (or a method) of the text, by its body. The body's reading t is chosen for each entry; it is run at the parameters' values -/
theorem fn_of {CX : CXT} {P : Program} {w : World} {K : PySem.W.Frag} {mg : Str → Option Value} {base : Heap} {k : Nat} {f : Addr} {name qual : Str} {params : Arguments} {body : List Stmt} {scope : Scope} {dV kV doc pm cdv ct oc : Value} {an od : Option Addr}
    {osl : Array (Option Value)} {N ps : List Str} {sp : Sp} (lk : K.lookup f = some ⟨oc, od, .func (PySem.W.fnOf name qual params body scope dV kV doc pm an cdv ct), osl⟩) (hcd : PySem.W.codeIn K cdv qual = true) (S : FnScope N ps scope)
    (len : ∀ vs H Q E, sp vs H Q E → vs.length = ps.length)
    (hbody : ∀ (A : Around) (outer : List Env) (s : Shared) (H : Hp) (vs : List V) (Q : VK) (E : XK), Room k (A.deeper (envOfC qual scope s.heap.objs.size f cdv)) → sp vs H Q E →
      ∃ t, PSs (cxOf CX P w K mg base N qual scope f cdv A outer s H E) body t ∧ t { nx := fun _ H' => Q .non H', rt := Q } (start N vs) H) :
    FnOk P w K mg base CX (k + 1) f (PySem.W.fnOf name qual params body scope dV kV doc pm an cdv ct) ps sp := by
  refine ⟨len, fun A outer s H args us vs Q E hr e0 hb r hsp => ?_⟩
  have hl := len _ _ _ _ hsp
  have KX : K.In s.heap := e0.mod.kin.keeps fun b o e => (e0.bs b o e).1
  have lim : s.heap.NoLimit := e0.mod.nolimit.keeps fun b o e => (e0.bs b o e).1
  have hkind : ∀ y ∈ ps.zip us, scope.names.lookup y.1 = some .local ∨ (scope.names.lookup y.1 = some .cell ∧ ((cellsFrom (s.heap.objs.size + 1) scope.names []).lookup y.1).isSome = true) := fun ⟨n, v⟩ hy => by
    rcases S.par n (List.of_mem_zip hy).1 with q | q
    · exact .inl q
    · exact .inr ⟨q, PySem.W.cellsFrom_some _ _ _ (.inl q)⟩
  refine codeAny_call_function hr.depth (KX _ _ lk) rfl S.co S.gen rfl (PySem.W.codeRec_of KX hcd) (hb _ _ _ _ ?_)
  refine wpAny_newFunctionEnv_cells S.kind hkind fun env he s1 x => ?_
  subst he
  refine ⟨lim.keeps x.toInCall.keep, codeAny_func ?_⟩
  obtain ⟨t, ht, hq⟩ := hbody A outer s H vs Q E (hr.deeper _) hsp
  have I : Inv (cxOf CX P w K mg base N qual scope f cdv A outer s H E) [] (start N vs) H s1 := inv_start S hr.hd e0 hl r x
  refine wpAny_mono (ht [] s1 (start N vs) H _ I hq) (fun fl s' hs => ?_) fun e s' hs => hs
  have fin : ∀ {σ' : St} {H' : Hp} {v : V} {u : Value}, Inv (cxOf CX P w K mg base N qual scope f cdv A outer s H E) [] σ' H' s' → RelV v u → Q v H' → CE outer P w H s Q u s' :=
    fun {σ' H' v u} J rv q => ⟨v, H', J.os, J.bare, J.base, J.hok, rv, q⟩
  cases fl with
  | ret u =>
    obtain ⟨v, σ', H', J, rv, q⟩ := hs
    exact fin J rv q
  | next =>
    obtain ⟨σ', H', J, q⟩ := hs
    exact fin (v := V.non) (u := Value.none) J rfl q
  | brk =>
    obtain ⟨_, _, _, q⟩ := hs
    exact False.elim q
  | cont =>
    obtain ⟨_, _, _, q⟩ := hs
    exact False.elim q
end L2

namespace L2
open PySem PySem.Spec PyProof.Rows
section
variable {X : Cx} {x : Str} {p pos : Pos} {e : Expr} {es : List Expr} {t : TA} {id T : String} {r : List V → Hp → VK → Prop}

def tCB (r : List V → Hp → VK → Prop) (t : TA) : TE := fun σ H Q => t σ H fun vs H1 => r vs H1 Q
/-- f(e, ..), f a built-in function -/
theorem pe_callB (hc : CallR X (.builtin id) r) (hg : Gl X x) (hm : X.mg x = none) (hv : bootBuiltins x = some (.builtin id)) (ha : PA X (e :: es) t) (hn : x ≠ "__name__" := by decide) (hdb : (x == ("__debug__" : Str)) = false := by decide)
    (he : starEach (e :: es) X.env = (false, eval e X.env) :: starEach es X.env := by rfl) (hpl : (backTo pos (starEach es X.env)).any (·.1) = false := by rfl) : PE X (.Call (.Name x p) (e :: es) [] pos) (tCB r t) := by
  intro pins s σ H Q I h
  refine wpAny_Call_Name_kw (ld_blt I hg hm hv ?_ hn hdb)
  exact PyProof.Rows.callWith_builtin1 (thn (ha pos pins s σ H _ I h) fun us s1 ⟨vs, H1, I1, r1, q1⟩ => hc pins s1 σ H1 vs us Q I1 r1 q1) he hpl
/-- T(e, ..), T a built-in type -/
theorem pe_callTy (hc : CallR X (.type T) r) (hg : Gl X x) (hm : X.mg x = none) (hv : bootBuiltins x = some (.type T)) (ha : PA X (e :: es) t) (hn : x ≠ "__name__" := by decide) (hdb : (x == ("__debug__" : Str)) = false := by decide)
    (he : starEach (e :: es) X.env = (false, eval e X.env) :: starEach es X.env := by rfl) (hpl : (backTo pos (starEach es X.env)).any (·.1) = false := by rfl) : PE X (.Call (.Name x p) (e :: es) [] pos) (tCB r t) := by
  intro pins s σ H Q I h
  refine wpAny_Call_Name_kw (ld_blt I hg hm hv ?_ hn hdb)
  exact PyProof.Rows.callWith_type1 (thn (ha pos pins s σ H _ I h) fun us s1 ⟨vs, H1, I1, r1, q1⟩ => hc pins s1 σ H1 vs us Q I1 r1 q1) he hpl
/-- T() -/
theorem pe_callTy0 (hc : CallR X (.type T) r) (hg : Gl X x) (hm : X.mg x = none) (hv : bootBuiltins x = some (.type T)) (hn : x ≠ "__name__" := by decide) (hdb : (x == ("__debug__" : Str)) = false := by decide) :
    PE X (.Call (.Name x p) [] [] pos) (tCB r tNil) := by
  intro pins s σ H Q I h
  refine wpAny_Call_Name_kw (ld_blt I hg hm hv ?_ hn hdb)
  exact PyProof.Rows.callWith_type0 (hc pins s σ H [] [] Q I .nil h)
end
end L2

namespace HT
open PySem PyProof.Rows

/-- t < u of tuples of ints -/
def lexLt : List Int → List Int → Bool
  | [], [] => false
  | [], _ :: _ => true
  | _ :: _, [] => false
  | x :: xs, y :: ys => if x = y then lexLt xs ys else decide (x < y)
theorem lexLt_cons (x y : Int) (xs ys : List Int) : lexLt (x :: xs) (y :: ys) = if x = y then lexLt xs ys else decide (x < y) := rfl
theorem lexLt_nil_nil : lexLt [] [] = false := rfl
theorem lexLt_nil_cons (y : Int) (ys : List Int) : lexLt [] (y :: ys) = true := rfl
theorem lexLt_cons_nil (x : Int) (xs : List Int) : lexLt (x :: xs) [] = false := rfl

theorem eqAt_int (A : Around) (s : Shared) (a : Int) (t : Tok) (c : Int) (u : Tok) : ∃ e, SeqAt.EqAt A s (.int a t) (.int c u) e ∧ (e = true ↔ a = c) :=
  ⟨(a == c), SeqAt.EqAt.int_int a t c u, by simp⟩
theorem rcLt_int (A : Around) (s : Shared) (a : Int) (t : Tok) (c : Int) (u : Tok) (prog : Program) (w : World) (E : Value → Shared → Prop) (Q : Value → Shared → Prop) (h : Q (.bool (decide (a < c))) s) :
    wpAny (model prog w) A (richCompare .Lt (.int a t) (.int c u)) Q E s :=
  (PyProof.Rows.lt_int h : wpAny (model prog w) A (compareOp .Lt (.int a t) (.int c u)) Q E s)

section
open PySem.SeqAt
open PySem.AutoSeq1 (wpAny_loadPart')
open PySem.MeetsSeq PySem.MeetsSeq2 PySem.MeetsSeq3

theorem tuple_lt_ints (l b : Addr) (items items2 : Array Value) (n n2 : Nat) (dd dd2 : Option Addr) (sl sl2 : Array (Option Value)) (ns ms : List Int) (hi : IntsAre items.toList ns) (hj : IntsAre items2.toList ms) :
    Meets (Builtin.«tuple.__lt__» ⟨[.ref l, .ref b], []⟩)
      (fun _ R s => s.heap.get? l = some { cls := .type "tuple", dict := dd, data := .seq items n, slots := sl } ∧ s.heap.get? b = some { cls := .type "tuple", dict := dd2, data := .seq items2 n2, slots := sl2 } ∧
        R (.ok (.ret (.bool (lexLt ns ms)))) s) :=
  .of_wp fun prog w A R s h => by
    obtain ⟨hp, g, d, tk, os⟩ := s; obtain ⟨hl, hb, h⟩ := h
    have f2 := AutoSeq1.sub_tuple_tuple
    have z1 : items.size = ns.length := by rw [← hi.length]; simp
    have z2 : items2.size = ms.length := by rw [← hj.length]; simp
    wp_walk using wpAny_loadPart' hl, wpAny_loadPart' hb, wpAny_forIn_list _ (fun rest b s' => b.1 = none ∧ s' = ⟨hp, g, d, tk, os⟩ ∧ ∃ (vs ws : List Value) (ns' ms' : List Int), rest = vs.zip ws ∧
      IntsAre vs ns' ∧ IntsAre ws ms' ∧ ns'.length + items2.size = ms'.length + items.size ∧ R (.ok (.ret (.bool (lexLt ns' ms')))) ⟨hp, g, d, tk, os⟩) _
    case turn =>
      rintro ⟨y, x⟩ rest b s' ⟨hb', rfl, vs, ws, ns', ms', hz, hvi, hwi, hlen, hR⟩
      cases hvi with
      | nil => rw [List.zip_nil_left] at hz; cases hz
      | cons a t hvi' =>
        cases hwi with
        | nil => rw [List.zip_nil_right] at hz; cases hz
        | cons c u hwi' =>
          rw [List.zip_cons_cons] at hz
          injection hz with hyx hrest
          injection hyx with hy hx
          subst hy hx
          rw [lexLt_cons] at hR
          simp only [List.length_cons] at hlen
          obtain ⟨e, he, hiff⟩ := eqAt_int A.in1 ⟨hp, g, d, tk, os⟩ a t c u
          refine wpAny_bind (he prog w _ _ ?_)
          cases e with
          | true =>
            rw [if_pos (hiff.mp rfl)] at hR
            wp_walk
            exact ⟨rfl, rfl, _, _, _, _, hrest, hvi', hwi', by omega, hR⟩
          | false =>
            rw [if_neg (fun q => absurd (hiff.mpr q) Bool.false_ne_true)] at hR
            have hri := rcLt_int A.in1 ⟨hp, g, d, tk, os⟩ a t c u prog w
            wp_walk using hri
            exact ⟨_, rfl, by simpa using hR⟩
    case fin =>
      rintro ⟨b1, b2⟩ s' ⟨hb', rfl, vs, ws, ns', ms', hz, hvi, hwi, hlen, hR⟩
      simp only at hb'
      subst hb'
      have hv : lexLt ns' ms' = decide (items.size < items2.size) := by
        cases hvi with
        | nil =>
          cases hwi with
          | nil =>
            simp only [List.length_nil] at hlen
            rw [lexLt_nil_nil]
            exact (decide_eq_false (by omega)).symm
          | cons c u hw =>
            simp only [List.length_nil, List.length_cons] at hlen
            rw [lexLt_nil_cons]
            exact (decide_eq_true (by omega)).symm
        | cons a t hv =>
          cases hwi with
          | nil =>
            simp only [List.length_nil, List.length_cons] at hlen
            rw [lexLt_cons_nil]
            exact (decide_eq_false (by omega)).symm
          | cons c u hw =>
            rw [List.zip_cons_cons] at hz
            cases hz
      rw [hv] at hR
      wp_walk
      exact ⟨_, rfl, by simpa [Builtin.Tuple.tupleCompareSizes] using hR⟩
    case h =>
      exact ⟨rfl, rfl, items.toList, items2.toList, ns, ms, rfl, hi, hj, by omega, h⟩
end

section
variable {prog : Program} {w : World} {A : Around} {E : Value → Shared → Prop} {s : Shared}

theorem lt_tupInts {l b : Addr} {items items2 : Array Value} {ns ms : List Int} {Q : Value → Shared → Prop} (hl : IsTup s.heap l items) (hb : IsTup s.heap b items2) (hi : IntsAre items.toList ns) (hj : IntsAre items2.toList ms)
    (hu : A.units < cLine) (h : Q (.bool (lexLt ns ms)) s) : wpAny (model prog w) A (compareOp .Lt (.ref l) (.ref b)) Q E s := by
  obtain ⟨⟨cls, dd, data, sl⟩, ho, hc, n, hd⟩ := id hl
  obtain ⟨⟨cls2, dd2, data2, sl2⟩, ho2, hc2, n2, hd2⟩ := id hb
  simp only at hc hd hc2 hd2
  subst hc hd hc2 hd2
  exact richCompare_meets_room (op := .Lt) ⟨_, ho, rfl⟩ ⟨_, ho2, rfl⟩ PySem.F.slot_tuple_lt PySem.F.entry_tuple_lt (PySem.F.args_tuple_lt_2 _ _) (tuple_lt_ints l b items items2 n n2 dd dd2 sl sl2 ns ms hi hj)
    ⟨ho, ho2, show Value.bool (lexLt ns ms) ≠ Value.notImplemented ∧ Q (.bool (lexLt ns ms)) s from ⟨(fun x => nomatch x), h⟩⟩ hu

/-- t + u, t not empty -/
theorem cat_tup {t b : Addr} {vs ws : List Value} {Q : Value → Shared → Prop} (ht : IsTup s.heap t vs.toArray) (hb : IsTup s.heap b ws.toArray) (hv : vs ≠ [])
    (h1 : ws = [] → Q (.ref t) s) (h2 : ws ≠ [] → Q (.ref s.heap.objs.size) { s with heap := s.heap.push { cls := .type "tuple", data := .seq (vs ++ ws).toArray } })
    (hsz : vs.length + ws.length ≤ sizeLine) : wpAny (model prog w) A (binaryOp .Add (.ref t) (.ref b)) Q E s := by
  obtain ⟨⟨cls, dd, data, sl⟩, ho, hc, n, hd⟩ := id ht
  obtain ⟨⟨cls2, dd2, data2, sl2⟩, ho2, hc2, n2, hd2⟩ := id hb
  simp only at hc hd hc2 hd2
  subst hc hd hc2 hd2
  have e : vs.toArray ++ ws.toArray = (vs ++ ws).toArray := by simp
  by_cases hw : ws = []
  · exact concat_meets ⟨_, ho, rfl⟩ ⟨_, ho2, rfl⟩ noFill_tuple_add seq_tuple_add PySem.F.slot_tuple_add PySem.F.entry_tuple_add (PySem.F.args_tuple_add_2 _ _)
      (tuple_addW1 t b vs.toArray ws.toArray n n2 dd dd2 sl sl2 (by simpa using hv) (by simp [hw])) ⟨ho, ho2, h1 hw⟩
  · refine concat_meets ⟨_, ho, rfl⟩ ⟨_, ho2, rfl⟩ noFill_tuple_add seq_tuple_add PySem.F.slot_tuple_add PySem.F.entry_tuple_add (PySem.F.args_tuple_add_2 _ _)
      (tuple_addW2 t b vs.toArray ws.toArray n n2 dd dd2 sl sl2 (by simpa using hv) (by simpa using hw) (by rw [List.size_toArray, List.size_toArray]; exact hsz)) ⟨ho, ho2, ?_⟩
    rw [e]
    exact h2 hw

/-! ### t[a:b], not the whole -/
/-- a slice's bound as a place among n (d where it is left out) -/
def sIx (n d : Nat) : Option Int → Nat
  | none => d
  | some v => if v < 0 then (v + (n : Int)).toNat else min v.toNat n
theorem sIx_none (n d : Nat) : sIx n d none = d := rfl
theorem sIx_nat (n d k : Nat) : sIx n d (some (k : Int)) = min k n := by
  show (if (k : Int) < 0 then ((k : Int) + (n : Int)).toNat else min (k : Int).toNat n) = min k n
  rw [if_neg (by omega), Int.toNat_natCast]
theorem sIx_le (n d : Nat) (hd : d ≤ n) (o : Option Int) : sIx n d o ≤ n := by
  cases o with
  | none => exact hd
  | some v =>
    show (if v < 0 then (v + (n : Int)).toNat else min v.toNat n) ≤ n
    by_cases hv : v < 0
    · rw [if_pos hv]; omega
    · rw [if_neg hv]; exact Nat.min_le_right _ _
theorem clip_eq (v : Int) (n d : Nat) : (if v < 0 then max (v + (n : Int)) 0 else min v (n : Int)) = ((sIx n d (some v) : Nat) : Int) := by
  show (if v < 0 then max (v + (n : Int)) 0 else min v (n : Int)) = (((if v < 0 then (v + (n : Int)).toNat else min v.toNat n) : Nat) : Int)
  by_cases hv : v < 0
  · simp only [if_pos hv]; omega
  · simp only [if_neg hv]; omega
theorem adjust_gen (lo hi : Option Int) (n : Nat) : Builtin.Slice.sliceAdjust lo hi 1 (n : Int) = (((sIx n 0 lo : Nat) : Int), ((sIx n n hi : Nat) : Int)) := by
  have h1 : ¬ ((1 : Int) < 0) := by omega
  unfold Builtin.Slice.sliceAdjust
  simp only [h1, if_false]
  refine Prod.ext ?_ ?_
  · cases lo with
    | none => rfl
    | some v => exact clip_eq v n 0
  · cases hi with
    | none => rfl
    | some v => exact clip_eq v n n
theorem places_gen (i j : Nat) : Builtin.Slice.slicePlaces (i : Int) (j : Int) 1 = j - i := by
  unfold Builtin.Slice.slicePlaces
  have h1 : (1 : Int) > 0 := by omega
  simp only [h1, if_true, Int.ediv_one]
  split <;> omega
theorem slicePart_ {v : Value} {o : Option Int} {Q : Option Int → Shared → Prop} (p : IsPart v o) (h : Q o s) : wpAny (model prog w) A (Builtin.Slice.slicePartIndex v) Q E s := by
  cases p with
  | none => exact slicePart_none h
  | int i t => exact slicePart_int h
theorem sliceApplied_gen {sl : Addr} {vl vu : Value} {lo hi : Option Int} {n : Nat} {Q : Int × Int × Nat → Shared → Prop} (hs : s.heap.IsSliceOf sl vl vu .none) (pl : IsPart vl lo) (pu : IsPart vu hi)
    (h : Q (((sIx n 0 lo : Nat) : Int), 1, sIx n n hi - sIx n 0 lo) s) : wpAny (model prog w) A (Builtin.Slice.sliceApplied (.ref sl) (pure (n : Int))) Q E s := by
  obtain ⟨os, hos, hcs, hds⟩ := id hs
  unfold Builtin.Slice.sliceApplied Builtin.Slice.sliceFields
  refine wpAny_bind (wpAny_bind (wpAny_field hos hds (x := vl) rfl (wpAny_bind (wpAny_field hos hds (x := vu) rfl (wpAny_bind (wpAny_field hos hds (x := .none) rfl (wpAny_pure ?_)))))))
  refine wpAny_bind (slicePart_none ?_)
  show wpAny _ _ (if ((1 : Int) == 0) = true then _ else _) _ _ s
  rw [if_neg (by decide)]
  refine wpAny_bind (slicePart_ pl (wpAny_bind (slicePart_ pu (wpAny_bind (wpAny_pure ?_)))))
  show wpAny _ _ (match Builtin.Slice.sliceAdjust lo hi 1 (n : Int) with | (lo, hi) => pure (lo, (1 : Int), Builtin.Slice.slicePlaces lo hi 1)) _ _ s
  rw [adjust_gen lo hi n]
  show wpAny _ _ (pure (((sIx n 0 lo : Nat) : Int), (1 : Int), Builtin.Slice.slicePlaces ((sIx n 0 lo : Nat) : Int) ((sIx n n hi : Nat) : Int) 1)) _ _ s
  rw [places_gen]
  exact wpAny_pure h
theorem pick_gen (xs : Array Value) (i k : Nat) : ((List.range k).filterMap fun (m : Nat) => xs[((i : Int) + (m : Int) * 1).toNat]?).toArray = ((xs.toList.drop i).take k).toArray := by
  have e : (fun (m : Nat) => xs[((i : Int) + (m : Int) * 1).toNat]?) = fun m => xs[i + m]? := by
    funext m
    have : ((i : Int) + (m : Int) * 1).toNat = i + m := by omega
    rw [this]
  rw [e]
  have := pick_run xs i k
  rw [List.filterMap_map] at this
  have e2 : ((fun x => xs[x]?) ∘ fun x => i + x) = fun m => xs[i + m]? := rfl
  rw [e2] at this
  rw [this]

theorem getItem_tuple_cut {t sl : Addr} {items : Array Value} {vl vu : Value} {lo hi : Option Int} {Q : Value → Shared → Prop} (ht : IsTup s.heap t items) (hs : s.heap.IsSliceOf sl vl vu .none) (pl : IsPart vl lo) (pu : IsPart vu hi)
    (hw : ¬ (sIx items.size 0 lo = 0 ∧ sIx items.size items.size hi = items.size))
    (h : Q (.ref s.heap.objs.size) { s with heap := s.heap.push { cls := .type "tuple", data := .seq ((items.toList.drop (sIx items.size 0 lo)).take (sIx items.size items.size hi - sIx items.size 0 lo)).toArray } })
    (hsz : items.size ≤ sizeLine) : wpAny (model prog w) A (getItem (.ref t) (.ref sl)) Q E s := by
  have htake : sizeOk (.seq ((items.toList.drop (sIx items.size 0 lo)).take (sIx items.size items.size hi - sIx items.size 0 lo)).toArray) := by
    show ((items.toList.drop (sIx items.size 0 lo)).take (sIx items.size items.size hi - sIx items.size 0 lo)).toArray.size ≤ sizeLine
    rw [List.size_toArray, List.length_take, List.length_drop, Array.length_toList]
    omega
  have hj : sIx items.size items.size hi ≤ items.size := sIx_le _ _ (Nat.le_refl _) hi
  obtain ⟨os, hos, hcs, hds⟩ := id hs
  have hTs : s.TypeIs (.ref sl) "slice" := ⟨os, hos, hcs⟩
  unfold getItem
  try with_reducible refine wpAny_holding ?_
  first | refine wpAny_bind (wpAny_pure ?_) | skip
  refine wpAny_bind (wpAny_sequenceKey ht.typeIs (by decide) ?_)
  refine wpAny_bind (wpAny_callSpecial?_slot (name := Str.ofString "__getitem__") ht.typeIs PyProof.Rows.slot_tuple_getitem
    (wpAny_call_entry PyProof.Rows.slot_tuple_getitem ht.typeIs entry_tuple_getitem ?_ (args_tuple_getitem _ _)))
  show wpAny _ _ (Builtin.Tuple.tupleItemsOf (.ref t) >>= _) _ _ s
  refine wpAny_bind (tupleItemsOf_ ht ?_)
  refine wpAny_bind (wpAny_typeOf hTs ?_)
  rw [if_pos (by decide)]
  refine wpAny_bind (sliceApplied_gen hs pl pu ?_)
  have hno : ¬ ((((sIx items.size 0 lo : Nat) : Int) == 0 && (1 : Int) == 1 && (sIx items.size items.size hi - sIx items.size 0 lo) == items.size) = true) := by
    intro q
    rw [Bool.and_eq_true, Bool.and_eq_true] at q
    have q1 : ((sIx items.size 0 lo : Nat) : Int) = 0 := eq_of_beq q.1.1
    have q2 : sIx items.size items.size hi - sIx items.size 0 lo = items.size := eq_of_beq q.2
    exact hw ⟨by omega, by omega⟩
  show wpAny _ _ (if (((sIx items.size 0 lo : Nat) : Int) == 0 && (1 : Int) == 1 && (sIx items.size items.size hi - sIx items.size 0 lo) == items.size) = true then _ else _) _ _ s
  rw [if_neg hno, pick_gen]
  first
    | exact wpAny_bind (m := Builtin.Tuple.tupleExact _) (wpAny_newObj_type (wpAny_pure ⟨_, rfl, wpAny_pure h⟩) htake)
    | exact wpAny_bind (m := Builtin.Tuple.tupleExact _) (wpAny_newObj_type (wpAny_bind (wpAny_pure (wpAny_pure ⟨_, rfl, wpAny_pure h⟩))) htake)
    | exact wpAny_bind (wpAny_bind (m := Builtin.Tuple.tupleExact _) (wpAny_newObj_type (wpAny_pure (wpAny_pure ⟨_, rfl, wpAny_pure h⟩)) htake))
    | exact wpAny_bind (wpAny_bind (m := Builtin.Tuple.tupleExact _) (wpAny_newObj_type (wpAny_pure ⟨_, rfl, wpAny_pure h⟩) htake))
end
end HT

namespace L2
open PySem PySem.Spec PyProof.Rows

/-! ### the parts of a slice -/
abbrev TO := St → Hp → (Option Int → Hp → Prop) → Prop
/-- a slice's part (left out, or an int) -/
def PO (X : Cx) (e : Option Expr) (t : TO) : Prop :=
  ∀ (pins : List (Addr × Obj)) (s : Shared) (σ : St) (H : Hp) (Q : Option Int → Hp → Prop), Inv X pins σ H s → t σ H Q →
    wpAny (model X.prog X.w) X.A (evalPart e X.env) (fun u s' => ∃ o H', Inv X pins σ H' s' ∧ IsPart u o ∧ Q o H') X.xe s
def tNoPart : TO := fun _ H Q => Q none H
def tPart (t : TE) : TO := fun σ H Q => t σ H fun x H1 => ∃ i, x = .int i ∧ Q (some i) H1

theorem intsAre_of {ns : List Int} : ∀ {us : List Value}, Vals (ns.map V.int) us → IntsAre us ns := by
  induction ns with
  | nil => intro us r; rw [List.map_nil] at r; cases r; exact .nil
  | cons n ns ih =>
    intro us r
    rw [List.map_cons] at r
    cases r with
    | cons r1 r2 =>
      obtain ⟨t, e⟩ := r1
      subst e
      exact .cons n t (ih r2)

section
variable {X : Cx} {e : Expr} {te : TE} {lo hi : Option Expr} {tl th : TO} {pos p2 : Pos}

theorem po_none : PO X none tNoPart := by
  intro pins s σ H Q I h
  rw [evalPart_none]
  exact wpAny_pure ⟨none, H, I, .none, h⟩
theorem po_some (h : PE X e te) : PO X (some e) (tPart te) := by
  intro pins s σ H Q I hw
  rw [evalPart_some]
  refine thn (h pins s σ H _ I hw) fun u s1 ⟨x, H1, I1, r1, q1⟩ => ?_
  obtain ⟨i, rfl, q⟩ := q1
  obtain ⟨t, rfl⟩ := r1
  exact ⟨some i, H1, I1, .int i t, q⟩

/-- what a slice of a value is, by values: the slice object stands at sl -/
def SlR (X : Cx) (r : V → Option Int → Option Int → Hp → VK → Prop) : Prop :=
  ∀ (pins : List (Addr × Obj)) (s : Shared) (σ : St) (H : Hp) (x : V) (v vl vu : Value) (lo hi : Option Int) (sl : Addr) (Q : VK), Inv X pins σ H s → RelV x v → s.heap.IsSliceOf sl vl vu .none → IsPart vl lo → IsPart vu hi → r x lo hi H Q →
    ∃ T id, typeLookup (.type T) "__getitem__" = pure (some (.builtin id)) ∧ s.TypeIs v T ∧ wpAny (model X.prog X.w) X.A (getItem v (.ref sl)) (EP X pins σ Q) X.xe s
theorem SlR.or {r r' : V → Option Int → Option Int → Hp → VK → Prop} (h : SlR X r) (h' : SlR X r') : SlR X (fun x lo hi H Q => r x lo hi H Q ∨ r' x lo hi H Q) := by
  intro pins s σ H x v vl vu lo hi sl Q I rx hs pl pu q
  rcases q with q | q
  · exact h pins s σ H x v vl vu lo hi sl Q I rx hs pl pu q
  · exact h' pins s σ H x v vl vu lo hi sl Q I rx hs pl pu q
def tSl (r : V → Option Int → Option Int → Hp → VK → Prop) (te : TE) (tl th : TO) : TE := fun σ H Q => te σ H fun x H1 => tl σ H1 fun l H2 => th σ H2 fun u H3 => r x l u H3 Q
/-- a[lo:hi], any a -/
theorem pe_slice {r : V → Option Int → Option Int → Hp → VK → Prop} (hr : SlR X r) (he : PE X e te) (hl : PO X lo tl) (hu : PO X hi th) : PE X (.Subscript e (.Slice lo hi none p2) pos) (tSl r te tl th) := by
  intro pins s σ H Q I h
  refine Subscript_ (thn (he pins s σ H _ I h) fun v s1 ⟨x, H1, I1, r1, q1⟩ => ?_)
  refine wpAny_Slice (thn (hl pins s1 σ H1 _ I1 q1) fun vl s2 ⟨l, H2, I2, pl, q2⟩ => thn (hu pins s2 σ H2 _ I2 q2) fun vu s3 ⟨u, H3, I3, pu, q3⟩ => ?_)
  rw [evalPart_none]
  refine wpAny_pure ?_
  have I4 : Inv X pins σ H3 { s3 with heap := s3.heap.push { cls := .type "slice", data := .fields #[vl, vu, .none] } } := I3.kept (t' := s3.toks) fun b ob q => Heap.get?_push_of_some _ q
  obtain ⟨T, id, hT, ht, hg⟩ := hr pins { s3 with heap := s3.heap.push { cls := .type "slice", data := .fields #[vl, vu, .none] } } σ H3 x v vl vu l u s3.heap.objs.size Q I4 r1 (Heap.IsSliceOf.new ..) pl pu q3
  show wpAny (model X.prog X.w) X.A (subscriptTail e (.Slice lo hi none p2) v (.ref s3.heap.objs.size)) (EP X pins σ Q) X.xe { s3 with heap := s3.heap.push { cls := .type "slice", data := .fields #[vl, vu, .none] } }
  exact tail_any (ops := [.ref s3.heap.objs.size, v]) ht hT hg (by with_unfolding_all rfl)

/-- the items of xs[lo:hi] -/
def cutV (xs : List V) (lo hi : Option Int) : List V := (xs.drop (HT.sIx xs.length 0 lo)).take (HT.sIx xs.length xs.length hi - HT.sIx xs.length 0 lo)
theorem cutV_length (xs : List V) (lo hi : Option Int) : (cutV xs lo hi).length ≤ xs.length := by
  unfold cutV
  rw [List.length_take, List.length_drop]
  omega
/-- t[lo:hi], not the whole of it (the whole would be t itself) -/
def rSlT (K : PySem.W.Frag) : V → Option Int → Option Int → Hp → VK → Prop := fun x lo hi H Q => ∃ a xs, x = .ref a ∧ SqT K H a xs ∧
  ¬ (HT.sIx xs.length 0 lo = 0 ∧ HT.sIx xs.length xs.length hi = xs.length) ∧ ∀ p, H p = none → Q (.ref p) (upd H p (.tup (cutV xs lo hi)))
theorem sl_tup : SlR X (rSlT X.K) := by
  intro pins s σ H x v vl vu lo hi sl Q I rx hs pl pu h
  obtain ⟨a, xs, rfl, hx, hw, q⟩ := h
  cases rx
  obtain ⟨its, r, ht, hz⟩ := I.tuple hx
  have hlen : its.toArray.size = xs.length := by rw [List.size_toArray]; exact r.length.symm
  refine ⟨"tuple", _, PyProof.Rows.slot_tuple_getitem.lookup, ht.typeIs, ?_⟩
  refine HT.getItem_tuple_cut ht hs pl pu (by rw [hlen]; exact hw) ?_ (by rw [hlen]; exact hz)
  rw [hlen]
  refine ⟨.ref s.heap.objs.size, _, I.laid (t' := s.toks) (o := .tup (cutV xs lo hi)) (fun b ob q => Heap.get?_push_of_some _ q) (Nat.le_refl _) ?_, rfl, q _ (I.hok.fresh (Nat.le_refl _))⟩
  exact ⟨Nat.le_trans (cutV_length xs lo hi) hz, _, (r.drop (HT.sIx xs.length 0 lo)).take (HT.sIx xs.length xs.length hi - HT.sIx xs.length 0 lo), IsTup.new _ _⟩

/-! ### t < u, t + u -/
def rLtT (K : PySem.W.Frag) : R2 := fun x y H Q => ∃ a b ns ms, x = .ref a ∧ y = .ref b ∧ SqT K H a (ns.map V.int) ∧ SqT K H b (ms.map V.int) ∧ Q (.bl (HT.lexLt ns ms)) H
theorem op_ltT (hu : X.A.units < cLine) : OpR X (compareOp .Lt) (rLtT X.K) := by
  intro pins s σ H x y v u Q I rx ry h
  obtain ⟨a, b, ns, ms, rfl, rfl, ha, hb, q⟩ := h
  cases rx
  cases ry
  obtain ⟨its, r1, p1, _⟩ := I.tuple ha
  obtain ⟨its2, r2, p2, _⟩ := I.tuple hb
  have i1 : IntsAre its.toArray.toList ns := intsAre_of r1
  have i2 : IntsAre its2.toArray.toList ms := intsAre_of r2
  exact HT.lt_tupInts p1 p2 i1 i2 hu ⟨.bl (HT.lexLt ns ms), H, I, rfl, q⟩
/-- t + u, t not empty: u empty gives t itself -/
def rCatT (K : PySem.W.Frag) : R2 := fun x y H Q => ∃ a b xs ys, x = .ref a ∧ y = .ref b ∧ SqT K H a xs ∧ SqT K H b ys ∧ xs ≠ [] ∧ xs.length + ys.length ≤ sizeLine ∧
  (ys = [] → Q (.ref a) H) ∧ (ys ≠ [] → ∀ p, H p = none → Q (.ref p) (upd H p (.tup (xs ++ ys))))
theorem Vals.nil_iff {xs : List V} {us : List Value} (r : Vals xs us) : us = [] ↔ xs = [] := by
  cases r with
  | nil => simp
  | cons _ _ => simp
theorem op_catT : OpR X (binaryOp .Add) (rCatT X.K) := by
  intro pins s σ H x y v u Q I rx ry h
  obtain ⟨a, b, xs, ys, rfl, rfl, ha, hb, hx, hz, q1, q2⟩ := h
  cases rx
  cases ry
  obtain ⟨its, r1, p1, _⟩ := I.tuple ha
  obtain ⟨its2, r2, p2, _⟩ := I.tuple hb
  refine HT.cat_tup p1 p2 (fun z => hx (r1.nil_iff.mp z)) (fun z => ⟨.ref a, H, I, rfl, q1 (r2.nil_iff.mp z)⟩) (fun z => ?_) (by rw [← r1.length, ← r2.length]; exact hz)
  refine ⟨.ref s.heap.objs.size, _, I.laid (t' := s.toks) (o := .tup (xs ++ ys)) (fun b ob q => Heap.get?_push_of_some _ q) (Nat.le_refl _) ?_, rfl, q2 (fun w => z (r2.nil_iff.mpr w)) _ (I.hok.fresh (Nat.le_refl _))⟩
  exact ⟨by rw [List.length_append]; exact hz, _, r1.append r2, IsTup.new _ _⟩
/-- tuple(t) -/
theorem call_tupleT : CallR X (.type "tuple") (fun xs H Q => ∃ a ys, xs = [.ref a] ∧ SqT X.K H a ys ∧ Q (.ref a) H) := by
  intro pins s σ H xs us Q I r h
  obtain ⟨a, ys, rfl, ha, q⟩ := h
  obtain ⟨u, rfl, ru⟩ := vals1 r
  cases ru
  obtain ⟨its, _, p1, _⟩ := I.tuple ha
  exact call_tuple_same (items := its.toArray) p1 ⟨.ref a, H, I, rfl, q⟩
end
end L2

namespace L2
open PySem PySem.Spec PyProof.Rows

/-! ### places -/
/-- the place that an index of any sign means -/
def ixN (n : Nat) (i : Int) : Option Nat := if 0 ≤ i then (if i < n then some i.toNat else none) else if -(n : Int) ≤ i then some (i + n).toNat else none
def atI {α : Type} (xs : List α) (i : Int) : Option α := (ixN xs.length i).bind fun j => xs[j]?
theorem ixN_seq {n : Nat} {i : Int} {j : Nat} (h : ixN n i = some j) : seqIndex? i n = some j ∧ j < n ∧ -(n : Int) ≤ i ∧ i < n := by
  unfold ixN at h
  by_cases h0 : 0 ≤ i
  · rw [if_pos h0] at h
    by_cases h1 : i < n
    · rw [if_pos h1] at h
      have e : i.toNat = j := Option.some.inj h
      exact ⟨by rw [seqIndex_of h0 h1, e], by omega, by omega, h1⟩
    · rw [if_neg h1] at h; cases h
  · rw [if_neg h0] at h
    by_cases h1 : -(n : Int) ≤ i
    · rw [if_pos h1] at h
      have e : (i + n).toNat = j := Option.some.inj h
      exact ⟨by rw [seqIndex_neg (by omega) h1, e], by omega, h1, by omega⟩
    · rw [if_neg h1] at h; cases h
theorem atI_get {α : Type} {xs : List α} {i : Int} {v : α} (h : atI xs i = some v) : ∃ j, seqIndex? i xs.length = some j ∧ xs[j]? = some v ∧ j < xs.length ∧ -(xs.length : Int) ≤ i ∧ i < xs.length := by
  unfold atI at h
  cases e : ixN xs.length i with
  | none => rw [e] at h; cases h
  | some j =>
    rw [e] at h
    obtain ⟨h1, h2, h3, h4⟩ := ixN_seq e
    exact ⟨j, h1, h, h2, h3, h4⟩
theorem atI_nat {α : Type} {xs : List α} {j : Nat} {v : α} (h : xs[j]? = some v) : atI xs (j : Int) = some v := by
  have hj : j < xs.length := (List.getElem?_eq_some_iff.mp h).1
  have e : ixN xs.length (j : Int) = some j := by
    unfold ixN
    rw [if_pos (by omega), if_pos (by omega)]; simp
  unfold atI; rw [e]; exact h
theorem atI_last {α : Type} (xs : List α) (v : α) : atI (xs ++ [v]) (-1) = some v := by
  have hl : (xs ++ [v]).length = xs.length + 1 := by simp
  have e : ixN (xs ++ [v]).length (-1) = some xs.length := by
    unfold ixN
    rw [hl, if_neg (by decide), if_pos (by omega)]
    congr 1
    omega
  unfold atI
  rw [e]
  show (xs ++ [v])[xs.length]? = some v
  simp

/-! ### what may be subscripted -/
/-- what stands as an index of a plain subscript -/
def PlainIx (b : Expr) : Prop := ∀ o i, subscripted b false o i = operate [o, i] (getItem o i)
/-- a subscript by values -/
def IxR (X : Cx) (r : R2) : Prop :=
  ∀ (value slice : Expr) (pins : List (Addr × Obj)) (s : Shared) (σ : St) (H : Hp) (x y : V) (v u : Value) (Q : VK), Inv X pins σ H s → RelV x v → RelV y u → r x y H Q →
    subscripted slice false v u = operate [v, u] (getItem v u) → wpAny (model X.prog X.w) X.A (subscriptTail value slice v u) (EP X pins σ Q) X.xe s
/-- a call of a builtin's method by values: the receiver, the arguments -/
def MtR (X : Cx) (id : String) (r : V → List V → Hp → VK → Prop) : Prop :=
  ∀ (pins : List (Addr × Obj)) (s : Shared) (σ : St) (H : Hp) (x : V) (xs : List V) (v : Value) (us : List Value) (Q : VK), Inv X pins σ H s → RelV x v → Vals xs us → r x xs H Q →
    wpAny (model X.prog X.w) X.A (call (.builtin id) (v :: us)) (EP X pins σ Q) X.xe s
section
variable {X : Cx} {a b : Expr} {ta tb : TE} {pos : Pos}
theorem IxR.or {r r' : R2} (h : IxR X r) (h' : IxR X r') : IxR X (fun x y H Q => r x y H Q ∨ r' x y H Q) := by
  intro value slice pins s σ H x y v u Q I rx ry q hs
  rcases q with q | q
  · exact h value slice pins s σ H x y v u Q I rx ry q hs
  · exact h' value slice pins s σ H x y v u Q I rx ry q hs
theorem MtR.or {id : String} {r r' : V → List V → Hp → VK → Prop} (h : MtR X id r) (h' : MtR X id r') : MtR X id (fun x xs H Q => r x xs H Q ∨ r' x xs H Q) := by
  intro pins s σ H x xs v us Q I rx rs q
  rcases q with q | q
  · exact h pins s σ H x xs v us Q I rx rs q
  · exact h' pins s σ H x xs v us Q I rx rs q
/-- a[b] -/
theorem pe_ix {r : R2} (hr : IxR X r) (ha : PE X a ta) (hb : PE X b tb) (hs : PlainIx b) : PE X (.Subscript a b pos) (tOp r ta tb) := by
  intro pins s σ H Q I h
  exact Subscript_ (binT ha hb I h fun v u s2 x y H2 I2 rx ry q => hr a b pins s2 σ H2 x y v u Q I2 rx ry q (hs _ _))

def rIxL (K : PySem.W.Frag) : R2 := fun x y H Q => ∃ p xs i v, x = .ref p ∧ y = .int i ∧ SqL K H p xs ∧ atI xs i = some v ∧ Q v H
def rIxT (K : PySem.W.Frag) : R2 := fun x y H Q => ∃ p xs i v, x = .ref p ∧ y = .int i ∧ SqT K H p xs ∧ atI xs i = some v ∧ Q v H
def rIxS : R2 := fun x y H Q => ∃ z i c, x = .str z ∧ y = .int i ∧ z.length ≤ sizeLine ∧ atI z.cps.toList i = some c ∧ Q (.str ⟨#[c]⟩) H
theorem ix_list : IxR X (rIxL X.K) := by
  intro value slice pins s σ H x y v u Q I rx ry h hs
  obtain ⟨p, xs, i, z, rfl, rfl, hq, he, q⟩ := h
  cases rx
  obtain ⟨t, rfl⟩ := ry
  obtain ⟨its, r, pl, hz⟩ := I.list hq
  obtain ⟨j, h1, h2, h3, h4, h5⟩ := atI_get he
  obtain ⟨w, ew, rw'⟩ := r.get h2
  have hl := r.length
  have hn := line63
  have fin : EP X pins σ Q w s := ⟨z, H, I, rw', q⟩
  by_cases h0 : 0 ≤ i
  · have hj : i.toNat = j := by
      rw [seqIndex_of h0 h5] at h1
      exact Option.some.inj h1
    exact item_listR pl.isList h0 (by omega) (by rw [hj]; simpa using ew) fin hs
  · have hj : (i + (its.toArray.size : Int)).toNat = j := by
      rw [seqIndex_neg (by omega) h4] at h1
      rw [List.size_toArray, ← hl]
      exact Option.some.inj h1
    exact subscriptTail_builtinR (x := w) pl.isList.typeIs slot_list_getitem.lookup
      (wpAny_getItem_list_neg (Q := fun r s' => r = w ∧ EP X pins σ Q r s') pl.isList (by omega) (by rw [List.size_toArray] <;> omega) (by omega) (by rw [hj]; simpa using ew) ⟨rfl, fin⟩) hs
theorem ix_tup : IxR X (rIxT X.K) := by
  intro value slice pins s σ H x y v u Q I rx ry h hs
  obtain ⟨p, xs, i, z, rfl, rfl, hq, he, q⟩ := h
  cases rx
  obtain ⟨t, rfl⟩ := ry
  obtain ⟨its, r, pl, hz⟩ := I.tuple hq
  obtain ⟨j, h1, h2, h3, h4, h5⟩ := atI_get he
  obtain ⟨w, ew, rw'⟩ := r.get h2
  have hl := r.length
  have hn := line63
  have fin : EP X pins σ Q w s := ⟨z, H, I, rw', q⟩
  exact subscriptTail_builtinR (x := w) pl.typeIs slot_tuple_getitem.lookup
    (getItem_tuple (j := j) (Q := fun r s' => r = w ∧ EP X pins σ Q r s') pl (by omega) (by omega) (by rw [List.size_toArray, ← hl]; exact h1) (by simpa using ew) ⟨rfl, fin⟩) hs
theorem ix_str : IxR X rIxS := by
  intro value slice pins s σ H x y v u Q I rx ry h hs
  obtain ⟨z, i, c, rfl, rfl, hz, he, q⟩ := h
  obtain ⟨t, rfl⟩ := rx
  obtain ⟨t', rfl⟩ := ry
  obtain ⟨j, h1, h2, h3, h4, h5⟩ := atI_get he
  have hl : z.cps.toList.length = z.length := by simp [Str.length]
  rw [hl] at h1 h4 h5
  have hn := line63
  exact tail_any (typeIs_str s z t) slot_str_getitem.lookup (getItem_str (c := c) (by
    have e1 : decide (i < -(2 ^ 63 : Int)) = false := decide_eq_false (by omega)
    have e2 : decide (i ≥ 2 ^ 63) = false := decide_eq_false (by omega)
    rw [e1, e2, Bool.or_false]) (by rw [h1]; simpa using h2) ⟨.str ⟨#[c]⟩, H, I.tok _, ⟨_, rfl⟩, q⟩) hs
/-- list, tuple or str -/
def rIx (K : PySem.W.Frag) : R2 := fun x y H Q => rIxL K x y H Q ∨ rIxT K x y H Q ∨ rIxS x y H Q
theorem ix_seq : IxR X (rIx X.K) := ix_list.or (ix_tup.or ix_str)

/-! ### xs[i] = v, any sign -/
/-- the list's object behind a store -/
theorem mapSeq_set (its : List Value) (n j : Nat) (u : Value) : Obj.mapSeq (·.setIfInBounds j u) { cls := .type "list", data := .seq its.toArray n } = { cls := .type "list", data := .seq (its.set j u).toArray n } := by
  simp [Obj.mapSeq]
theorem Inv.lst {pins : List (Addr × Obj)} {σ : St} {H : Hp} {s : Shared} {p : Addr} {xs : List V} (I : Inv X pins σ H s) (h : H p = some (.lst xs)) :
    ∃ (its : List Value) (n : Nat), Vals xs its ∧ s.heap.get? p = some { cls := .type "list", data := .seq its.toArray n } ∧ xs.length ≤ sizeLine := by
  obtain ⟨z, its, n, r, e⟩ := I.hok p _ h
  exact ⟨its, n, r, e, z⟩
/-- the list at p is written by an update of its object -/
theorem Inv.lstUpd {pins : List (Addr × Obj)} {σ : St} {H : Hp} {s : Shared} {p : Addr} {xs ys : List V} {its its' : List Value} {n n' : Nat} {f : Obj → Obj} (I : Inv X pins σ H s) (h : H p = some (.lst xs))
    (ho : s.heap.get? p = some { cls := .type "list", data := .seq its.toArray n }) (hf : f { cls := .type "list", data := .seq its.toArray n } = { cls := .type "list", data := .seq its'.toArray n' }) (r : Vals ys its') (hz : ys.length ≤ sizeLine) (t : Nat) :
    Inv X pins σ (upd H p (.lst ys)) { s with heap := s.heap.update p f, toks := t } := by
  have e : (s.heap.update p f).get? p = some { cls := .type "list", data := .seq its'.toArray n' } := by
    rw [Heap.get?_update_self f ho (by rw [hf] <;> rfl), hf]
  refine I.write (x := p) (e := p) (by rw [h]; trivial) (.inl rfl) (fun b u hb q => (Heap.get?_update_other _ _ (Ne.symm hb)).trans q) ⟨_, e⟩ ?_
  exact ⟨hz, its', n', r, e⟩
def rSetL : V → V → V → Hp → (Hp → Prop) → Prop := fun o i v H Q => ∃ p xs k j, o = .ref p ∧ i = .int k ∧ H p = some (.lst xs) ∧ ixN xs.length k = some j ∧ Q (upd H p (.lst (xs.set j v)))
theorem set_list : PSet X rSetL := by
  intro pins s σ H o i v ov iv u Q I ro ri rv h
  obtain ⟨p, xs, k, j, rfl, rfl, hp, hj, q⟩ := h
  cases ro
  obtain ⟨t, rfl⟩ := ri
  obtain ⟨its, n, r, ho, hz⟩ := I.lst hp
  obtain ⟨h1, h2, h3, h4⟩ := ixN_seq hj
  have hl := r.length
  have hn := line63
  have I' : Inv X pins σ (upd H p (.lst (xs.set j v))) { s with heap := s.heap.update p (Obj.mapSeq (·.setIfInBounds j u)) } :=
    I.lstUpd hp ho (mapSeq_set its n j u) (r.set rv j) (by rw [List.length_set]; exact hz) s.toks
  by_cases h0 : 0 ≤ k
  · have hk : k.toNat = j := by
      rw [seqIndex_of h0 h4] at h1
      exact Option.some.inj h1
    exact PySem.W.ki_setAt ho h0 (by omega) (by rw [List.size_toArray, ← hl]; exact h4) (by rw [hk]; exact ⟨_, I', q⟩)
  · have hk : (k + (its.toArray.size : Int)).toNat = j := by
      rw [seqIndex_neg (by omega) h3] at h1
      rw [List.size_toArray, ← hl]
      exact Option.some.inj h1
    exact PySem.W.ki_setBack ho (by omega) (by rw [List.size_toArray, ← hl]; exact h3) (by omega) (by rw [hk]; exact ⟨_, I', q⟩)

/-! ### slices -/
theorem slice_bounds (lo hi : Option Int) (n : Nat) : (sliceBounds lo hi none n).1 = ((HT.sIx n 0 lo : Nat) : Int) ∧ (sliceBounds lo hi none n).2.1 = ((HT.sIx n n hi : Nat) : Int) ∧ (sliceBounds lo hi none n).2.2 = 1 := by
  refine ⟨?_, ?_, rfl⟩
  · cases lo with
    | none => simp [sliceBounds, HT.sIx]
    | some i =>
      simp only [sliceBounds, HT.sIx, Option.getD_none, show (1 : Int) > 0 by decide, if_true]
      by_cases h : i < 0
      · simp only [h, if_true] <;> omega
      · simp only [h, if_false] <;> omega
  · cases hi with
    | none => simp [sliceBounds, HT.sIx]
    | some i =>
      simp only [sliceBounds, HT.sIx, Option.getD_none, show (1 : Int) > 0 by decide, if_true]
      by_cases h : i < 0
      · simp only [h, if_true] <;> omega
      · simp only [h, if_false] <;> omega
theorem slicePick_cut (its : List Value) (lo hi : Option Int) : slicePick its.toArray lo hi none = ((its.drop (HT.sIx its.length 0 lo)).take (HT.sIx its.length its.length hi - HT.sIx its.length 0 lo)).toArray := by
  obtain ⟨h1, h2, h3⟩ := slice_bounds lo hi its.toArray.size
  unfold slicePick
  rw [h1, h2, h3]
  simp only [sliceRange_one, pick_run, List.size_toArray] <;> rfl
/-- xs[lo:hi] of a list: a new list -/
def rSlL (K : PySem.W.Frag) : V → Option Int → Option Int → Hp → VK → Prop := fun x lo hi H Q => ∃ a xs, x = .ref a ∧ SqL K H a xs ∧ ∀ p, H p = none → Q (.ref p) (upd H p (.lst (cutV xs lo hi)))
theorem sl_list : SlR X (rSlL X.K) := by
  intro pins s σ H x v vl vu lo hi sl Q I rx hs pl pu h
  obtain ⟨a, xs, rfl, hx, q⟩ := h
  cases rx
  obtain ⟨its, r, ht, hz⟩ := I.list hx
  have hlen := r.length
  refine ⟨"list", _, slot_list_getitem.lookup, ht.isList.typeIs, ?_⟩
  refine wpAny_getItem_list_slice ht.isList hs pl pu .none (by simp) ?_ (by rw [List.size_toArray] <;> omega)
  rw [slicePick_cut, ← hlen]
  refine ⟨.ref s.heap.objs.size, _, I.laid (t' := s.toks) (o := .lst (cutV xs lo hi)) (fun b ob q => Heap.get?_push_of_some _ q) (Nat.le_refl _) ?_, rfl, q _ (I.hok.fresh (Nat.le_refl _))⟩
  exact ⟨Nat.le_trans (cutV_length xs lo hi) hz, _, 0, (r.drop (HT.sIx xs.length 0 lo)).take (HT.sIx xs.length xs.length hi - HT.sIx xs.length 0 lo), Heap.get?_push_size _ rfl⟩

/-! ### in, not in: flat items -/
def flatV : V → Bool
  | .non => true
  | .bl _ => true
  | .int _ => true
  | .str _ => true
  | _ => false
/-- == of flat values -/
def eqV : V → V → Bool
  | .non, .non => true
  | .bl a, .bl b => a == b
  | .bl a, .int b => (if a then 1 else 0) == b
  | .int a, .bl b => a == (if b then 1 else 0)
  | .int a, .int b => a == b
  | .str a, .str b => a == b
  | _, _ => false
theorem eqAt_V {A : Around} {s : Shared} {y x : V} {u v : Value} (ry : RelV y u) (rx : RelV x v) (fy : flatV y = true) (fx : flatV x = true) : SeqAt.EqAt A s u v (eqV y x) := by
  cases y with
  | non =>
    cases ry
    cases x with
    | non => cases rx; exact SeqAt.EqAt.same _
    | bl b => cases rx; exact SeqAt.EqAt.none_bool b
    | int b => obtain ⟨t, rfl⟩ := rx; exact SeqAt.EqAt.none_int b t
    | str b => obtain ⟨t, rfl⟩ := rx; exact SeqAt.EqAt.none_str b t
    | _ => exact absurd (show false = true from fx) Bool.false_ne_true
  | bl a =>
    cases ry
    cases x with
    | non => cases rx; exact SeqAt.EqAt.bool_none a
    | bl b => cases rx; exact SeqAt.EqAt.bool_bool a b
    | int b => obtain ⟨t, rfl⟩ := rx; exact SeqAt.EqAt.bool_int a b t
    | str b => obtain ⟨t, rfl⟩ := rx; exact SeqAt.EqAt.bool_str a b t
    | _ => exact absurd (show false = true from fx) Bool.false_ne_true
  | int a =>
    obtain ⟨t', rfl⟩ := ry
    cases x with
    | non => cases rx; exact SeqAt.EqAt.int_none a t'
    | bl b => cases rx; exact SeqAt.EqAt.int_bool a t' b
    | int b => obtain ⟨t, rfl⟩ := rx; exact SeqAt.EqAt.int_int a t' b t
    | str b => obtain ⟨t, rfl⟩ := rx; exact SeqAt.EqAt.int_str a t' b t
    | _ => exact absurd (show false = true from fx) Bool.false_ne_true
  | str a =>
    obtain ⟨t', rfl⟩ := ry
    cases x with
    | non => cases rx; exact SeqAt.EqAt.str_none a t'
    | bl b => cases rx; exact SeqAt.EqAt.str_bool a t' b
    | int b => obtain ⟨t, rfl⟩ := rx; exact SeqAt.EqAt.str_int a t' b t
    | str b => obtain ⟨t, rfl⟩ := rx; exact SeqAt.EqAt.str_str a t' b t
    | _ => exact absurd (show false = true from fx) Bool.false_ne_true
  | _ => exact absurd (show false = true from fy) Bool.false_ne_true
/-- the items' answers, read off the values (a value's own answer does not lean on its token) -/
def eqU (x : V) (u : Value) : Bool := match u with
  | .none => eqV .non x
  | .bool b => eqV (.bl b) x
  | .int i _ => eqV (.int i) x
  | .str z _ => eqV (.str z) x
  | _ => false
theorem eqU_of {x y : V} {u : Value} (r : RelV y u) (f : flatV y = true) : eqU x u = eqV y x := by
  cases y with
  | non => cases r; rfl
  | bl b => cases r; rfl
  | int i => obtain ⟨t, rfl⟩ := r; rfl
  | str z => obtain ⟨t, rfl⟩ := r; rfl
  | _ => exact absurd (show false = true from f) Bool.false_ne_true
theorem any_eqU {x : V} : ∀ {xs : List V} {us : List Value}, Vals xs us → xs.all flatV = true → us.any (eqU x) = xs.any fun y => eqV y x
  | _, _, .nil, _ => rfl
  | y :: xs, u :: us, .cons r t, f => by
    rw [List.all_cons, Bool.and_eq_true] at f
    rw [List.any_cons, List.any_cons, eqU_of r f.1, any_eqU t f.2]
theorem mem_eqAt {A : Around} {s : Shared} {x : V} {v : Value} (rx : RelV x v) (fx : flatV x = true) : ∀ {xs : List V} {us : List Value}, Vals xs us → xs.all flatV = true → ∀ u ∈ us, SeqAt.EqAt A s u v (eqU x u)
  | _, _, .nil, _ => fun u hu => by cases hu
  | y :: xs, u :: us, .cons r t, f => fun u' hu => by
    rw [List.all_cons, Bool.and_eq_true] at f
    rcases List.mem_cons.mp hu with rfl | hu
    · rw [eqU_of r f.1]; exact eqAt_V r rx f.1 fx
    · exact mem_eqAt rx fx t f.2 u' hu
def inV (x : V) (xs : List V) : Bool := xs.any fun y => eqV y x
/-- x in a list or tuple of flat items -/
def rIn (K : PySem.W.Frag) (neg : Bool) : R2 := fun x y H Q => ∃ p xs, y = .ref p ∧ (SqL K H p xs ∨ SqT K H p xs) ∧ flatV x = true ∧ xs.all flatV = true ∧ Q (.bl (if neg then !inV x xs else inV x xs)) H
theorem op_in_seq : OpR X (compareOp .In) (rIn X.K false) := by
  intro pins s σ H x y v u Q I rx ry h
  obtain ⟨p, xs, rfl, hq, fx, fs, q⟩ := h
  cases ry
  rcases hq with hq | hq
  · obtain ⟨its, r, pl, hz⟩ := I.list hq
    refine SeqAt.in_listAt (eqU x) pl.isList (fun w hw => mem_eqAt rx fx r fs w (by simpa using hw)) ⟨.bl _, H, I, rfl, ?_⟩
    rw [show its.toArray.any (eqU x) = its.any (eqU x) by simp, any_eqU r fs]
    exact q
  · obtain ⟨its, r, pl, hz⟩ := I.tuple hq
    refine SeqAt.in_tupleAt (eqU x) pl (fun w hw => mem_eqAt rx fx r fs w (by simpa using hw)) ⟨.bl _, H, I, rfl, ?_⟩
    rw [show its.toArray.any (eqU x) = its.any (eqU x) by simp, any_eqU r fs]
    exact q
theorem op_notIn_seq : OpR X (compareOp .NotIn) (rIn X.K true) := by
  intro pins s σ H x y v u Q I rx ry h
  obtain ⟨p, xs, rfl, hq, fx, fs, q⟩ := h
  cases ry
  rcases hq with hq | hq
  · obtain ⟨its, r, pl, hz⟩ := I.list hq
    refine SeqAt.notIn_listAt (eqU x) pl.isList (fun w hw => mem_eqAt rx fx r fs w (by simpa using hw)) ⟨.bl _, H, I, rfl, ?_⟩
    rw [show its.toArray.any (eqU x) = its.any (eqU x) by simp, any_eqU r fs]
    exact q
  · obtain ⟨its, r, pl, hz⟩ := I.tuple hq
    refine SeqAt.notIn_tupleAt (eqU x) pl (fun w hw => mem_eqAt rx fx r fs w (by simpa using hw)) ⟨.bl _, H, I, rfl, ?_⟩
    rw [show its.toArray.any (eqU x) = its.any (eqU x) by simp, any_eqU r fs]
    exact q
theorem op_notIn_str : OpR X (compareOp .NotIn) (fun x y H Q => ∃ i j, x = .str i ∧ y = .str j ∧ Q (.bl (!(!(Builtin.Str.occurrences j i 0 j.length 1).isEmpty))) H) := by
  intro pins s σ H x y v u Q I rx ry h
  obtain ⟨i, j, rfl, rfl, q⟩ := h
  obtain ⟨t, rfl⟩ := rx
  obtain ⟨t', rfl⟩ := ry
  exact notIn_str ⟨.bl _, H, I, rfl, q⟩

/-! ### len, list(x), tuple(x) of any list or tuple that is read -/
theorem call_len_seq : CallR X (.builtin "len") (fun xs H Q => ∃ p ys, xs = [.ref p] ∧ (SqL X.K H p ys ∨ SqT X.K H p ys) ∧ Q (.int ys.length) H) := by
  intro pins s σ H xs us Q I r h
  obtain ⟨p, ys, rfl, hq, q⟩ := h
  obtain ⟨u, rfl, rx⟩ := vals1 r
  cases rx
  have hn := line63
  rcases hq with hq | hq
  · obtain ⟨its, r', pl, hz⟩ := I.list hq
    have hlen := r'.length
    exact Calls.call_len_list pl.isList (by simp only [List.size_toArray] <;> omega) ⟨.int ys.length, H, I.tok _, ⟨s.toks + 1, by rw [List.size_toArray, hlen]⟩, q⟩
  · obtain ⟨its, r', pl, hz⟩ := I.tuple hq
    have hlen := r'.length
    exact len_tuple pl (by simp only [List.size_toArray] <;> omega) ⟨.int ys.length, H, I.tok _, ⟨s.toks + 1, by rw [List.size_toArray, hlen]⟩, q⟩
theorem call_len_str : CallR X (.builtin "len") (fun xs H Q => ∃ z, xs = [.str z] ∧ z.length ≤ sizeLine ∧ Q (.int z.length) H) := by
  intro pins s σ H xs us Q I r h
  obtain ⟨z, rfl, hz, q⟩ := h
  obtain ⟨u, rfl, t, rfl⟩ := vals1 r
  have hn := line63
  exact len_str (by omega) ⟨.int z.length, H, I.tok _, ⟨_, rfl⟩, q⟩
theorem CallR.or {f : Value} {r r' : List V → Hp → VK → Prop} (h : CallR X f r) (h' : CallR X f r') : CallR X f (fun xs H Q => r xs H Q ∨ r' xs H Q) := by
  intro pins s σ H xs us Q I rs q
  rcases q with q | q
  · exact h pins s σ H xs us Q I rs q
  · exact h' pins s σ H xs us Q I rs q
theorem call_list_of : CallR X (.type "list") (fun xs H Q => ∃ p ys, xs = [.ref p] ∧ (SqL X.K H p ys ∨ SqT X.K H p ys) ∧ ∀ l, H l = none → Q (.ref l) (upd H l (.lst ys))) := by
  intro pins s σ H xs us Q I r h
  obtain ⟨p, ys, rfl, hq, q⟩ := h
  obtain ⟨u, rfl, rx⟩ := vals1 r
  cases rx
  have fin : ∀ (its : List Value), Vals ys its → ys.length ≤ sizeLine → ∀ (h' : Heap) (c' : Nat), (∀ b o', s.heap.get? b = some o' → h'.get? b = some o') →
      h'.get? s.heap.objs.size = some { cls := .type "list", dict := none, data := .seq its.toArray c', slots := #[] } → EP X pins σ Q (.ref s.heap.objs.size) { s with heap := h' } := fun its r' hz h' c' kp e =>
    ⟨.ref s.heap.objs.size, _, I.laid (t' := s.toks) kp (Nat.le_refl _) (show ObjOk X.prog X.w _ h' _ (.lst ys) from ⟨hz, its, c', r', e⟩), rfl, q _ (I.hok.fresh (Nat.le_refl _))⟩
  rcases hq with hq | hq
  · obtain ⟨its, r', pl, hz⟩ := I.list hq
    have hlen := r'.length
    obtain ⟨o, ho, hc, n, hd⟩ := pl.isList
    exact call_list_seq p (.inl rfl) ho hc hd (fun h' c' kp e => fin its r' hz h' c' kp e) (by simp only [List.size_toArray] <;> omega)
  · obtain ⟨its, r', pl, hz⟩ := I.tuple hq
    have hlen := r'.length
    obtain ⟨o, ho, hc, n, hd⟩ := pl
    exact call_list_seq p (.inr rfl) ho hc hd (fun h' c' kp e => fin its r' hz h' c' kp e) (by simp only [List.size_toArray] <;> omega)
theorem call_tuple_of : CallR X (.type "tuple") (fun xs H Q => ∃ p ys, xs = [.ref p] ∧ ((SqL X.K H p ys ∧ ∀ l, H l = none → Q (.ref l) (upd H l (.tup ys))) ∨ (SqT X.K H p ys ∧ Q (.ref p) H))) := by
  intro pins s σ H xs us Q I r h
  obtain ⟨p, ys, rfl, h⟩ := h
  obtain ⟨u, rfl, rx⟩ := vals1 r
  cases rx
  rcases h with ⟨hq, q⟩ | ⟨hq, q⟩
  · obtain ⟨its, r', pl, hz⟩ := I.list hq
    have hlen := r'.length
    refine call_tuple_list pl.isList (fun h' kp => ?_) (by simp only [List.size_toArray] <;> omega)
    have I1 : Inv X pins σ H { s with heap := h' } := I.kept (t' := s.toks) kp
    have I2 : Inv X pins σ (upd H h'.objs.size (.tup ys)) { s with heap := h'.push { cls := .type "tuple", data := .seq its.toArray } } :=
      I1.laid (t' := s.toks) (fun b o e => Heap.get?_push_of_some _ e) (Nat.le_refl _) (show ObjOk X.prog X.w _ _ _ (.tup ys) from ⟨hz, its, r', IsTup.new _ _⟩)
    exact ⟨.ref h'.objs.size, _, I2, rfl, q _ (I1.hok.fresh (Nat.le_refl _))⟩
  · obtain ⟨its, r', pl, hz⟩ := I.tuple hq
    exact call_tuple_same pl ⟨.ref p, H, I, rfl, q⟩

/-! ### the call of a builtin's method: o.m(..) -/
/-- the value is of that builtin type -/
def tyV (K : PySem.W.Frag) (T : String) (x : V) (H : Hp) : Prop := match x with
  | .str _ => T = "str"
  | .int _ => T = "int"
  | .ref p => (T = "list" ∧ ∃ xs, SqL K H p xs) ∨ (T = "tuple" ∧ ∃ o, K.lookup p = some o ∧ o.cls = .type "tuple" ∧ o.dict = none) ∨
      (T = "dict" ∧ ((∃ kvs, H p = some (.dK kvs)) ∨ ∃ kvs, H p = some (.dT kvs))) ∨ (T = "set" ∧ ∃ S n, H p = some (.set S n))
  | _ => False
theorem tyV_is {pins : List (Addr × Obj)} {σ : St} {H : Hp} {s : Shared} {T : String} {x : V} {v : Value} (I : Inv X pins σ H s) (r : RelV x v) (ty : tyV X.K T x H) :
    s.TypeIs v T ∧ ∀ a, v = .ref a → ∃ ob, s.heap.get? a = some ob ∧ ob.dict = none := by
  cases x with
  | str z =>
    obtain ⟨t, rfl⟩ := r
    cases (show T = "str" from ty)
    exact ⟨typeIs_str s z t, fun _ e => nomatch e⟩
  | int i =>
    obtain ⟨t, rfl⟩ := r
    cases (show T = "int" from ty)
    exact ⟨typeIs_int s i t, fun _ e => nomatch e⟩
  | ref p =>
    cases r
    rcases ty with ⟨rfl, xs, hq⟩ | ⟨rfl, o, hk, hc, hd⟩ | ⟨rfl, hk⟩ | ⟨rfl, S, n, hk⟩
    · obtain ⟨its, _, pl, _⟩ := I.list hq
      refine ⟨pl.isList.typeIs, fun a e => ?_⟩
      cases e
      obtain ⟨o, n, e, c, hd, _⟩ := pl
      exact ⟨o, e, hd⟩
    · refine ⟨⟨o, I.kIn p o hk, hc⟩, fun a e => ?_⟩
      cases e
      exact ⟨o, I.kIn _ o hk, hd⟩
    · have z : ∃ o, s.heap.get? p = some o ∧ o.ExactDict := by
        rcases hk with ⟨kvs, hk⟩ | ⟨kvs, hk⟩
        · obtain ⟨_, _, _, _, o, _, _, e, ex, _⟩ := I.hok p _ hk
          exact ⟨o, e, ex⟩
        · obtain ⟨_, _, _, _, o, _, _, e, ex, _⟩ := I.hok p _ hk
          exact ⟨o, e, ex⟩
      obtain ⟨o, e, ex⟩ := z
      refine ⟨⟨o, e, ex.1⟩, fun a e2 => ?_⟩
      cases e2
      exact ⟨o, e, ex.2.1⟩
    · obtain ⟨o, _, _, _, e, ex, _⟩ := I.hok p _ hk
      refine ⟨⟨o, e, ex.1⟩, fun a e2 => ?_⟩
      cases e2
      exact ⟨o, e, ex.2.1⟩
  | _ => exact False.elim ty
def tBM0 (K : PySem.W.Frag) (T : String) (r : V → List V → Hp → VK → Prop) (to : TE) : TE := fun σ H Q => to σ H fun x H1 => tyV K T x H1 ∧ r x [] H1 Q
def tBM (K : PySem.W.Frag) (T : String) (r : V → List V → Hp → VK → Prop) (to : TE) (t : TA) : TE := fun σ H Q => to σ H fun x H1 => tyV K T x H1 ∧ t σ H1 fun xs H2 => r x xs H2 Q
variable {o e : Expr} {es : List Expr} {to : TE} {t : TA} {name : Str} {apos cpos : Pos} {T id : String} {r : V → List V → Hp → VK → Prop}
theorem pe_bm0 (pa : PlainAttrs T) (slot : Slot T name id) (hty : typeOf (.builtin id) = pure (.type "method_descriptor")) (hm : MtR X id r) (ho : PE X o to)
    (hbase : attributeBase o name X.env (eval o X.env) = eval o X.env := by rfl) (hline : (apos.endLine == cpos.line) = true := by rfl) : PE X (.Call (.Attribute o name apos) [] [] cpos) (tBM0 X.K T r to) := by
  intro pins s σ H Q I h
  refine wpAny_Call_method0_late hbase hline (thn (ho pins s σ H _ I h) fun v s1 ⟨x, H1, I1, r1, ty, q1⟩ => ?_)
  obtain ⟨h1, h2⟩ := tyV_is I1 r1 ty
  exact ⟨T, id, pa, slot, hty, h1, h2, Calls.callWith_builtin rfl (PySem.evalArgs_none (hm pins s1 σ H1 x [] v [] Q I1 r1 .nil q1))⟩
theorem pe_bm (pa : PlainAttrs T) (slot : Slot T name id) (hty : typeOf (.builtin id) = pure (.type "method_descriptor")) (hm : MtR X id r) (ho : PE X o to) (ha : PA X (e :: es) t)
    (hbase : attributeBase o name X.env (eval o X.env) = eval o X.env := by rfl)
    (hfew : ((backTo cpos (starEach (e :: es) X.env)).all (fun x => !x.1) && (backToKw cpos (keywordEach [] X.env)).all (fun x => x.1.isSome)
      && decide ((e :: es).length + ([] : List Keyword).length + (if ([] : List Keyword).isEmpty then 0 else 1) < 30)) = true := by rfl)
    (hline : (apos.endLine == cpos.line) = true := by rfl) (hs : starEach (e :: es) X.env = (false, eval e X.env) :: starEach es X.env := by rfl) (hplain : (backTo cpos (starEach es X.env)).any (·.1) = false := by rfl) :
    PE X (.Call (.Attribute o name apos) (e :: es) [] cpos) (tBM X.K T r to t) := by
  intro pins s σ H Q I h
  refine wpAny_Call_method_late hbase hfew hline rfl (thn (ho pins s σ H _ I h) fun v s1 ⟨x, H1, I1, r1, ty, q1⟩ => ?_)
  obtain ⟨h1, h2⟩ := tyV_is I1 r1 ty
  refine ⟨T, id, pa, slot, hty, h1, h2, ?_⟩
  have hA := ha cpos pins s1 σ H1 _ I1 q1
  rw [hs] at hA ⊢
  refine Calls.callWith_builtin (by show (false || (backTo cpos (starEach es X.env)).any (·.1)) = false; rw [hplain] <;> rfl) (Calls.evalArgs_plain ?_)
  exact thn hA fun us s2 ⟨vs, H2, I2, r2, q2⟩ => hm pins s2 σ H2 x vs v us Q I2 r1 r2 q2
/- xs.append(e), list.index on a module's tuple .. are MtR facts of 06m -/
end
end L2

namespace L2
open PySem PySem.Spec PyProof.Rows

def MtM (X : Cx) (id : String) (r : V → List V → Hp → VK → Prop) : Prop :=
  ∀ (pins : List (Addr × Obj)) (s : Shared) (σ : St) (H : Hp) (x : V) (xs : List V) (v : Value) (us : List Value) (Q : VK), Inv X pins σ H s → RelV x v → Vals xs us → r x xs H Q →
    wpAny (model X.prog X.w) X.A (call (.builtin id) (v :: us)) (EP X pins σ Q) X.xe s

/-! ### lists of values -/
theorem Vals.one : ∀ {x : V} {us : List Value}, Vals [x] us → ∃ u, us = [u] ∧ RelV x u
  | _, _, .cons r .nil => ⟨_, rfl, r⟩
theorem Vals.two : ∀ {x y : V} {us : List Value}, Vals [x, y] us → ∃ u v, us = [u, v] ∧ RelV x u ∧ RelV y v
  | _, _, _, .cons r (.cons q .nil) => ⟨_, _, rfl, r, q⟩
theorem Vals.zero : ∀ {us : List Value}, Vals [] us → us = []
  | _, .nil => rfl
theorem Vals.dropLast {xs : List V} {us : List Value} (h : Vals xs us) : Vals xs.dropLast us.dropLast := by
  induction h with
  | nil => exact .nil
  | cons r t ih =>
    cases t with
    | nil => exact .nil
    | cons q t' => exact .cons r ih
theorem Vals.eraseIdx : ∀ {xs : List V} {us : List Value} (i : Nat), Vals xs us → Vals (xs.eraseIdx i) (us.eraseIdx i)
  | _, _, _, .nil => .nil
  | _, _, 0, .cons _ t => t
  | _, _, i + 1, .cons r t => .cons r (Vals.eraseIdx i t)
theorem Vals.reverse {xs : List V} {us : List Value} (h : Vals xs us) : Vals xs.reverse us.reverse := by
  induction h with
  | nil => exact .nil
  | cons r t ih => rw [List.reverse_cons, List.reverse_cons]; exact Vals.append ih (.cons r .nil)
theorem Vals.rep {xs : List V} {us : List Value} (h : Vals xs us) : ∀ k : Nat, Vals (List.replicate k xs).flatten (List.replicate k us).flatten
  | 0 => .nil
  | k + 1 => by
    rw [List.replicate_succ, List.replicate_succ, List.flatten_cons, List.flatten_cons]
    exact Vals.append h (Vals.rep h k)
theorem erase_last {α : Type} (l : List α) : l.eraseIdx (l.length - 1) = l.dropLast := by
  induction l with
  | nil => rfl
  | cons a r ih =>
    cases r with
    | nil => rfl
    | cons b r =>
      have e : (a :: b :: r).length - 1 = ((b :: r).length - 1) + 1 := by
        have h1 : (a :: b :: r).length = r.length + 2 := rfl
        have h2 : (b :: r).length = r.length + 1 := rfl
        omega
      rw [e, List.eraseIdx_cons_succ, ih]
      all_goals rfl
theorem len_erase {α : Type} : ∀ (l : List α) (i : Nat), (l.eraseIdx i).length ≤ l.length
  | [], _ => Nat.le_refl _
  | _ :: _, 0 => Nat.le_succ _
  | _ :: r, i + 1 => Nat.succ_le_succ (len_erase r i)
theorem foldl_rep (its : List Value) : ∀ (k : Nat) (acc : List Value),
    List.foldl (fun x1 x2 => x1 ++ x2) acc.toArray (List.replicate k its.toArray) = (acc ++ (List.replicate k its).flatten).toArray
  | 0, acc => by simp
  | k + 1, acc => by
    have e : acc.toArray ++ its.toArray = (acc ++ its).toArray := by simp
    have e2 : (acc ++ its) ++ (List.replicate k its).flatten = acc ++ (List.replicate (k + 1) its).flatten := by
      rw [List.replicate_succ, List.flatten_cons, List.append_assoc]
    rw [← e2, ← foldl_rep its k (acc ++ its), ← e, List.replicate_succ, List.foldl_cons]

section
variable {X : Cx} {pins : List (Addr × Obj)} {σ : St} {H : Hp} {s : Shared} {l b : Addr} {xs ys zs : List V}

/-! ### the two steps: a tracked list is rewritten, a new list is laid -/
theorem Inv.lset {its its' : List Value} {n : Nat} {f : Array Value → Array Value} {t' : Nat} (I : Inv X pins σ H s) (hH : H l = some (.lst xs))
    (e : s.heap.get? l = some { cls := .type "list", data := .seq its.toArray n }) (hf : f its.toArray = its'.toArray) (hv : Vals ys its') (hz : ys.length ≤ sizeLine) :
    Inv X pins σ (upd H l (.lst ys)) { s with heap := s.heap.update l (Obj.mapSeq f), toks := t' } := by
  have q := PySem.IsL.update e f
  rw [hf] at q
  refine I.write (x := l) (e := l) (by rw [hH]; exact trivial) (.inl rfl) (fun b' u hb hu => (Heap.get?_update_other s.heap (Obj.mapSeq f) (Ne.symm hb)).trans hu) ⟨_, q⟩ ?_
  exact ⟨hz, its', _, hv, q⟩
theorem Inv.lnew {its : List Value} {t' : Nat} (I : Inv X pins σ H s) (hv : Vals ys its) (hz : ys.length ≤ sizeLine) :
    Inv X pins σ (upd H s.heap.objs.size (.lst ys)) { s with heap := s.heap.push { cls := .type "list", data := .seq its.toArray }, toks := t' } :=
  I.laid (fun _ _ q => Heap.get?_push_of_some _ q) (Nat.le_refl _) ⟨hz, its, 0, hv, Heap.get?_push_size _ rfl⟩
theorem Inv.fresh (I : Inv X pins σ H s) : H s.heap.objs.size = none := I.hok.fresh (Nat.le_refl _)
theorem Inv.lstM (I : Inv X pins σ H s) (hH : H l = some (.lst xs)) : xs.length ≤ sizeLine ∧ ∃ (its : List Value) (n : Nat), Vals xs its ∧ xs.length = its.length ∧ s.heap.get? l = some { cls := .type "list", data := .seq its.toArray n } := by
  obtain ⟨z, its, n, r, e⟩ := I.hok l _ hH
  exact ⟨z, its, n, r, r.length, e⟩

theorem notLongL {n : Nat} (h : n ≤ sizeLine) : Builtin.List.listTooLong n = false := by
  unfold Builtin.List.listTooLong
  exact decide_eq_false (by omega)
end

section
variable {X : Cx}

/-! ### methods -/
def rAppend : V → List V → Hp → VK → Prop := fun x vs H Q => ∃ l xs y, x = .ref l ∧ vs = [y] ∧ H l = some (.lst xs) ∧ xs.length < sizeLine ∧ Q .non (upd H l (.lst (xs ++ [y])))
theorem mt_append : MtM X "list.append" rAppend := by
  intro pins s σ H x vs v us Q I rx rv h
  obtain ⟨l, xs, y, rfl, rfl, hH, hz, q⟩ := h
  cases rx
  obtain ⟨u, rfl, ru⟩ := rv.one
  obtain ⟨z, its, n, r, hl, e⟩ := I.lstM hH
  refine call_meets F.slot_list_append ⟨_, e, rfl⟩ F.entry_list_append (F.args_list_append_2 _ _) (PySem.list_append l its.toArray n u (by rw [List.size_toArray]; omega)) ⟨e, ?_⟩
  refine ⟨.non, _, I.lset (its' := its ++ [u]) hH e (by simp) (r.append (.cons ru .nil)) ?_, rfl, q⟩
  rw [List.length_append, List.length_singleton]
  omega

def rExtend : V → List V → Hp → VK → Prop := fun x vs H Q => ∃ l b xs zs, x = .ref l ∧ vs = [.ref b] ∧ H l = some (.lst xs) ∧ H b = some (.lst zs) ∧ xs.length + zs.length ≤ sizeLine ∧ Q .non (upd H l (.lst (xs ++ zs)))
theorem mt_extend : MtM X "list.extend" rExtend := by
  intro pins s σ H x vs v us Q I rx rv h
  obtain ⟨l, b, xs, zs, rfl, rfl, hH, hB, hz, q⟩ := h
  cases rx
  obtain ⟨u, rfl, ru⟩ := rv.one
  cases ru
  obtain ⟨z, its, n, r, hl, e⟩ := I.lstM hH
  obtain ⟨z2, its2, n2, r2, hl2, e2⟩ := I.lstM hB
  have hsz : its.toArray.size + its2.toArray.size ≤ sizeLine := by rw [List.size_toArray, List.size_toArray]; omega
  have hlong : ¬ (!its.toArray.isEmpty && Builtin.List.listTooLong (its.toArray.size + its2.toArray.size)) = true := by
    rw [notLongL hsz, Bool.and_false]
    exact Bool.false_ne_true
  refine call_meets F.slot_list_extend ⟨_, e, rfl⟩ F.entry_list_extend (F.args_list_extend_2 _ _)
    (AutoSeq1.list_extend_list_list_0 l its.toArray n b its2.toArray n2 hlong (by rw [List.size_toArray]; omega) (by omega)) ⟨e, e2, ?_⟩
  refine ⟨.non, _, I.lset (its' := its ++ its2) hH e (by simp) (r.append r2) ?_, rfl, q⟩
  rw [List.length_append]
  omega

def rPop : V → List V → Hp → VK → Prop := fun x vs H Q => ∃ l xs y, x = .ref l ∧ vs = [] ∧ H l = some (.lst xs) ∧ xs[xs.length - 1]? = some y ∧ Q y (upd H l (.lst xs.dropLast))
theorem mt_pop : MtM X "list.pop" rPop := by
  intro pins s σ H x vs v us Q I rx rv h
  obtain ⟨l, xs, y, rfl, rfl, hH, hy, q⟩ := h
  cases rx
  have hus := rv.zero
  subst hus
  obtain ⟨z, its, n, r, hl, e⟩ := I.lstM hH
  obtain ⟨u, hu, ru⟩ := r.get hy
  have hy' : its.toArray[its.toArray.size - 1]? = some u := by
    show its.toArray[its.length - 1]? = some u
    rw [← Array.getElem?_toList, ← hl]
    exact hu
  refine call_meets F.slot_list_pop ⟨_, e, rfl⟩ F.entry_list_pop (F.args_list_pop_1 _) (MeetsSeq.list_pop_last l its.toArray n u hy' (by rw [List.size_toArray]; omega)) ⟨e, ?_⟩
  refine ⟨y, _, I.lset (its' := its.dropLast) hH e ?_ r.dropLast ?_, ru, q⟩
  · show its.toArray.eraseIdxIfInBounds (its.toArray.size - 1) = its.dropLast.toArray
    rw [List.size_toArray, List.eraseIdxIfInBounds_toArray, erase_last]
  · rw [List.length_dropLast]
    omega

def rPopAt : V → List V → Hp → VK → Prop := fun x vs H Q => ∃ l xs i k y, x = .ref l ∧ vs = [.int i] ∧ H l = some (.lst xs) ∧ -(2 ^ 63) ≤ i ∧ i < 2 ^ 63 ∧ seqIndex? i xs.length = some k ∧ xs[k]? = some y ∧ Q y (upd H l (.lst (xs.eraseIdx k)))
theorem mt_popAt : MtM X "list.pop" rPopAt := by
  intro pins s σ H x vs v us Q I rx rv h
  obtain ⟨l, xs, i, k, y, rfl, rfl, hH, h1, h2, hk, hy, q⟩ := h
  cases rx
  obtain ⟨u, rfl, ru⟩ := rv.one
  obtain ⟨t, rfl⟩ := ru
  obtain ⟨z, its, n, r, hl, e⟩ := I.lstM hH
  obtain ⟨w, hw, rw'⟩ := r.get hy
  refine call_meets F.slot_list_pop ⟨_, e, rfl⟩ F.entry_list_pop (F.args_list_pop_2 _ _)
    (MeetsSeq.list_pop_at l its.toArray n i t k w (fitsIndex_both h1 h2) (by rw [List.size_toArray, ← hl]; exact hk) (by rw [← Array.getElem?_toList]; exact hw) (by rw [List.size_toArray]; omega)) ⟨e, ?_⟩
  refine ⟨y, _, I.lset (its' := its.eraseIdx k) hH e ?_ (r.eraseIdx k) ?_, rw', q⟩
  · show its.toArray.eraseIdxIfInBounds k = (its.eraseIdx k).toArray
    rw [List.eraseIdxIfInBounds_toArray]
  · have := len_erase xs k
    omega

def rReverse : V → List V → Hp → VK → Prop := fun x vs H Q => ∃ l xs, x = .ref l ∧ vs = [] ∧ H l = some (.lst xs) ∧ Q .non (upd H l (.lst xs.reverse))
theorem mt_reverse : MtM X "list.reverse" rReverse := by
  intro pins s σ H x vs v us Q I rx rv h
  obtain ⟨l, xs, rfl, rfl, hH, q⟩ := h
  cases rx
  have hus := rv.zero
  subst hus
  obtain ⟨z, its, n, r, hl, e⟩ := I.lstM hH
  refine call_meets F.slot_list_reverse ⟨_, e, rfl⟩ F.entry_list_reverse (F.args_list_reverse_1 _) (AutoSeq1.list_reverse_list_0 l its.toArray n (by rw [List.size_toArray]; omega)) ⟨e, ?_⟩
  refine ⟨.non, _, I.lset (its' := its.reverse) hH e (by simp) r.reverse ?_, rfl, q⟩
  rw [List.length_reverse]
  omega

def rClear : V → List V → Hp → VK → Prop := fun x vs H Q => ∃ l xs, x = .ref l ∧ vs = [] ∧ H l = some (.lst xs) ∧ Q .non (upd H l (.lst []))
theorem mt_clear : MtM X "list.clear" rClear := by
  intro pins s σ H x vs v us Q I rx rv h
  obtain ⟨l, xs, rfl, rfl, hH, q⟩ := h
  cases rx
  have hus := rv.zero
  subst hus
  obtain ⟨z, its, n, r, hl, e⟩ := I.lstM hH
  refine call_meets F.slot_list_clear ⟨_, e, rfl⟩ F.entry_list_clear (F.args_list_clear_1 _) (AutoSeq1.list_clear_list_0 l its.toArray n (by rw [List.size_toArray]; omega)) ⟨e, ?_⟩
  exact ⟨.non, _, I.lset (its' := []) (ys := []) hH e rfl .nil (Nat.zero_le _), rfl, q⟩

/-! ### list + list, list += list, list * int -/
def rCat : R2 := fun x y H Q => ∃ l b xs zs, x = .ref l ∧ y = .ref b ∧ H l = some (.lst xs) ∧ H b = some (.lst zs) ∧ xs.length + zs.length ≤ sizeLine ∧ ∀ p, H p = none → Q (.ref p) (upd H p (.lst (xs ++ zs)))
theorem op_cat : OpR X (binaryOp .Add) rCat := by
  intro pins s σ H x y v u Q I rx ry h
  obtain ⟨l, b, xs, zs, rfl, rfl, hH, hB, hz, q⟩ := h
  cases rx
  cases ry
  obtain ⟨z, its, n, r, hl, e⟩ := I.lstM hH
  obtain ⟨z2, its2, n2, r2, hl2, e2⟩ := I.lstM hB
  refine PySem.P.add_list e e2 ?_ (by rw [List.size_toArray, List.size_toArray]; omega)
  have ea : its.toArray ++ its2.toArray = (its ++ its2).toArray := by simp
  rw [ea]
  exact ⟨.ref _, _, I.lnew (t' := s.toks) (r.append r2) (by rw [List.length_append]; omega), rfl, q _ I.fresh⟩
/-- a list times an int (a negative one is nothing) -/
def rRep : R2 := fun x y H Q => ∃ l k xs, x = .ref l ∧ y = .int k ∧ H l = some (.lst xs) ∧ -(2 ^ 63) ≤ k ∧ k < 2 ^ 63 ∧ xs.length * k.toNat ≤ sizeLine ∧
  ∀ p, H p = none → Q (.ref p) (upd H p (.lst (List.replicate k.toNat xs).flatten))
theorem len_rep {α : Type} (xs : List α) (k : Nat) : (List.replicate k xs).flatten.length = k * xs.length := by
  induction k with
  | zero => simp
  | succ k ih => rw [List.replicate_succ, List.flatten_cons, List.length_append, ih, Nat.succ_mul, Nat.add_comm]
theorem op_rep : OpR X (binaryOp .Mult) rRep := by
  intro pins s σ H x y v u Q I rx ry h
  obtain ⟨l, k, xs, rfl, rfl, hH, h1, h2, hz, q⟩ := h
  cases rx
  obtain ⟨t, rfl⟩ := ry
  obtain ⟨z, its, n, r, hl, e⟩ := I.lstM hH
  have hlen : its.toArray.size * k.toNat ≤ sizeLine := by rw [List.size_toArray, ← hl]; exact hz
  have hcap : ¬ its.toArray.size * k.toNat > (2 ^ 63 - 1) / 8 := by
    have : (sizeLine : Nat) ≤ (2 ^ 63 - 1) / 8 := by decide
    omega
  have hfit : ¬ (!Builtin.List.listFitsIndex k) = true := by
    rw [fitsIndex_both h1 h2]
    exact Bool.false_ne_true
  have hlong : ¬ Builtin.List.listTooLong (its.toArray.size * k.toNat) = true := by
    rw [notLongL hlen]
    exact Bool.false_ne_true
  have hnew : List.foldl (fun x1 x2 => x1 ++ x2) #[] (List.replicate (if its.toArray.isEmpty = true then 0 else k.toNat) its.toArray) = (List.replicate k.toNat its).flatten.toArray := by
    have f0 : ∀ m : Nat, List.foldl (fun x1 x2 => x1 ++ x2) #[] (List.replicate m its.toArray) = (List.replicate m its).flatten.toArray := fun m => by
      have := foldl_rep its m []
      rw [List.nil_append] at this
      exact this
    rw [f0]
    cases its with
    | nil => simp
    | cons a r' => rw [if_neg (by simp)]
  refine wpAny_binaryOp_repeat_ref (T := "list") (U := "int") (by decide) ⟨_, e, rfl⟩ (fun s' => typeIs_int s' k t) noFill_list_mul F.fills_int_mul F.slot_int_rmul repeat_list F.slot_int_index.lookup
    (call_meets F.slot_int_rmul (typeIs_int s k t) F.entry_int_rmul (F.args_int_rmul_2 _ _) (int___rmul___int_list k t l its.toArray n)
      ⟨e, rfl, ⟨_, e, rfl⟩, call_meets F.slot_list_mul ⟨_, e, rfl⟩ F.entry_list_mul (F.args_list_mul_2 _ _) (AutoListH.list___mul___list_int_3 l its.toArray n k t hfit hcap hlong) ⟨e, ?_⟩⟩)
  rw [hnew]
  exact ⟨.ref _, _, I.lnew (t' := s.toks) (r.rep k.toNat) (by rw [len_rep, Nat.mul_comm]; exact hz), rfl, q _ I.fresh⟩

/-! ### del xs[i] -/
theorem del_list {pins : List (Addr × Obj)} {s : Shared} {σ : St} {H : Hp} {l : Addr} {xs : List V} {i : Int} {t : Tok} {k : Nat} {Q : Unit → Shared → Prop} (I : Inv X pins σ H s) (hH : H l = some (.lst xs))
    (h1 : -(2 ^ 63) ≤ i) (h2 : i < 2 ^ 63) (hk : seqIndex? i xs.length = some k) (h : ∀ s', Inv X pins σ (upd H l (.lst (xs.eraseIdx k))) s' → Q () s') :
    wpAny (model X.prog X.w) X.A (delItem (.ref l) (.int i t)) Q X.xe s := by
  obtain ⟨z, its, n, r, hl, e⟩ := I.lstM hH
  refine PySem.P.delItem_list (k := k) e (fitsIndex_both h1 h2) (by rw [List.size_toArray, ← hl]; exact hk) (h _ ?_) (by rw [List.size_toArray]; omega)
  refine I.lset (its' := its.eraseIdx k) (t' := s.toks) hH e ?_ (r.eraseIdx k) ?_
  · show its.toArray.eraseIdxIfInBounds k = (its.eraseIdx k).toArray
    rw [List.eraseIdxIfInBounds_toArray]
  · have := len_erase xs k
    omega
end

/-! ### xs[a:b] = ys -/
section
variable {prog : Program} {w : World} {A : Around} {E : Value → Shared → Prop} {s : Shared}
theorem splice_eq (its its2 : List Value) (a c : Nat) : its.toArray.extract 0 a ++ its2.toArray ++ its.toArray.extract c its.toArray.size = (its.take a ++ its2 ++ its.drop c).toArray := by
  apply Array.toList_inj.mp
  first
    | (simp
       exact List.take_of_length_le (by simp))
    | simp [List.take_of_length_le]
    | simp
theorem bounds_run {a c n : Nat} (hac : a ≤ c) (hc : c ≤ n) : sliceBounds (some (a : Int)) (some (c : Int)) none n = ((a : Int), (c : Int), 1) := by
  simp only [sliceBounds, Option.getD_none]
  have h1 : ¬ ((a : Int) < 0) := by omega
  have h2 : ¬ ((c : Int) < 0) := by omega
  simp only [h1, h2, if_false, show (1 : Int) > 0 by decide, if_true]
  congr 1
  · omega
  · congr 1; omega
set_option maxRecDepth 100000 in
/-- list.__setitem__ with a slice of step one and another list -/
theorem setItem_slice {l b sl : Addr} {items new : Array Value} {n n2 : Nat} {vl vu : Value} {a c : Nat} {Q : Unit → Shared → Prop}
    (e : s.heap.get? l = some { cls := .type "list", data := .seq items n }) (e2 : s.heap.get? b = some { cls := .type "list", data := .seq new n2 }) (hne : l ≠ b)
    (hs : s.heap.IsSliceOf sl vl vu .none) (pl : IsPart vl (some (a : Int))) (pu : IsPart vu (some (c : Int))) (hac : a ≤ c) (hc : c ≤ items.size)
    (hsz : items.size + new.size ≤ sizeLine) (h : Q () { s with heap := s.heap.update l (Obj.mapSeq fun xs => xs.extract 0 a ++ new ++ xs.extract c xs.size) }) :
    wpAny (model prog w) A (setItem (.ref l) (.ref sl) (.ref b)) Q E s := by
  have hl : s.heap.IsList l items := PySem.IsL.isList e
  have hb : s.heap.IsList b new := PySem.IsL.isList e2
  obtain ⟨os, hos, hcs, hds⟩ := id hs
  have hTs : s.TypeIs (.ref sl) "slice" := ⟨os, hos, hcs⟩
  have hstep : ¬ ((rawPart none == rawInt 0) = true) := Bool.false_ne_true
  have hsame : Builtin.List.listSameRef (.ref l) (.ref b) = false := by
    unfold Builtin.List.listSameRef
    exact beq_eq_false_iff_ne.mpr hne
  have hmax : (max (a : Int) (c : Int)).toNat = c := by omega
  have hz' : ((fun xs : Array Value => xs.extract 0 a ++ new ++ xs.extract c xs.size) items).size ≤ sizeLine + 1 := by
    simp only [Array.size_append, Array.size_extract]
    omega
  unfold setItem
  try with_reducible refine wpAny_holding ?_
  first | refine wpAny_bind (wpAny_pure ?_) | skip
  refine wpAny_bind (wpAny_sequenceKey hl.typeIs (by decide) ?_)
  refine wpAny_bind (wpAny_callSpecial?_slot (name := Str.ofString "__setitem__") hl.typeIs slot_list_setitem
    (wpAny_call_entry slot_list_setitem hl.typeIs entry_list_setitem ?_ (args_list_setitem _ _ _)))
  show wpAny _ _ (Builtin.List.listSubscript? (.ref sl) >>= _) _ _ s
  refine wpAny_bind ?_
  unfold Builtin.List.listSubscript?
  refine wpAny_bind (wpAny_specialOf hTs slice_no_index ?_)
  simp only [Option.isNone_none, if_true]
  refine wpAny_pure ?_
  show wpAny _ _ (typeOf (.ref sl) >>= _) _ _ s
  refine wpAny_bind (wpAny_typeOf hTs ?_)
  first
    | rw [if_neg (by decide)]
    | refine PySem.W.KFB.if_not (by decide) ?_
  rw [listSliceParts_eq]
  refine wpAny_bind (wpAny_bind (wpAny_field hos hds (x := .none) rfl (wpAny_bind (wpAny_listPart .none ?_))))
  rw [if_neg hstep]
  refine wpAny_bind (wpAny_field hos hds (x := vl) rfl (wpAny_bind (wpAny_listPart pl ?_)))
  refine wpAny_bind (wpAny_field hos hds (x := vu) rfl (wpAny_bind (wpAny_listPart pu (wpAny_pure ?_))))
  first
    | simp only [hsame, Bool.false_eq_true, if_false]
    | refine PySem.W.KFB.if_not hsame ?_
    | (dsimp only
       rw [if_neg (by rw [hsame]; exact Bool.false_ne_true)])
  refine wpAny_bind (m := Builtin.List.listAllItems (.ref b) "must assign iterable to extended slice") ?_
  unfold Builtin.List.listAllItems
  refine wpAny_bind (wpAny_typeOf hb.typeIs ?_)
  first
    | refine PySem.W.KFB.if_so (by decide) ?_
    | rw [if_pos (by decide)]
    | simp only [beq_self_eq_true, Bool.true_or, if_true]
  unfold Builtin.List.listItems
  refine wpAny_bind (wpAny_seqItems e2 rfl (wpAny_pure ?_))
  refine wpAny_bind (wpAny_bind (wpAny_seqItems e rfl (wpAny_pure ?_)))
  refine wpAny_bind (wpAny_of_eq ((sliceIndices_raw (some (a : Int)) (some (c : Int)) none items.size (by simp)).trans (congrArg (pure : Int × Int × Int → Sem (Int × Int × Int)) (bounds_run hac hc))) ?_)
  show wpAny _ _ (if ((1 : Int) == 1) = true then _ else _) _ _ s
  rw [if_pos (by decide)]
  refine wpAny_bind (wpAny_rule ?_)
  first
    | simp only [notLongL hsz, Bool.false_eq_true, if_false]
    | refine PySem.W.KFB.if_not (notLongL hsz) ?_
  first | refine wpAny_bind (wpAny_pure ?_) | skip
  show wpAny _ _ (updateSeq l (fun xs => xs.extract 0 ((a : Int)).toNat ++ new ++ xs.extract (max (a : Int) (c : Int)).toNat xs.size) >>= _) _ _ s
  rw [hmax, Int.toNat_natCast]
  refine wpAny_bind (wpAny_updateSeq (hz := Nat.le_trans (Nat.le_add_right _ _) hsz) (_hz' := hz') e rfl ?_)
  refine wpAny_bind (wpAny_letGo ?_)
  first
    | exact wpAny_bind (wpAny_pure (wpAny_pure ⟨.none, rfl, wpAny_pure h⟩))
    | exact wpAny_pure ⟨.none, rfl, wpAny_pure h⟩
end

section
variable {X : Cx}
/-- xs[a:c] = ys of another list, at the value level: sl is the slice object that was just made -/
theorem set_slice {pins : List (Addr × Obj)} {s : Shared} {σ : St} {H : Hp} {l b sl : Addr} {xs ys : List V} {a c : Int} {vl vu : Value} {Q : Unit → Shared → Prop} (I : Inv X pins σ H s)
    (hH : H l = some (.lst xs)) (hB : H b = some (.lst ys)) (hne : l ≠ b) (hs : s.heap.IsSliceOf sl vl vu .none) (ra : RelV (.int a) vl) (rc : RelV (.int c) vu) (h0 : 0 ≤ a) (hac : a ≤ c) (hc : c ≤ xs.length)
    (hz : xs.length + ys.length ≤ sizeLine) (h : ∀ s', Inv X pins σ (upd H l (.lst (xs.take a.toNat ++ ys ++ xs.drop c.toNat))) s' → Q () s') :
    wpAny (model X.prog X.w) X.A (setItem (.ref l) (.ref sl) (.ref b)) Q X.xe s := by
  obtain ⟨ta, rfl⟩ := ra
  obtain ⟨tc, rfl⟩ := rc
  obtain ⟨z, its, n, r, hl, e⟩ := I.lstM hH
  obtain ⟨z2, its2, n2, r2, hl2, e2⟩ := I.lstM hB
  obtain ⟨a', rfl⟩ := Int.eq_ofNat_of_zero_le h0
  obtain ⟨c', rfl⟩ := Int.eq_ofNat_of_zero_le (Int.le_trans h0 hac)
  simp only [Int.toNat_natCast] at h
  refine setItem_slice (a := a') (c := c') e e2 hne hs (.int _ _) (.int _ _) (by omega) (by rw [List.size_toArray]; omega) (by rw [List.size_toArray, List.size_toArray]; omega) (h _ ?_)
  refine I.lset (its' := its.take a' ++ its2 ++ its.drop c') (t' := s.toks) hH e ?_ (Vals.append (Vals.append (r.take _) r2) (r.drop _)) ?_
  · exact splice_eq its its2 a' c'
  · rw [List.length_append, List.length_append, List.length_take, List.length_drop]
    omega
end
end L2

namespace Att
open PySem PySem.W PySem.Calls PyProof.Rows

/-! ### the script -/
theorem ints_of_wellAll {P : Params} {h : Heap} : ∀ (ns : List Int) (vs : List Value), WellAll P h vs (ns.map WData.int) → IntsAre vs ns := by
  intro ns
  induction ns with
  | nil =>
    intro vs w
    rw [List.map_nil] at w
    cases w
    exact .nil
  | cons n ns ih =>
    intro vs w
    rw [List.map_cons] at w
    cases w with
    | cons a b =>
      cases a
      exact .cons _ _ (ih _ b)

theorem script_of {l : OpenLaw} {n : Nat} (hn : l.most = some n) {P : Params} {h : Heap} {args : List WData} {vals : List Value}
    (hpre : l.row.toRowW.claim.pre args = true) (hwl : WellAll P h vals args) :
    ∃ a vs ns, vals = [Value.ref a] ∧ args = [WData.list (ns.map WData.int)] ∧ h.get? a = some { cls := .type "list", data := .seq vs.toArray } ∧ IntsAre vs ns ∧ ns.length ≤ n := by
  have hsh : WShape.hasAll [] args [.list .int] = true := (pre_splitW hpre).1
  have hc : l.pre.holds [] { args := args } = true := (pre_splitW hpre).2
  obtain ⟨d, r, rfl, h1, h2⟩ := hasAllW_cons hsh
  obtain rfl := hasAllW_nil h2
  obtain ⟨xs, rfl, h3⟩ := hasW_list h1
  obtain ⟨ns, rfl⟩ := items_int h3
  have hlen : ns.length ≤ n := by
    unfold OpenLaw.pre at hc
    have h4 : (WTm.not (.lt (.lit (.int (n : Int))) (.len (.arg 0)))).holds [] { args := [.list (ns.map .int)] } = true := by
      have h4 := (holds_andW hc).1
      rw [hn] at h4
      exact h4
    have h5 := condW_of h4 (w_not (w_lt w_lit (w_len_list (w_arg rfl))))
    rw [List.length_map] at h5
    refine Nat.le_of_not_lt fun q => ?_
    have q' : (n : Int) < ((ns.length : Nat) : Int) := by omega
    first
      | (rw [decide_eq_true q'] at h5; exact absurd h5 (by decide))
      | (simp at h5; omega)
  cases hwl with
  | cons w1 w2 =>
    cases w2
    cases w1 with
    | list ho hall => exact ⟨_, _, ns, rfl, rfl, ho, ints_of_wellAll ns _ hall, hlen⟩

theorem post_true (l : OpenLaw) (args : List WData) : l.row.toRowW.claim.post args (.bool true) args = true :=
  postW_of (r := l.row.toRowW) (X := (true == true))
    (show WShape.has [] (.bool true) .bool = true by first | rfl | decide | simp [WShape.has, WShape.arms, WShape.armsAll])
    (show (WTm.eq .res (.lit (.bool true))).value [] { args := args, res := some (.bool true), after := args } = some (.bool (true == true)) from w_eq_bool (w_res rfl) w_lit) rfl

/-! ### the attachment: holds_open's last premise (the goal 'hc' behind k_head) from a wpAny of the law's body -/
theorem attach {l : OpenLaw} {n : Nat} {q : Program} {loose : List Str} {XP : (Str → Option Value) → Heap → Prop} {YP : World → Heap → Prop} {d : DefRec} {x : Str}
    (hn : l.most = some n) (hdf : d.params.defaults = [])
    (hbind : ∀ pm cd doc v : Value, bindArgs (docDef d.name d.params d.body d.scope pm cd doc) ⟨[v], []⟩ = pure [(x, v)])
    (hx : d.scope.names.lookup x = some .local ∨ d.scope.names.lookup x = some .cell)
    (hk : d.scope.kind = .function) (hco : d.scope.isCoroutine = false) (hgen : d.scope.isGenerator = false)
    (body : ∀ (w : World) (s₀ s₁ s : Shared) (mg mb : Str → Option Value) (fa : Addr) (o : Obj) (pm cd doc : Value) (a : Addr) (vs : List Value) (ns : List Int),
      Ground q loose [] XP w s₀ mg mb s₁.heap → YP w s₁.heap →
      s₁.heap.get? fa = some o → o.data = .func (docDef d.name d.params d.body d.scope pm cd doc) → s₁.heap.CodeRec cd d.name → mg d.name = some (.ref fa) →
      s₁.heap.get? a = some { cls := .type "list", data := .seq vs.toArray } → IntsAre vs ns → ns.length ≤ n →
      s.gens = #[] → s.os = s₁.os →
      Fr s₁.heap s₁.heap.objs.size s.heap (bindL (envOfC d.name d.scope s₁.heap.objs.size fa cd).kindOf [(x, .ref a)] fun _ => none) →
      Cl s₁.heap.objs.size (cellsFrom (s₁.heap.objs.size + 1) d.scope.names []) s.heap (bindC (envOfC d.name d.scope s₁.heap.objs.size fa cd).kindOf [(x, .ref a)] fun _ => none) →
      wpAny (model l.prog w) (callerA.deeper (envOfC d.name d.scope s₁.heap.objs.size fa cd)) (execs d.body (envOfC d.name d.scope s₁.heap.objs.size fa cd))
        (fun f s' => f = .ret (.bool true) ∧ OldK s₁.heap s'.heap ∧ s'.os = s₁.os ∧ AllBare s'.gens) (fun _ _ => False) s) :
    WalkO q loose XP YP l.row.toRowW d [] (fun f vs => PySem.call f vs) := by
  intro w s₀ s₁ mg mb G Y fa o pm cd doc dV kV ho hd hcd hD hmg hg args vals as hpre hlay hrd hwl hlo
  obtain rfl : dV = .none := Dflts.none hD hdf
  obtain rfl : kV = .none := Dflts.noKw hD
  obtain ⟨a, vs, ns, rfl, rfl, hobj, hints, hlen⟩ := script_of hn hpre hwl
  refine enter_call ?_
  refine call_cells_ret (o := o) (by rw [depth_caller]; decide) ho (fd_plain hd) G.T.nolimit hcd (hbind pm cd doc (.ref a)) (fun y hy => ?_) (fun h₁ tk F X => ?_) hco hgen hk
  · obtain rfl : y = (x, Value.ref a) := List.mem_singleton.mp hy
    rcases hx with e | e
    · exact .inl e
    · exact .inr ⟨e, cellsFrom_some _ _ _ (.inl e)⟩
  · refine wpAny_mono (body w s₀ s₁ { s₁ with heap := h₁, toks := tk } mg mb fa o pm cd doc a vs ns G Y ho (fd_plain hd) hcd hmg hobj hints hlen hg rfl F X) (fun f s' hq => ?_) (fun _ _ hq => hq)
    obtain ⟨rfl, h2, h3, h4⟩ := hq
    exact ⟨.inl ⟨.bool true, .bool true, [], rfl, fun _ => rfl, .bool true, post_true l _, fun _ => ⟨List.Pairwise.nil, fun _ hm => (nomatch hm)⟩⟩, h2, h3, h4⟩

/-- the same from a codeAny of the CALL (for a layer whose function contracts speak of calls) -/
theorem attach_call {l : OpenLaw} {n : Nat} {q : Program} {loose : List Str} {XP : (Str → Option Value) → Heap → Prop} {YP : World → Heap → Prop} {d : DefRec}
    (hn : l.most = some n) (hdf : d.params.defaults = [])
    (call : ∀ (w : World) (s₀ s₁ : Shared) (mg mb : Str → Option Value) (fa : Addr) (o : Obj) (pm cd doc : Value) (a : Addr) (vs : List Value) (ns : List Int),
      Ground q loose [] XP w s₀ mg mb s₁.heap → YP w s₁.heap →
      s₁.heap.get? fa = some o → o.data = .func (docDef d.name d.params d.body d.scope pm cd doc) → s₁.heap.CodeRec cd d.name → mg d.name = some (.ref fa) →
      s₁.heap.get? a = some { cls := .type "list", data := .seq vs.toArray } → IntsAre vs ns → ns.length ≤ n → s₁.gens = #[] →
      codeAny (model l.prog w) callerA (.call (.ref fa) ⟨[.ref a], []⟩) (fun r s' => r = .ok (.ret (.bool true)) ∧ OldK s₁.heap s'.heap ∧ s'.os = s₁.os ∧ AllBare s'.gens) s₁) :
    WalkO q loose XP YP l.row.toRowW d [] (fun f vs => PySem.call f vs) := by
  intro w s₀ s₁ mg mb G Y fa o pm cd doc dV kV ho hd hcd hD hmg hg args vals as hpre hlay hrd hwl hlo
  obtain rfl : dV = .none := Dflts.none hD hdf
  obtain rfl : kV = .none := Dflts.noKw hD
  obtain ⟨a, vs, ns, rfl, rfl, hobj, hints, hlen⟩ := script_of hn hpre hwl
  refine enter_call (codeAny_mono (call w s₀ s₁ mg mb fa o pm cd doc a vs ns G Y ho (fd_plain hd) hcd hmg hobj hints hlen hg) fun r s' hq => ?_)
  obtain ⟨rfl, h2, h3, h4⟩ := hq
  exact ⟨.inl ⟨.bool true, .bool true, [], rfl, fun _ => rfl, .bool true, post_true l _, fun _ => ⟨List.Pairwise.nil, fun _ hm => (nomatch hm)⟩⟩, h2, h3, h4⟩

/-- the same where the top left finished generators (o_head chose holds_openN): nothing may have changed at all and no generator may be left -/
theorem attachN {l : OpenLaw} {n : Nat} {q : Program} {loose : List Str} {XP : (Str → Option Value) → Heap → Prop} {YP : World → Heap → Prop} {d : DefRec} {x : Str}
    (hn : l.most = some n) (hdf : d.params.defaults = [])
    (hbind : ∀ pm cd doc v : Value, bindArgs (docDef d.name d.params d.body d.scope pm cd doc) ⟨[v], []⟩ = pure [(x, v)])
    (hx : d.scope.names.lookup x = some .local ∨ d.scope.names.lookup x = some .cell)
    (hk : d.scope.kind = .function) (hco : d.scope.isCoroutine = false) (hgen : d.scope.isGenerator = false)
    (body : ∀ (w : World) (s₀ s₁ s : Shared) (mg mb : Str → Option Value) (fa : Addr) (o : Obj) (pm cd doc : Value) (a : Addr) (vs : List Value) (ns : List Int),
      Ground q loose [] XP w s₀ mg mb s₁.heap → YP w s₁.heap →
      s₁.heap.get? fa = some o → o.data = .func (docDef d.name d.params d.body d.scope pm cd doc) → s₁.heap.CodeRec cd d.name → mg d.name = some (.ref fa) →
      s₁.heap.get? a = some { cls := .type "list", data := .seq vs.toArray } → IntsAre vs ns → ns.length ≤ n →
      s.gens = #[] → s.os = s₁.os →
      Fr s₁.heap s₁.heap.objs.size s.heap (bindL (envOfC d.name d.scope s₁.heap.objs.size fa cd).kindOf [(x, .ref a)] fun _ => none) →
      Cl s₁.heap.objs.size (cellsFrom (s₁.heap.objs.size + 1) d.scope.names []) s.heap (bindC (envOfC d.name d.scope s₁.heap.objs.size fa cd).kindOf [(x, .ref a)] fun _ => none) →
      wpAny (model l.prog w) (callerA.deeper (envOfC d.name d.scope s₁.heap.objs.size fa cd)) (execs d.body (envOfC d.name d.scope s₁.heap.objs.size fa cd))
        (fun f s' => f = .ret (.bool true) ∧ (∀ b o, s₁.heap.get? b = some o → s'.heap.get? b = some o) ∧ s'.os = s₁.os ∧ s'.gens = #[]) (fun _ _ => False) s) :
    WalkN q loose XP YP l.row.toRowW d [] (fun f vs => PySem.call f vs) := by
  intro w s₀ s₁ mg mb G Y fa o pm cd doc dV kV ho hd hcd hD hmg hg args vals as hpre hlay hrd hwl hlo
  obtain rfl : dV = .none := Dflts.none hD hdf
  obtain rfl : kV = .none := Dflts.noKw hD
  obtain ⟨a, vs, ns, rfl, rfl, hobj, hints, hlen⟩ := script_of hn hpre hwl
  refine enter_callW ?_
  refine call_cells_ret (o := o) (by rw [depth_caller]; decide) ho (fd_plain hd) G.T.nolimit hcd (hbind pm cd doc (.ref a)) (fun y hy => ?_) (fun h₁ tk F X => ?_) hco hgen hk
  · obtain rfl : y = (x, Value.ref a) := List.mem_singleton.mp hy
    rcases hx with e | e
    · exact .inl e
    · exact .inr ⟨e, cellsFrom_some _ _ _ (.inl e)⟩
  · refine wpAny_mono (body w s₀ s₁ { s₁ with heap := h₁, toks := tk } mg mb fa o pm cd doc a vs ns G Y ho (fd_plain hd) hcd hmg hobj hints hlen hg rfl F X) (fun f s' hq => ?_) (fun _ _ hq => hq)
    obtain ⟨rfl, h2, h3, h4⟩ := hq
    exact ⟨.inl ⟨.bool true, .bool true, [], rfl, fun _ => rfl, .bool true, post_true l _, fun _ => ⟨List.Pairwise.nil, fun _ hm => (nomatch hm)⟩⟩, h2, h3, h4⟩

/-! ### rules over ANY heap (no ledger) from facts about the written part K: the library's own take a ledger (News) for what they write -/
section
variable {prog : Program} {w : World} {A : Around} {E : Value → Shared → Prop} {s : Shared} {K : Frag}

/-- a def of the module, or a method (qual 'C.m'), entered: the frame is the next address; cells behind it -/
theorem call_fn {R : Result → Shared → Prop} {name qual : Str} {params : Arguments} {body : List Stmt} {scope : Scope} {dV kV doc pm cdv ct oc : Value} {an od : Option Addr} {osl : Array (Option Value)} {f : Addr} {args : Args} {binds : List (Str × Value)}
    (X : K.In s.heap) (hlim : s.heap.NoLimit) (ho : K.lookup f = some ⟨oc, od, .func (fnOf name qual params body scope dV kV doc pm an cdv ct), osl⟩) (hcd : codeIn K cdv qual = true) (hroom : A.depth < recursionLimit)
    (hbind : BindsTo s (fnOf name qual params body scope dV kV doc pm an cdv ct) args binds)
    (hkind : (binds.all fun y => scope.names.lookup y.1 == some .local || scope.names.lookup y.1 == some .cell) = true)
    (h : ∀ s₁, InCallC s s.heap.objs.size (bindL (envOfC qual scope s.heap.objs.size f cdv).kindOf binds fun _ => none) (cellsFrom (s.heap.objs.size + 1) scope.names [])
        (bindC (envOfC qual scope s.heap.objs.size f cdv).kindOf binds fun _ => none) s₁ →
      wpAny (model prog w) (A.deeper (envOfC qual scope s.heap.objs.size f cdv)) (execs body (envOfC qual scope s.heap.objs.size f cdv))
        (fun fl s' => R (.ok (.ret (match fl with | .ret v => v | _ => .none))) s')
        (fun e s' => wpAny (model prog w) (A.deeper (envOfC qual scope s.heap.objs.size f cdv)) (leaving (envOfC qual scope s.heap.objs.size f cdv) e) (fun _ s'' => R (.error e) s'') (fun e' s'' => R (.error e') s'') s') s₁)
    (hco : scope.isCoroutine = false) (hgen : scope.isGenerator = false) (hk : scope.kind = .function) : codeAny (model prog w) A (.call (.ref f) args) R s := by
  refine codeAny_call_function hroom (X _ _ ho) rfl hco hgen rfl (codeRec_of X hcd) (hbind _ _ _ _ ?_)
  refine wpAny_newFunctionEnv_cells hk (kindsX hkind _) fun env he s₁ x => ?_
  subst he
  exact ⟨hlim.keeps x.toInCall.keep, codeAny_func (h s₁ x)⟩

/-- C(..): dict at size, instance at size + 1, then __init__ -/
theorem make_obj {R : Result → Shared → Prop} {C fI : Addr} {rest : List Value} {kw : List (Str × Value)}
    (X : K.In s.heap) (hm : makesIn K C = true) (hi : findIn K (.ref C) "__init__" = some (some (.ref fI))) (hf : isFn K (.ref fI) = true)
    (h : codeAny (model prog w) (A.under (.builtin "type.__call__" ⟨.ref C :: rest, kw⟩)) (.call (.ref fI) ⟨.ref (s.heap.objs.size + 1) :: rest, kw⟩) (InitBack (s.heap.objs.size + 1) R)
      { s with heap := (s.heap.push emptyDict).push (instObj C s.heap.objs.size) }) : codeAny (model prog w) A (.call (.ref C) ⟨rest, kw⟩) R s := by
  obtain ⟨hh, g, d, t, os⟩ := s
  exact make_core (makes_of X hm) (looks_findIn X hi) (fun self => bind_fn X self (beq_iff_eq.mp hf)) (.inl rfl) h

/-- x.name where the instance's dict holds the name and the class does not -/
theorem get_field {x C : Addr} {ox : Obj} {es : List DictEntry} {n : Nat} {name : Str} {expr : Bool} {v : Value} {Q : Value → Shared → Prop}
    (X : K.In s.heap) (I : PySem.W.InstAt s.heap x ox C (some (dictOf es n))) (hg : plainGet K C name = true) (hh : hasDictIn K C = true) (ha : findIn K (.ref C) name = some none)
    (hl : getL name es = some (some v)) (hv : handedIn v = true) (h : Q v { s with toks := s.toks + 1 }) : wpAny (model prog w) A (getAttr (.ref x) name expr) Q E s :=
  get_value X I (plainGet_of hg).1 (findObj_own hh ha rfl hl) hv h

/-- x.m(..): the method found in the class -/
theorem get_method {x C f : Addr} {ox : Obj} {es : List DictEntry} {n : Nat} {name : Str} {pl : Sem Bool} {Q : Value × List Value → Shared → Prop}
    (X : K.In s.heap) (I : PySem.W.InstAt s.heap x ox C (some (dictOf es n))) (hg : plainGet K C name = true) (hf : findIn K (.ref C) name = some (some (.ref f))) (ht : isFn K (.ref f) = true)
    (hl : getL name es = some none) (h : Q (.ref f, [.ref x]) s) : wpAny (model prog w) A (getMethod (.ref x) name pl) Q E s :=
  method_fn X I (plainGet_of hg).1 (plainGet_of hg).2 hf (beq_iff_eq.mp ht) (by show (lookIn name (dictOf es n)).map _ = _; rw [lookIn_dict, hl]; rfl) h

/-! the whole heap as the ledger: makes every rule that writes through a ledger a rule over any heap -/
def noObjs (h : Heap) : Heap := { h with objs := #[] }
theorem noObjs_get (h : Heap) (b : Addr) : (noObjs h).get? b = none := by
  cases e : (noObjs h).get? b with
  | none => rfl
  | some o => exact absurd (Heap.lt_size e) (Nat.not_lt_zero _)
def ledger (h : Heap) (L d : Addr) : List (Addr × Obj) := (List.range h.objs.size).filterMap fun a => if a = L ∨ a = d then none else (h.get? a).map fun o => (a, o)
theorem mem_ledger {h : Heap} {L d a : Addr} {o : Obj} : (a, o) ∈ ledger h L d ↔ a ≠ L ∧ a ≠ d ∧ h.get? a = some o := by
  unfold ledger
  rw [List.mem_filterMap]
  constructor
  · rintro ⟨b, _, e⟩
    split at e
    · cases e
    · rename_i hb
      obtain ⟨o', ho, e'⟩ := Option.map_eq_some_iff.mp e
      cases e'
      exact ⟨fun q => hb (.inl q), fun q => hb (.inr q), ho⟩
  · rintro ⟨n1, n2, ho⟩
    refine ⟨a, List.mem_range.mpr (Heap.lt_size ho), ?_⟩
    rw [if_neg (show ¬ (a = L ∨ a = d) from fun q => q.elim n1 n2), ho] <;> rfl
theorem news_ledger {h : Heap} {L d : Addr} {od : Obj} (hne : d ≠ L) (ho : h.get? d = some od) : News (noObjs h) L h ([] ++ (d, od) :: ledger h L d) := by
  rintro ⟨a, o⟩ hp
  rcases List.mem_cons.mp hp with e | hp
  · cases e
    exact ⟨ho, hne, noObjs_get _ _⟩
  · obtain ⟨n1, n2, e⟩ := mem_ledger.mp hp
    exact ⟨e, n1, noObjs_get _ _⟩
theorem fr_all {h : Heap} {L : Addr} {m : Str → Option Value} (n : h.Ns L m) : Fr (noObjs h) L h m :=
  ⟨n, fun b o e => (by rw [noObjs_get] at e; cases e), Nat.zero_le _⟩
/-- Upd of the head entry (for append_K, setItem_K ..) -/
theorem upd_ledger {h : Heap} {L d : Addr} {o o' : Obj} : Upd d o o' ((d, o) :: ledger h L d) ((d, o') :: ledger h L d) :=
  .head fun ⟨_, _⟩ hp => (mem_ledger.mp hp).2.1

/-- x.name = v over any heap: L is any namespace of the heap (the frame's, say): its map stays, its object is not told; all else but the dict stays -/
theorem set_field {x C dx L : Addr} {ox : Obj} {m : Str → Option Value} {es es' : List DictEntry} {n n' : Nat} {name : Str} {v : Value} {Q : Unit → Shared → Prop}
    (X : K.In s.heap) (I : PySem.W.InstAt s.heap x ox C (some (dictOf es n))) (hd : ox.dict = some dx) (hL : s.heap.Ns L m) (hne : dx ≠ L)
    (hs : findIn K (.ref C) "__setattr__" = some (some (.builtin "object.__setattr__"))) (hp : plainOver K C = true) (ht : takerIn K C name = some none) (hh : hasDictIn K C = true) (hl : (getL name es).isSome = true)
    (e : (putL name (PyData.keyHash w.params name) (.str name (s.toks + 1)) v es, putN name es n) = (es', n')) (hz : es'.length ≤ 1000)
    (h : ∀ h' : Heap, h'.Ns L m → h'.get? dx = some (dictOf es' n') → (∀ b o, b ≠ dx → b ≠ L → s.heap.get? b = some o → h'.get? b = some o) → Q () { s with heap := h', toks := s.toks + 2 }) :
    wpAny (model prog w) A (setAttr (.ref x) name v) Q E s := by
  obtain ⟨e1, e2⟩ := Prod.mk.inj e
  have hdx : s.heap.get? dx = some (dictOf es n) := by
    have := I.dict
    rw [hd] at this
    exact this
  refine set_plain X I hs (osa_dict (s := { s with toks := s.toks + 1 }) (h₀ := noObjs s.heap) (L := L) (m := m) (od := dictOf es n) (od' := dictOf es' n') (es := es') (n := n') (pre := []) (post := ledger s.heap L dx)
    (fr_all hL) (news_ledger hne hdx) X I hd hp ht hh hl (fun _ q => nomatch q) (fun ⟨_, _⟩ q => (mem_ledger.mp q).2.1) (by rw [putName_dict, e1, e2]) rfl hz fun h' F' N' => ?_)
  exact h h' F'.ns (N'.get (List.Mem.head _)) fun b o n1 n2 ho => N'.get (List.Mem.tail _ (mem_ledger.mpr ⟨n2, n1, ho⟩))
end
end Att

namespace L2
open PySem PySem.Spec PyProof.Rows

theorem vals_ints : ∀ {vs : List Value} {ns : List Int}, IntsAre vs ns → Vals (ns.map V.int) vs
  | _, _, .nil => .nil
  | _, _, .cons n t h => .cons ⟨t, rfl⟩ (vals_ints h)

/-- nothing is tracked but the script, known to the object (or it is an object of the module) -/
def Only (H : Hp) : Prop := ∀ b, H b = none ∨ ∃ o xs, H b = some (.frz o (.lst xs))

/-- THE HEAD: the law's promise, at the heap behind the top. F, the promise of the law's def, may use that base is part of the heap (so K.In base, base.Ns mainGlobals mg stand in Mod) -/
theorem law_call {P : Program} {w : World} {K : PySem.W.Frag} {mg mb : Str → Option Value} {CX : CXT} {k : Nat} {fa a : Addr} {fd : FuncData} {x : Str} {sp : Sp} {s₁ : Shared} {vs : List Value} {ns : List Int}
    (KX : K.In s₁.heap) (hns : s₁.heap.Ns mainGlobals mg) (hb : s₁.heap.Ns builtinsNs mb) (hbb : ∀ x : Str, x ≠ "__name__" → mb x = bootBuiltins x) (hlim : s₁.heap.NoLimit) (hg : s₁.gens = #[])
    (ha : s₁.heap.get? a = some { cls := .type "list", data := .seq vs.toArray }) (hi : IntsAre vs ns) (hl : ns.length ≤ sizeLine) (hr : Room k callerA)
    (F : ∀ base : Heap, K.In base → base.Ns mainGlobals mg → FnOk P w K mg base CX k fa fd [x] sp) (hbind : ∀ (s : Shared) (u : Value), BindsTo s fd ⟨[u], []⟩ [(x, u)])
    (hsp : ∀ H : Hp, Only H → SqL K H a (ns.map V.int) → sp [.ref a] H (fun v _ => v = .bl true) fun _ _ _ => False)
    (hCX : ∀ H e s', CX [] H s₁ (fun _ _ _ => False) e s' → False) :
    codeAny (model P w) callerA (.call (.ref fa) ⟨[.ref a], []⟩) (fun r s' => r = .ok (.ret (.bool true)) ∧ OldK s₁.heap s'.heap ∧ s'.os = s₁.os ∧ AllBare s'.gens) s₁ := by
  have rv := vals_ints hi
  have lenV := hi.length
  -- from an abstract heap in which nothing but the script may be tracked
  have core : ∀ H : Hp, Only H → SqL K H a (ns.map V.int) → HOk P w H s₁.heap → (∀ b, H b ≠ none → b = a) → (H a ≠ none → K.lookup a = none) →
      codeAny (model P w) callerA (.call (.ref fa) ⟨[.ref a], []⟩) (fun r s' => r = .ok (.ret (.bool true)) ∧ OldK s₁.heap s'.heap ∧ s'.os = s₁.os ∧ AllBare s'.gens) s₁ := by
    intro H hO hS hok hA hK
    have base_of : ∀ {b : Addr} {o : Obj}, s₁.heap.get? b = some o → H b = none → (hidT s₁.heap H).get? b = some o := fun e n => hidT_get e n
    have noA : ∀ {b : Addr} {o : Obj} {es : Array DictEntry} {ep : Nat}, s₁.heap.get? b = some o → o.data = .dict es ep → H b = none := fun {b o es ep} e d => by
      cases q : H b with
      | none => rfl
      | some u =>
        have e' : b = a := hA b (by rw [q]; simp)
        subst e'
        rw [ha] at e; cases e
        have d' : Data.seq vs.toArray _ = Data.dict es ep := d
        cases d'
    have nsK : ∀ {b : Addr} {m : Str → Option Value}, s₁.heap.Ns b m → (hidT s₁.heap H).Ns b m := fun {b m} ⟨o, es, ep, e, d, r⟩ => ⟨o, es, ep, base_of e (noA e d), d, r⟩
    have hKb : K.In (hidT s₁.heap H) := fun b o e => base_of (KX b o e) (by
      cases q : H b with
      | none => rfl
      | some u =>
        have e' : b = a := hA b (by rw [q]; simp)
        subst e'
        rw [hK (by rw [q]; simp)] at e; cases e)
    have hM : Mod K mg (hidT s₁.heap H) := ⟨hKb, nsK hns, ⟨mb, nsK hb, hbb⟩, let ⟨mc, h1, h2⟩ := hlim; ⟨mc, nsK h1, h2⟩⟩
    have e0 : Env0 P w K mg (hidT s₁.heap H) callerA [] s₁ H := ⟨rfl, hM, fun b o e => of_hidT e, Nat.le_of_eq (hidT_size _ _), trivial, fun b hb => absurd (show b ∈ ([] : List Addr) from hb) (by simp), hok, .of_eq hg⟩
    refine codeAny_mono ((F _ hKb (nsK hns)).run callerA [] s₁ H ⟨[.ref a], []⟩ [.ref a] [.ref a] _ _ hr e0 (hbind s₁ (.ref a)) (.cons rfl .nil) (hsp H hO hS)) fun r s' h => ?_
    cases r with
    | error e => exact (hCX H e s' h).elim
    | ok fl =>
      cases fl with
      | next => exact False.elim h
      | brk => exact False.elim h
      | cont => exact False.elim h
      | ret u =>
        obtain ⟨v, H', os, bare, un, hok', r', q⟩ := h
        have q' : v = .bl true := q
        subst q'
        obtain rfl : u = Value.bool true := r'
        refine ⟨rfl, OldK.of_keep fun b o e => ?_, os, bare⟩
        cases q : H b with
        | none => exact un.keep b o e q (by intro z; exact absurd (show b ∈ ([] : List Addr) from z) (by simp)) (by simp)
        | some u =>
          rcases hO b with z | ⟨ob, xs, z⟩
          · rw [q] at z; cases z
          · have z2 := un.frzs b ob _ z
            obtain ⟨e1, _⟩ := hok b _ z
            obtain ⟨e2, _⟩ := hok' b _ z2
            rw [e] at e1; cases e1
            exact e2
  cases hk : K.lookup a with
  | some o =>
    -- the script is one of the module's own objects
    have e := KX a o hk
    rw [ha] at e
    cases e
    refine core (fun _ => none) (fun _ => .inl rfl) (.inr ⟨_, vs.toArray, _, hk, rfl, rfl, rfl, by rw [List.size_toArray, lenV]; exact hl, by simpa using rv⟩) (fun b u z => by have z' : (none : Option HO) = some u := z; cases z') (fun b z => absurd rfl z) fun z => absurd rfl z
  | none =>
    refine core (fun b => if b = a then some (.frz { cls := .type "list", data := .seq vs.toArray } (.lst (ns.map V.int))) else none) (fun b => ?_) (.inl (.inr ⟨{ cls := .type "list", data := .seq vs.toArray }, if_pos rfl⟩)) (fun b u z => ?_) (fun b z => ?_) fun _ => hk
    · by_cases hb : b = a
      · exact .inr ⟨_, _, if_pos hb⟩
      · exact .inl (if_neg hb)
    · by_cases hb : b = a
      · have z' := (if_pos hb).symm.trans z
        cases z'
        subst hb
        exact ⟨ha, by rw [List.length_map]; exact hl, vs, _, rv, ha⟩
      · have z' := (if_neg hb).symm.trans z
        cases z'
    · by_cases hb : b = a
      · exact hb
      · exact absurd (if_neg hb) z
end L2

namespace L2
open PySem PySem.Spec PyProof.Rows

abbrev KOf {K : PySem.W.Frag} {h : Heap} (_ : K.In h) : PySem.W.Frag := K

/-- the goal that k_head leaves (case hc), from the law's promise. F gives the function object fd (K's own) once, then the promise over every base -/
theorem walk_of {l : PySem.W.OpenLaw} {n k : Nat} {q : Program} {loose : List Str} {XP : (Str → Option Value) → Heap → Prop} {YP : World → Heap → Prop} {d : DefRec} {K : Params → PySem.W.Frag} {CX : World → CXT} {sp : World → Sp} {x : Str}
    (hn : l.most = some n) (hn2 : n ≤ sizeLine) (hdf : d.params.defaults = []) (hr : Room k callerA)
    (hY : ∀ (w : World) (h : Heap), YP w h → (K w.params).In h)
    (F : ∀ (w : World) (mg : Str → Option Value) (fa : Addr) (h : Heap), (K w.params).In h → h.Ns mainGlobals mg → mg d.name = some (.ref fa) →
      ∃ fd : FuncData, (∀ (s : Shared) (u : Value), BindsTo s fd ⟨[u], []⟩ [(x, u)]) ∧
        ∀ base : Heap, (K w.params).In base → base.Ns mainGlobals mg → FnOk l.prog w (K w.params) mg base (CX w) k fa fd [x] (sp w))
    (hsp : ∀ (w : World) (H : Hp) (a : Addr) (ns : List Int), ns.length ≤ n → Only H → SqL (K w.params) H a (ns.map V.int) → sp w [.ref a] H (fun v _ => v = .bl true) fun _ _ _ => False)
    (hCX : ∀ (w : World) (H : Hp) (s : Shared) (e : Value) (s' : Shared), CX w [] H s (fun _ _ _ => False) e s' → False) :
    PySem.W.WalkO q loose XP YP l.row.toRowW d [] (fun f vs => PySem.call f vs) := by
  refine Att.attach_call hn hdf fun w s₀ s₁ mg mb fa o pm cd doc a vs ns G Y ho hd hcd hmg hobj hints hlen hg => ?_
  have KX := hY w _ Y
  obtain ⟨fd, hb, hF⟩ := F w mg fa _ KX G.T.g hmg
  exact law_call KX G.T.g G.T.b G.T.builtins G.T.nolimit hg hobj hints (Nat.le_trans hlen hn2) hr hF hb (fun H hO hS => hsp w H a ns hlen hO hS) fun H e s' => hCX w H s₁ e s'
/-- the same where the promise hangs on the written part alone: (sp := My.sp_law), no hole under a binder -/
theorem walk_ofK {l : PySem.W.OpenLaw} {n k : Nat} {q : Program} {loose : List Str} {XP : (Str → Option Value) → Heap → Prop} {YP : World → Heap → Prop} {d : DefRec} {K : Params → PySem.W.Frag} {CX : CXT} {sp : PySem.W.Frag → Sp} {x : Str}
    (hn : l.most = some n) (hn2 : n ≤ sizeLine) (hdf : d.params.defaults = []) (hr : Room k callerA)
    (hY : ∀ (w : World) (h : Heap), YP w h → (K w.params).In h)
    (F : ∀ (w : World) (mg : Str → Option Value) (fa : Addr) (h : Heap), (K w.params).In h → h.Ns mainGlobals mg → mg d.name = some (.ref fa) →
      ∃ fd : FuncData, (∀ (s : Shared) (u : Value), BindsTo s fd ⟨[u], []⟩ [(x, u)]) ∧
        ∀ base : Heap, (K w.params).In base → base.Ns mainGlobals mg → FnOk l.prog w (K w.params) mg base CX k fa fd [x] (sp (K w.params)))
    (hsp : ∀ (K : PySem.W.Frag) (H : Hp) (a : Addr) (ns : List Int), ns.length ≤ n → Only H → SqL K H a (ns.map V.int) → sp K [.ref a] H (fun v _ => v = .bl true) fun _ _ _ => False)
    (hCX : ∀ (H : Hp) (s : Shared) (e : Value) (s' : Shared), CX [] H s (fun _ _ _ => False) e s' → False) :
    PySem.W.WalkO q loose XP YP l.row.toRowW d [] (fun f vs => PySem.call f vs) :=
  walk_of (K := K) (CX := fun _ => CX) (sp := fun w => sp (K w.params)) hn hn2 hdf hr hY F (fun w H a ns h1 h2 h3 => hsp (K w.params) H a ns h1 h2 h3) fun _ H s e s' => hCX H s e s'
end L2

/- THE LAST THEOREM (shape; LID, My.* are yours):
   My.Adr: a structure of the addresses that your layer names (classes, functions); My.Txt K t: a structure (Prop) of the equations over K;
   My.txt_mk : {K} {implicit addresses ..} (e1 : nsIn K mainGlobals "law" = some (some (.ref f))) (e2 : K.lookup f = some ⟨oc, od, .func (fnOf "law" "law" params body scope dV kV doc pm an cdv ct), sl⟩) (e3 : codeIn K cdv "law" = true) .. : ∃ t, My.Txt K t

set_option maxRecDepth 100000 in
set_option maxHeartbeats 0 in
theorem PySem.Challenge.cw_LID_holds : PySem.Challenge.rw_LID.Holds := by
  w_on; o_law; k_head; (case hw => w_witness2)
  k_fill
  refine L2.walk_of (l := PySem.Challenge.rw_LID) (n := 63) (k := 40) (x := "script") (CX := fun w => ..) (sp := fun _ => My.sp_law) rfl (by decide) rfl ⟨rfl, by decide, by decide⟩ (fun w h Y => PySem.W.kIn_of Y) ?F ?S ?C
  case F =>
    intro w mg fa h KX G hmg
    have T : ∃ t, My.Txt (L2.KOf KX) t := by
      dsimp only [L2.KOf]                          -- K must stand as «<heap const> w.params» for k_is
      refine' My.txt_mk ?e1 ?e2 ?e3 ..
      (case e1 => PySem.W.k_is)                    -- in the order: a name -> its address -> its object -> its parts
      (case e2 => PySem.W.k_is)
      ..
    obtain ⟨t, T⟩ := T
    have e0 := hmg.symm.trans (PySem.W.mg_of KX G T.law)
    cases e0                                       -- fa is the law's own address
    exact ⟨_, fun s u => .of_eq rfl, fun base kb nb => My.law_fn T kb nb⟩     -- if «.of_eq rfl» comes too early: refine' ⟨_, ?b, fun base kb nb => My.law_fn T kb nb⟩; exact fun s u => .of_eq rfl
  case S => exact fun w H a ns hl hO hS => ..
  case C => exact ..
(the tactic k_is has no namespace: write k_is) -/

/-! SHORT WORDS over the layer: a def of the text, its body, what a loop and a test want. -/
namespace L2
open PySem PySem.Spec PyProof.Rows

/-! ### the text by places -/
/-- the j-th statement of a class's body -/
def inClass (s : Stmt) (j : Nat) : Stmt := match s with
  | .ClassDef _ _ _ body _ _ _ _ _ _ _ => body.getD j (.Pass ⟨0, 0, 0, 0⟩)
  | _ => .Pass ⟨0, 0, 0, 0⟩
def defArgs (s : Stmt) : Arguments := match s with
  | .FunctionDef _ a _ _ _ _ _ _ _ _ => a
  | _ => { posonlyargs := [], args := [], vararg := none, kwonlyargs := [], kw_defaults := [], kwarg := none, defaults := [] }
def defBody (s : Stmt) : List Stmt := match s with
  | .FunctionDef _ _ b _ _ _ _ _ _ _ => b
  | _ => []
def defScope (s : Stmt) : Scope := match s with
  | .FunctionDef _ _ _ _ _ _ sc _ _ _ => sc
  | _ => { kind := .function, names := [], isGenerator := false, isCoroutine := false }

/-! ### no exception leaves a def -/
abbrev CX0 : CXT := fun _ _ _ _ _ _ => False
abbrev E0 : XK := fun _ _ _ => False
theorem pass0 {X : Cx} : Passes CX0 X E0 := fun _ _ _ _ _ _ _ h => h.elim

/-! ### a def (or method) of the text as it stands behind the top -/
structure Fun (K : PySem.W.Frag) (x qual : Str) (st : Stmt) (f : Addr) (fd : FuncData) : Prop where
  ex : ∃ (oc : Value) (od : Option Addr) (kV doc pm : Value) (an : Option Addr) (cdv ct : Value) (osl : Array (Option Value)),
    fd = PySem.W.fnOf x qual (defArgs st) (defBody st) (defScope st) .none kV doc pm an cdv ct ∧ K.lookup f = some ⟨oc, od, .func fd, osl⟩ ∧ PySem.W.codeIn K cdv qual = true
  kp : PySem.W.keepIn K (.ref f) = true
section
variable {P : Program} {w : World} {K : PySem.W.Frag} {mg : Str → Option Value} {base : Heap}
/-- THE RULE for a def: its body as a term of rules, and the reading of that term -/
theorem Fun.ok {x qual : Str} {st : Stmt} {f : Addr} {fd : FuncData} {N ps : List Str} {k : Nat} {sp : Sp} (F : Fun K x qual st f fd) (S : FnScope N ps (defScope st)) (len : ∀ vs H Q E, sp vs H Q E → vs.length = ps.length)
    (hbody : ∀ (cdv : Value) (A : Around) (outer : List Env) (s : Shared) (H : Hp) (vs : List V) (Q : VK) (E : XK), Room k (A.deeper (envOfC qual (defScope st) s.heap.objs.size f cdv)) → sp vs H Q E →
      ∃ t, PSs (cxOf CX0 P w K mg base N qual (defScope st) f cdv A outer s H E).nox (defBody st) t ∧ t { nx := fun _ H' => Q .non H', rt := Q } (start N vs) H) : FnOk P w K mg base CX0 (k + 1) f fd ps sp := by
  obtain ⟨oc, od, kV, doc, pm, an, cdv, ct, osl, rfl, lk, hcd⟩ := F.ex
  refine fn_of lk hcd S len fun A outer s H vs Q E hr hsp => ?_
  obtain ⟨t, h, q⟩ := hbody cdv A outer s H vs Q E hr hsp
  exact ⟨t, h.nox, q⟩
/-- how its arguments bind (no defaults): h is «fun _ _ _ _ _ _ us hl => match us, hl with | [_, _], _ => rfl», one _ a parameter -/
theorem Fun.binds {x qual : Str} {st : Stmt} {f : Addr} {fd : FuncData} {ps : List Str} (F : Fun K x qual st f fd)
    (h : ∀ (kV doc pm : Value) (an : Option Addr) (cdv ct : Value) (us : List Value), us.length = ps.length → bindArgs (PySem.W.fnOf x qual (defArgs st) (defBody st) (defScope st) .none kV doc pm an cdv ct) ⟨us, []⟩ = pure (ps.zip us)) : Binds K fd ps [] := by
  obtain ⟨oc, od, kV, doc, pm, an, cdv, ct, osl, rfl, lk, hcd⟩ := F.ex
  exact .all (h kV doc pm an cdv ct)
theorem fun_mk {x qual : Str} {st : Stmt} {f : Addr} {oc : Value} {od an : Option Addr} {osl : Array (Option Value)} {kV doc pm cdv ct : Value} (l : K.lookup f = some ⟨oc, od, .func (PySem.W.fnOf x qual (defArgs st) (defBody st) (defScope st) .none kV doc pm an cdv ct), osl⟩)
    (c : PySem.W.codeIn K cdv qual = true) (k : PySem.W.keepIn K (.ref f) = true) : Fun K x qual st f (PySem.W.fnOf x qual (defArgs st) (defBody st) (defScope st) .none kV doc pm an cdv ct) := ⟨⟨oc, od, kV, doc, pm, an, cdv, ct, osl, rfl, l, c⟩, k⟩
end
theorem hu_of {A : Around} {k : Nat} (hr : Room k A) : A.units + 1 < cLine := Nat.lt_of_le_of_lt (Nat.add_le_add_left (by decide : 1 ≤ 64) _) hr.units
theorem small1000 {n : Nat} (h : n ≤ 1000) : n < sizeLine := Nat.lt_of_le_of_lt h (by decide)

/-! ### expressions in short: the name that stands in the i-th slot -/
section
variable {X : Cx}
theorem pv (i : Nat) {x : Str} {pos : Pos} (hN : X.N[i]? = some x := by rfl) (hv : Vis X.env.scope x := by first | exact Or.inl rfl | exact Or.inr (Or.inl rfl) | exact Or.inr (Or.inr rfl)) (hd : (x == ("__debug__" : Str)) = false := by decide)
    (hcd : (x == ("__classdict__" : Str)) = false := by decide) : PE X (.Name x pos) (tVar i) := pe_var hN hv hd hcd
end

/-! ### tests -/
theorem iteF {A B : Prop} (h : B) : if false = true then A else B := by
  rw [if_neg Bool.false_ne_true]
  exact h
theorem iteT {A B : Prop} (h : A) : if true = true then A else B := by
  rw [if_pos rfl]
  exact h
theorem ite2 {c A B : Prop} [Decidable c] (h1 : c → A) (h2 : ¬ c → B) : if c then A else B := by
  by_cases h : c
  · rw [if_pos h]
    exact h1 h
  · rw [if_neg h]
    exact h2 h
theorem iteNS {c A B : Prop} [Decidable c] (hc : c) (h : B) : if (!decide c) = true then A else B := by
  rw [decide_eq_true hc]
  exact iteF h

/-! ### heaps -/
/-- all that was tracked is as it was -/
def Same (H H' : Hp) : Prop := ∀ b o, H b = some o → H' b = some o
theorem Same.refl (H : Hp) : Same H H := fun _ _ h => h
theorem Same.trans {H H1 H2 : Hp} (a : Same H H1) (b : Same H1 H2) : Same H H2 := fun c o h => b c o (a c o h)
theorem Same.free {H H' : Hp} (e : Same H H') {l : Addr} (h : H' l = Option.none) : H l = Option.none := by
  cases q : H l with
  | none => rfl
  | some o =>
    rw [e l o q] at h
    cases h
theorem Same.seq {K : PySem.W.Frag} {H H' : Hp} {a : Addr} {xs : List V} (e : Same H H') (h : SqL K H a xs) : SqL K H' a xs := by
  rcases h with (h | ⟨o, h⟩) | h
  · exact .inl (.inl (e _ _ h))
  · exact .inl (.inr ⟨o, e _ _ h⟩)
  · exact .inr h

end L2

set_option Elab.async false
set_option linter.all false
set_option maxRecDepth 100000
set_option maxHeartbeats 4000000
/-! COMPREHENSIONS over the hand layer. -/
namespace L2
open PySem PySem.Spec PyProof.Rows

theorem codeAny_compLoop_any {prog : Program} {w : World} {A : Around} {R : Result → Shared → Prop} {s : Shared} {elt target iter : Expr} {scope : Scope} {pos : Pos} {it acc : Value} {env : Env} (I : Nat → Shared → Prop)
    (turn : ∀ n s, I n s → wpAny (model prog w) A (pyNext it) (fun r s1 => match r with
      | none => R (.ok .next) s1
      | some v => wpAny (model prog w) A (letOwnedTupleGo target it v) (fun _ s1' => wpAny (model prog w) A (assign target env v) (fun _ s2 =>
          wpAny (model prog w) A (eval elt env) (fun x s4 =>
              wpAny (model prog w) A (call (.builtin "list.append") [acc, x]) (fun _ s5 => ∃ m, m < n ∧ I m s5) (notedBy (model prog w) A env fun e s' => R (.error e) s') s4) (notedBy (model prog w) A env fun e s' => R (.error e) s') s2)
          (notedBy (model prog w) A env fun e s' => R (.error e) s') s1') (notedBy (model prog w) A env fun e s' => R (.error e) s') s1) (notedBy (model prog w) A env fun e s' => R (.error e) s') s)
    (n : Nat) (h : I n s) : codeAny (model prog w) A (.compLoop (.ListComp elt [⟨target, iter, [], 0⟩] scope pos) 0 it acc env) R s := by
  refine codeAny_loop rfl I (fun n s hI => ?_) n h
  show wpAny _ A ((compTurn (.ListComp elt [⟨target, iter, [], 0⟩] scope pos) 0 it acc env).onRaise (fun x => do noteFrame x env; theTreesLotGoes x)) _ _ s
  refine wpAny_noted ?_
  rw [compTurn_list]
  refine wpAny_bind (wpAny_standAt (wpAny_bind (wpAny_mono (turn n s hI) (fun r s1 h1 => ?_) fun _ _ h' => h')))
  cases r with
  | none => exact wpAny_pure h1
  | some v =>
    refine wpAny_bind (wpAny_mono h1 (fun _ s1' h1' => ?_) fun _ _ h' => h')
    refine wpAny_bind (wpAny_mono h1' (fun _ s2 h2 => wpAny_bind (wpAny_mono (wpAny_tests_nil (Q := fun ok s3 => ok = true ∧ s3 = s2) ⟨rfl, rfl⟩) (fun ok s3 h3 => ?_) fun _ _ h' => h')) fun _ _ h' => h')
    obtain ⟨rfl, rfl⟩ := h3
    exact wpAny_bind (wpAny_bind (wpAny_mono h2 (fun x s4 h4 => wpAny_bind (wpAny_mono h4 (fun _ s5 h5 => wpAny_pure (wpAny_pure ⟨rfl, h5⟩)) fun _ _ h' => h')) fun _ _ h' => h'))

/-! ### the block's scope -/
theorem lookup_relabel {env : Env} : ∀ {names : List (Str × NameKind)} {x : Str},
    (names.map fun (n, k) => if (k == NameKind.free && env.scope.kind == .function && env.kindOf n == some .cell) then (n, NameKind.cell) else (n, k)).lookup x =
      (names.lookup x).map fun k => if (k == NameKind.free && env.scope.kind == .function && env.kindOf x == some .cell) then NameKind.cell else k
  | [], _ => rfl
  | (n, k) :: r, x => by
    have ih := @lookup_relabel env r x
    show List.lookup x ((if (k == NameKind.free && env.scope.kind == .function && env.kindOf n == some .cell) = true then (n, NameKind.cell) else (n, k)) :: _) = _
    cases hx : x == n with
    | true =>
      have e : x = n := eq_of_beq hx
      subst e
      by_cases hc : (k == NameKind.free && env.scope.kind == .function && env.kindOf x == some .cell) = true
      · rw [if_pos hc]; simp only [List.lookup_cons, hx, Option.map_some, hc, if_true]
      · rw [if_neg hc]; simp only [List.lookup_cons, hx, Option.map_some, hc]; rfl
    | false =>
      by_cases hc : (k == NameKind.free && env.scope.kind == .function && env.kindOf n == some .cell) = true
      · rw [if_pos hc]; simp only [List.lookup_cons, hx]; exact ih
      · rw [if_neg hc]; simp only [List.lookup_cons, hx]; exact ih

/-- the names of the block: n own ones, then those of the body around it (one that is hidden bears another name here) -/
def lookOk (n : Nat) (N' N : List Str) (names : List (Str × NameKind)) : Bool :=
  (List.range N.length).all fun i => match N'[n + i]? with
    | none => true
    | some x => (names.lookup x == some .free && N[i]? == some x) || !(names.lookup x == some .local || names.lookup x == some .cell || names.lookup x == some .free)
structure CompScope (n : Nat) (N' : List Str) (X : Cx) (scope : Scope) : Prop where
  kind : scope.kind = .function
  names : ∀ x ∈ scope.names, x.2 = .local → scope.names.lookup x.1 = some .local
  cell : ∀ x ∈ scope.names, x.2 ≠ .cell
  free : ∀ x ∈ scope.names, x.2 = .free → X.env.kindOf x.1 = some .cell ∨ X.env.kindOf x.1 = some .free
  nd : N'.Nodup
  len : N'.length = n + X.N.length
  look : lookOk n N' X.N scope.names = true

theorem closure_ok {scope : Scope} {env : Env} (hh : ∀ x ∈ scope.names, x.2 = .free → ∃ c, env.cells.lookup x.1 = some c) :
    ∃ cl, closureFor scope env = pure cl ∧ (∀ x c, cl.lookup x = some c → env.cells.lookup x = some c) ∧ ∀ x ∈ scope.names, x.2 = .free → ∃ c, cl.lookup x.1 = some c := by
  have all : ∀ (l : List (Str × NameKind)) (cs : List (Str × Addr)), (∀ x ∈ l, x.2 = .free → ∃ c, env.cells.lookup x.1 = some c) → (∀ x c, cs.lookup x = some c → env.cells.lookup x = some c) →
      ∃ cl, (forIn l cs fun (x : Str × NameKind) r => if x.2 == NameKind.free then (do let a ← cellOf env x.1; pure (ForInStep.yield ((x.1, a) :: r))) else pure (ForInStep.yield r) : Sem (List (Str × Addr))) = pure cl ∧
        (∀ x c, cl.lookup x = some c → env.cells.lookup x = some c) ∧ (∀ x ∈ l, x.2 = .free → ∃ c, cl.lookup x.1 = some c) ∧ ∀ x, (∃ c, cs.lookup x = some c) → ∃ c, cl.lookup x = some c := by
    intro l
    induction l with
    | nil => intro cs _ h; exact ⟨cs, rfl, h, (fun _ h => nomatch h), fun _ h => h⟩
    | cons y r ih =>
      intro cs hf h
      obtain ⟨n, k⟩ := y
      by_cases hk : k = .free
      · subst hk
        obtain ⟨a, ha⟩ := hf (n, .free) List.mem_cons_self rfl
        have h' : ∀ x c, List.lookup x ((n, a) :: cs) = some c → env.cells.lookup x = some c := fun x c e => by
          cases hx : x == n with
          | true =>
            simp only [List.lookup_cons, hx] at e
            have q : x = n := eq_of_beq hx
            subst q
            rw [ha]; exact e
          | false =>
            simp only [List.lookup_cons, hx] at e
            exact h x c e
        obtain ⟨cl, e1, e2, e3, e4⟩ := ih ((n, a) :: cs) (fun x hx => hf x (List.mem_cons_of_mem _ hx)) h'
        refine ⟨cl, ?_, e2, fun x hx hxf => ?_, fun x hx => ?_⟩
        · rw [List.forIn_cons]
          have e5 : cellOf env n = pure a := by unfold cellOf; rw [ha]
          simp only [beq_self_eq_true, if_true, e5, pure_bind]
          exact e1
        · rcases List.mem_cons.mp hx with rfl | hx
          · exact e4 _ ⟨a, by simp [List.lookup_cons]⟩
          · exact e3 x hx hxf
        · obtain ⟨c, hc⟩ := hx
          refine e4 x ?_
          cases hx : x == n with
          | true => exact ⟨a, by simp only [List.lookup_cons, hx]⟩
          | false => exact ⟨c, by simp only [List.lookup_cons, hx]; exact hc⟩
      · obtain ⟨cl, e1, e2, e3, e4⟩ := ih cs (fun x hx => hf x (List.mem_cons_of_mem _ hx)) h
        refine ⟨cl, ?_, e2, fun x hx hxf => ?_, e4⟩
        · rw [List.forIn_cons]
          have : (k == NameKind.free) = false := by simpa using hk
          simp only [this, Bool.false_eq_true, if_false, pure_bind]
          exact e1
        · rcases List.mem_cons.mp hx with rfl | hx
          · exact absurd hxf hk
          · exact e3 x hx hxf
  obtain ⟨cl, e1, e2, e3, _⟩ := all scope.names [] hh (fun _ _ h => nomatch h)
  refine ⟨cl, ?_, e2, e3⟩
  unfold closureFor
  refine Eq.trans (b := (pure cl >>= fun cs => pure cs)) ?_ rfl
  refine Eq.trans ?_ (congrArg (fun (m : Sem (List (Str × Addr))) => m >>= fun cs => pure cs) e1)
  rfl

/-- the block's context -/
def cxComp (X : Cx) (N' : List Str) (scope : Scope) (cl : List (Str × Addr)) (C : Addr) (ex : List Addr) (s : Shared) (H : Hp) : Cx :=
  { X with N := N', s₀ := s, H₀ := H, env := compEnvC scope cl C X.env, outer := X.stack, ex := ex, fn := fun _ => false, pn := [] }


section
variable {X : Cx} {n : Nat} {N' : List Str} {scope : Scope} {elt tg iter : Expr} {pos : Pos} {pins : List (Addr × Obj)} {σ : St} {H2 : Hp} {s2 : Shared} {cl : List (Str × Addr)}
/-- what stands behind a comprehension's block: the list D has come, C is the block's own frame -/
def CompBack (X : Cx) (pins : List (Addr × Obj)) (σ : St) (Q : VK) (acc : Value) (C : Addr) (s' : Shared) : Prop :=
  ∃ (D : Addr) (H' : Hp) (m : Str → Option Value), acc = .ref D ∧ Inv X pins σ H' s' ∧ s'.heap.Ns C m ∧ FpOk X pins H' C ∧ Q (.ref D) H'

theorem comp_inv {C D : Addr} {fp : List Addr} {s' : Shared} {us : List Value} {k : Nat} (S : CompScope n N' X scope) (c1 : ∀ x c, cl.lookup x = some c → X.env.cells.lookup x = some c) (c2 : ∀ x ∈ scope.names, x.2 = .free → ∃ c, cl.lookup x.1 = some c)
    (I2 : Inv X pins σ H2 s2) (f2 : ∀ b ∈ fp, FpOk X pins H2 b) (fl : ∀ b ∈ fp, @LT.lt Nat _ b s2.heap.objs.size) (hD : @Eq Nat D s2.heap.objs.size) (hC : @Eq Nat C (s2.heap.objs.size + 1))
    (ho : s'.os = s2.os) (hg : s'.gens = s2.gens) (old : ∀ b o, s2.heap.get? b = some o → s'.heap.get? b = some o) (hns : ∃ m, s'.heap.Ns C m) (hd : s'.heap.get? D = some { cls := .type "list", data := .seq us.toArray k }) :
    Inv (cxComp X N' scope cl C fp s2 H2) [(D, { cls := .type "list", data := .seq us.toArray k })] (List.replicate n none ++ σ) H2 s' := by
  have frl : ∀ b ∈ frs X.stack, @LT.lt Nat _ b s2.heap.objs.size := fun b hb => by
    obtain ⟨_, o, ho, _⟩ := I2.stack.mem hb
    exact Heap.lt_size ho
  have celll : ∀ x c, cl.lookup x = some c → c < s2.heap.objs.size := fun x c e => by
    obtain ⟨v, q⟩ := I2.cell x c (c1 x c e)
    exact q.lt
  have kOf : ∀ x, (cxComp X N' scope cl C fp s2 H2).env.kindOf x = (scope.names.lookup x).map fun k => if (k == NameKind.free && X.env.scope.kind == .function && X.env.kindOf x == some .cell) then NameKind.cell else k := fun x => lookup_relabel
  have kfree : ∀ x, ((cxComp X N' scope cl C fp s2 H2).env.kindOf x = some .cell ∨ (cxComp X N' scope cl C fp s2 H2).env.kindOf x = some .free) → scope.names.lookup x = some .free := fun x hx => by
    rw [kOf x] at hx
    cases e : scope.names.lookup x with
    | none => rw [e] at hx; rcases hx with hx | hx <;> cases hx
    | some kd =>
      rw [e] at hx
      cases kd with
      | free => rfl
      | «local» => rcases hx with hx | hx <;> (simp at hx)
      | cell => exact absurd rfl (S.cell _ (PySem.mem_of_lookup e))
      | globalExplicit => rcases hx with hx | hx <;> (simp at hx)
      | globalImplicit => rcases hx with hx | hx <;> (simp at hx)
  have hasC : ∀ x, scope.names.lookup x = some .free → ∃ c, cl.lookup x = some c := fun x hx => c2 _ (PySem.mem_of_lookup hx) rfl
  have hH : ∀ a, s2.heap.objs.size ≤ a → H2 a = none := fun a ha => I2.hok.fresh ha
  have ok : (cxComp X N' scope cl C fp s2 H2).Ok := by
    refine ⟨I2.ok.mod, S.kind, I2.ok.glob, I2.ok.blt, ?_, fun x y c h1 h2 => ?_, fun x hx => hasC x (kfree x hx), fun x c h => absurd h (by show ¬ (false = true); decide), I2.ok.hd, I2.ok.frames, .inl rfl, fun b hb => ?_, I2.bs, Nat.le_trans I2.ok.bsz I2.sz, fun b o e hb => ?_, fun b hb z => ?_, I2.stack, I2.stkFree⟩
    · show s2.heap.objs.size ≤ C
      omega
    · exact I2.ok.inj x y c (c1 x c h1) (c1 y c h2)
    · have := fl b hb
      refine ⟨by show @Ne Nat b C; omega, fun x c e z => ?_⟩
      exact (f2 b hb).2.2.2.2.1 x c (c1 x c e) z
    · obtain ⟨f0, f1, ff, f3, _⟩ := f2 b hb
      rcases f3 with z | z
      · exact I2.ok.noex b o e z
      · have q1 : @LT.lt Nat _ b X.base.objs.size := Heap.lt_size e
        have q2 := I2.ok.bsz
        have q3 : @LE.le Nat _ X.s₀.heap.objs.size b := z
        omega
    · obtain ⟨f0, f1, ff, _⟩ := f2 b hb
      exact (List.mem_cons.mp (I2.stkSub b z)).elim f1 ff
  refine ⟨ok, ho, by rw [hg]; exact I2.bare, Un.kept old, ?_, fun x c e => ?_, ?_, fun x c e => ?_, fun p hp => ?_, I2.hok.kept old, ?_⟩
  · obtain ⟨m, hn⟩ := hns
    refine ⟨m, hn, fun i x v e1 e2 e3 => ?_⟩
    have e2' : (List.replicate n (none : Option V) ++ σ)[i]? = some (some v) := e2
    have e1' : N'[i]? = some x := e1
    by_cases hi : i < n
    · rw [List.getElem?_append_left (by simpa using hi), List.getElem?_replicate] at e2'
      split at e2' <;> cases e2'
    · obtain ⟨j, rfl⟩ : ∃ j, i = n + j := ⟨i - n, by omega⟩
      rw [List.getElem?_append_right (by simp)] at e2'
      simp only [List.length_replicate, Nat.add_sub_cancel_left] at e2'
      have hj : j < X.N.length := by rw [← I2.len]; exact (List.getElem?_eq_some_iff.mp e2').1
      have lk := List.all_eq_true.mp S.look j (List.mem_range.mpr hj)
      rw [e1'] at lk
      have vis : scope.names.lookup x = some .local ∨ scope.names.lookup x = some .cell ∨ scope.names.lookup x = some .free := by
        have e3' : (cxComp X N' scope cl C fp s2 H2).env.kindOf x = some .local ∨ (cxComp X N' scope cl C fp s2 H2).env.kindOf x = some .cell ∨ (cxComp X N' scope cl C fp s2 H2).env.kindOf x = some .free := e3
        rcases e3' with z | z | z
        · rw [kOf x] at z
          cases e : scope.names.lookup x with
          | none => rw [e] at z; cases z
          | some kd =>
            rw [e] at z
            simp only [Option.map_some] at z
            split at z
            · cases z
            · cases z; exact .inl rfl
        · exact .inr (.inr (kfree x (.inl z)))
        · exact .inr (.inr (kfree x (.inr z)))
      have lk2 : scope.names.lookup x = some .free ∧ X.N[j]? = some x := by
        simp only [Bool.or_eq_true, Bool.and_eq_true, Bool.not_eq_true', Bool.or_eq_false_iff, beq_iff_eq, beq_eq_false_iff_ne] at lk
        rcases lk with z | z
        · exact z
        · rcases vis with q | q | q
          · exact absurd q z.1.1
          · exact absurd q z.1.2
          · exact absurd q z.2
      obtain ⟨m0, hn0, hl0⟩ := I2.loc
      have vX : Vis X.env.scope x := by
        rcases S.free _ (PySem.mem_of_lookup lk2.1) rfl with z | z
        · exact .inr (.inl z)
        · exact .inr (.inr z)
      obtain ⟨u, r, l⟩ := hl0 j x v lk2.2 e2' vX
      refine ⟨u, r, .inr ⟨?_, ?_⟩⟩
      · rw [kOf x, lk2.1]
        simp only [Option.map_some]
        split
        · exact .inl rfl
        · exact .inr rfl
      · obtain ⟨c, hc⟩ := hasC x lk2.1
        refine ⟨c, hc, ?_⟩
        rcases l with ⟨kl, _⟩ | ⟨_, c', hc', z⟩
        · rcases S.free _ (PySem.mem_of_lookup lk2.1) rfl with q | q <;> (rw [kl] at q; cases q)
        · have := c1 x c hc
          rw [hc'] at this; cases this
          obtain ⟨oc, hoc, hdc⟩ := z
          exact ⟨oc, old _ _ hoc, hdc⟩
  · obtain ⟨v, oc, hoc, hdc⟩ := I2.cell x c (c1 x c e)
    exact ⟨v, oc, old _ _ hoc, hdc⟩
  · exact hH C (by omega)
  · exact I2.freeC x c (c1 x c e)
  · have e : p = (D, { cls := .type "list", data := .seq us.toArray k }) := by simpa [cxComp] using hp
    subst e
    refine ⟨hd, hH D (by omega), by show @Ne Nat D C; omega, fun z => ?_, fun v z => by cases z⟩
    have := frl D z
    omega
  · show (List.replicate n none ++ σ).length = N'.length
    rw [List.length_append, List.length_replicate, S.len, I2.len]

/-- what a comprehension asks behind its iterator. W: the invariant by the turn, a measure, what has been made, the block's names -/
def CompOk (n : Nat) (J : It) (g : TG) (te : TE) (σ : St) (H : Hp) (Q : VK) : Prop :=
  ∃ W : Nat → Nat → List V → St → Hp → Prop, (∃ m, W 0 m [] (List.replicate n none ++ σ) H) ∧ ∀ i m ys σ' H, W i m ys σ' H →
    (J.stop i H ∧ ∀ D, H D = none → Q (.ref D) (upd H D (.lst ys))) ∨
    (J.go i H ∧ ys.length < sizeLine ∧ ∀ x H', J.yld i H x H' → g x σ' H' fun σ2 H2 => ∃ N : VK, te σ2 H2 N ∧ ∀ v H3, N v H3 → ∃ m', m' < m ∧ W (i + 1) m' (ys ++ [v]) σ2 H3)
/-- what hangs on the block's own frame -/
abbrev InBlock (α : Type) := List (Str × Addr) → Addr → List Addr → Shared → Hp → α
def tComp (n : Nat) (wi : TI) (g : InBlock TG) (te : InBlock TE) : TE := fun σ H Q => wi σ H fun J H1 => ∀ cl C ex s Hc, CompOk n J (g cl C ex s Hc) (te cl C ex s Hc) σ H1 Q

theorem comp_block {it : Addr} {fp : List Addr} {tn : Nat → Heap → Prop} {J : It} {g : InBlock TG} {te : InBlock TE} {Q : VK} {E : Value → Shared → Prop}
    (hE : ∀ v s, ¬ X.xe v s) (hc : X.calm = true) (S : CompScope n N' X scope) (c1 : ∀ x c, cl.lookup x = some c → X.env.cells.lookup x = some c) (c2 : ∀ x ∈ scope.names, x.2 = .free → ∃ c, cl.lookup x.1 = some c)
    (I2 : Inv X pins σ H2 s2) (T : Turn X.prog X.w X.K tg J fp it tn) (st2 : tn 0 s2.heap) (f2 : ∀ b ∈ fp, FpOk X pins H2 b)
    (hg : ∀ cl C ex s H, PG (cxComp X N' scope cl C ex s H) tg (g cl C ex s H)) (he : ∀ cl C ex s H, PE (cxComp X N' scope cl C ex s H) elt (te cl C ex s H))
    (cok : ∀ cl C ex s Hc, CompOk n J (g cl C ex s Hc) (te cl C ex s Hc) σ H2 Q) :
    wpAny (model X.prog X.w) X.A (newList []) (fun acc s3 => wpAny (model X.prog X.w) X.A (newFunctionEnv scope X.env.globals cl [] X.env.qual none .none (some X.env)) (fun cenv s4 =>
      codeAny (model X.prog X.w) X.A (.compStart (.ListComp elt [⟨tg, iter, [], 0⟩] scope pos) 0 (.ref it) acc { cenv with scope := relabel scope X.env })
        (fun r s' => match r with | .ok _ => CompBack X pins σ Q acc cenv.locals s' | .error _ => False) s4) E s3) E s2 := by
  have fl : ∀ b ∈ fp, @LT.lt Nat _ b s2.heap.objs.size := fun b hb => by
    obtain ⟨o, e, _⟩ := T.obj _ _ st2 b hb
    exact Heap.lt_size e
  have frl : ∀ b ∈ frs X.stack, @LT.lt Nat _ b s2.heap.objs.size := fun b hb => by
    obtain ⟨_, o, ho, _⟩ := I2.stack.mem hb
    exact Heap.lt_size ho
  have celll : ∀ x c, X.env.cells.lookup x = some c → @LT.lt Nat _ c s2.heap.objs.size := fun x c e => by
    obtain ⟨v, q⟩ := I2.cell x c e
    exact q.lt
  refine wpAny_newObj_type (wpAny_newFunctionEnv S.cell (by intro y hy; simp at hy) (fun h1 hns1 hsb1 => ?_) S.kind)
  dsimp only at hns1 hsb1 ⊢
  generalize hH2 : s2.heap.push { cls := .type "list", dict := none, data := .seq ([] : List Value).toArray } = G at hns1 hsb1 ⊢
  have hC : @Eq Nat G.objs.size (s2.heap.objs.size + 1) := by rw [← hH2, Heap.size_push]
  have hDC : s2.heap.objs.size ≠ G.objs.size := by show @Ne Nat _ _; omega
  have below : ∀ b, @LT.lt Nat _ b s2.heap.objs.size → b ≠ G.objs.size ∧ b ≠ s2.heap.objs.size := fun b hb => ⟨by show @Ne Nat _ _; omega, Nat.ne_of_lt hb⟩
  have old : ∀ b o, s2.heap.get? b = some o → h1.get? b = some o := fun b o e => hsb1.extBut b o (below b (Heap.lt_size e)).1 (Heap.get?_push_of_some _ (hH2 ▸ Heap.get?_push_of_some _ e))
  have hacc : h1.get? s2.heap.objs.size = some { cls := .type "list", data := .seq ([] : List Value).toArray 0 } := hsb1.extBut _ _ hDC (Heap.get?_push_of_some _ (hH2 ▸ Heap.get?_push_size _ rfl))
  have hst1 : tn 0 h1 := T.keep _ _ _ st2 fun b hb o e => old b o e
  let X' := cxComp X N' scope cl G.objs.size fp s2 H2
  obtain ⟨W, ⟨m0, w0⟩, turn⟩ := cok cl G.objs.size fp s2 H2
  have hXe : X'.xe = X.xe := rfl
  have stat : ∀ {H' : Hp} {ps : List (Addr × Obj)}, (∀ b ∈ fp, H' b = none) → (∀ p ∈ ps, p.1 = s2.heap.objs.size) → ∀ b ∈ fp, FpOk X' ps H' b := fun {H' ps} hn hp b hb => by
    obtain ⟨f0, f1, ff, f3, f4, f5⟩ := f2 b hb
    refine ⟨hn b hb, (below b (fl b hb)).1, fun z => ?_, .inl hb, fun x c e z => ?_, fun p hp' z => ?_⟩
    · exact (List.mem_cons.mp (I2.stkSub b z)).elim f1 ff
    · exact f4 x c (c1 x c e) z
    · have e : p.1 = s2.heap.objs.size := hp p (by simpa [X', cxComp] using hp')
      exact (below b (fl b hb)).2 (z.symm.trans e)
  have loop : ∀ s3 : Shared, s3 = { s2 with heap := h1, toks := s2.toks + ([] : List (Str × Value)).length } →
      codeAny (model X.prog X.w) X.A (.compLoop (.ListComp elt [⟨tg, iter, [], 0⟩] scope pos) 0 (.ref it) (.ref s2.heap.objs.size) (compEnvC scope cl G.objs.size X.env))
        (fun r s' => match r with | .ok _ => CompBack X pins σ Q (.ref s2.heap.objs.size) G.objs.size s' | .error _ => False) s3 := by
    rintro s3 rfl
    have I3 := comp_inv (us := []) (k := 0) (s' := { s2 with heap := h1, toks := s2.toks + ([] : List (Str × Value)).length }) S c1 c2 I2 f2 fl rfl hC rfl rfl old ⟨_, hns1⟩ hacc
    refine codeAny_compLoop_any (fun m s' => ∃ i ys us k σ' H', Inv X' [(s2.heap.objs.size, { cls := .type "list", data := .seq (us : List Value).toArray k })] σ' H' s' ∧ Vals ys us ∧ tn i s'.heap ∧ (∀ b ∈ fp, H' b = none) ∧ ys.length ≤ sizeLine ∧ W i m ys σ' H') ?_ m0
      ⟨0, [], [], 0, _, H2, I3, .nil, hst1, fun b hb => (f2 b hb).1, Nat.zero_le _, w0⟩
    rintro m s' ⟨i, ys, us, k, σ', H', I', rv, st', fr', hlen, w'⟩
    rcases turn i m ys σ' H' w' with ⟨stop, q⟩ | ⟨go, hlt, step⟩
    · refine thn (T.done X' rfl rfl rfl hc i _ s' σ' H' _ I' (stat fr' (by simp)) st' stop) fun r s4 ⟨hr, I4⟩ => ?_
      subst hr
      show CompBack X pins σ Q (.ref s2.heap.objs.size) G.objs.size s4
      obtain ⟨m1, hn1, _⟩ := I4.loc
      obtain ⟨pD, nD, _, _, _⟩ := I4.pin (s2.heap.objs.size, { cls := .type "list", data := .seq us.toArray k }) (List.mem_append_right _ (by simp))
      have nD : H' s2.heap.objs.size = none := nD
      have pD : s4.heap.get? s2.heap.objs.size = some { cls := .type "list", data := .seq us.toArray k } := pD
      have hok : HOk X.prog X.w (upd H' s2.heap.objs.size (.lst ys)) s4.heap := fun b u e => by
        by_cases hb : b = s2.heap.objs.size
        · subst hb
          rw [upd_same] at e; cases e
          exact ⟨hlen, us, k, rv, pD⟩
        · rw [upd_ne hb] at e
          exact (I4.hok b u e).stay (fun _ _ _ q => q) (fun c q => by rw [upd_ne (ne_of_none q nD)]; exact q) fun c xs q => by rw [upd_ne (ne_of_none q nD)]; exact q
      have un : Un (frs X.stack) fp H2 (upd H' s2.heap.objs.size (.lst ys)) s2.heap s4.heap := by
        have u0 := I4.base
        refine ⟨u0.keep, u0.slot, fun b o e n hx => ?_, u0.there, fun b xs e => ?_, fun b o xs e => ?_, fun b ps e => ?_⟩
        · rw [upd_ne (below b (Heap.lt_size e)).2]; exact u0.free b o e n hx
        · have q := u0.tups b xs e
          rw [upd_ne (ne_of_none q nD)]; exact q
        · have q := u0.frzs b o xs e
          rw [upd_ne (ne_of_none q nD)]; exact q
        · obtain ⟨more, q⟩ := u0.tbls b ps e
          exact ⟨more, by rw [upd_ne (ne_of_none q nD)]; exact q⟩
      have IX : Inv X pins σ (upd H' s2.heap.objs.size (.lst ys)) s4 := I2.call' (ch := fp) I4.os un hok I4.bare fun b hb => by
        obtain ⟨f0, f1, ff, f3, f4, f5⟩ := f2 b hb
        exact ⟨f3, f1, f4, f5⟩
      have hG0 : H' G.objs.size = none := I4.free
      refine ⟨s2.heap.objs.size, _, m1, rfl, IX, hn1, ⟨by rw [upd_ne (Ne.symm hDC)]; exact hG0, fun z => ?_, fun z => ?_, .inr ?_, fun x c e z => ?_, fun p hp z => ?_⟩, q _ nD⟩
      · have q1 : @LT.lt Nat _ X.env.locals s2.heap.objs.size := I2.lt
        have q2 : @Eq Nat G.objs.size X.env.locals := z
        omega
      · have z' : G.objs.size ∈ frs X.outer := z
        obtain ⟨_, o, ho, _⟩ := I2.funs.mem z'
        have q1 : @LT.lt Nat _ G.objs.size s2.heap.objs.size := Heap.lt_size ho
        omega
      · have q1 := I2.sz
        show @LE.le Nat _ X.s₀.heap.objs.size G.objs.size
        omega
      · have q1 := celll x c e
        have q2 : @Eq Nat c G.objs.size := z
        omega
      · have q1 : @LT.lt Nat _ p.1 s2.heap.objs.size := Heap.lt_size (I2.pin p hp).1
        have q2 : @Eq Nat p.1 G.objs.size := z
        omega
    · refine thn (T.item X' rfl rfl rfl hc i _ s' σ' H' _ I' (stat fr' (by simp)) st' go) fun r s4 ⟨u, hr, h4⟩ => ?_
      subst hr
      show wpAny _ _ (letOwnedTupleGo tg (.ref it) u) _ _ s4
      refine thn h4 fun _ s5 ⟨x, H5, I5, r5, y5, st5, fr5⟩ => ?_
      have I5' := I5.pinned (stat fr5 (by simp)) (T.obj _ _ st5)
      have w1 := hg cl G.objs.size fp s2 H2 _ s5 σ' H5 x u _ I5' r5 (step x H5 y5)
      refine wpAny_mono w1 (fun _ s6 ⟨σ6, H6, I6, q6⟩ => ?_) fun v s hv => absurd hv (hE v s)
      obtain ⟨NN, q6, hNN⟩ := q6
      have w2 := he cl G.objs.size fp s2 H2 _ s6 σ6 H6 _ I6 q6
      refine wpAny_mono w2 (fun y s7 ⟨v, H7, I7, r7, q7⟩ => ?_) fun v s hv => absurd hv (hE v s)
      obtain ⟨m', hm', w7⟩ := hNN v H7 q7
      have pinD := I7.pin (s2.heap.objs.size, { cls := .type "list", data := .seq us.toArray k }) (List.mem_append_right _ (List.mem_append_left _ (by simp)))
      obtain ⟨pD, nD, lD, fD, _⟩ := pinD
      refine append_at (hsz := by rw [List.size_toArray, ← rv.length]; exact hlen) pD fun h8 hs8 hD8 => ?_
      have nD : H7 s2.heap.objs.size = none := nD
      have I8 : Inv X' (pinsAt fp s5.heap) σ6 H7 { s7 with heap := h8 } := by
        refine (I7.pins_of (pins' := pinsAt fp s5.heap) fun p hp => I7.pin p (List.mem_append_right _ (List.mem_append_right _ hp))).turned (t' := s7.toks) (it := s2.heap.objs.size) (fun b o hb e => (hs8.2 b hb).trans e) nD lD (.inr (Nat.le_refl _)) (fun x c e z => ?_) fun p hp z => ?_
        · have q1 := celll x c (c1 x c e)
          have q2 : @Eq Nat c s2.heap.objs.size := z
          omega
        · have hp' : p ∈ pinsAt fp s5.heap := by simpa [X', cxComp] using hp
          have q1 := fl p.1 (of_pinsAt hp').1
          have q2 : @Eq Nat p.1 s2.heap.objs.size := z
          omega
      have I9 : Inv X' [(s2.heap.objs.size, { cls := .type "list", data := .seq (us ++ [y]).toArray (k + 1) })] σ6 H7 { s7 with heap := h8 } := I8.pins_of fun p hp => by
        have e : p = (s2.heap.objs.size, { cls := .type "list", data := .seq (us ++ [y]).toArray (k + 1) }) := by simpa using hp
        subst e
        refine ⟨by rw [hD8, List.push_toArray], nD, lD, fD, fun v z => by cases z⟩
      refine ⟨m', hm', i + 1, ys ++ [v], us ++ [y], k + 1, σ6, H7, I9, rv.append (.cons r7 .nil), T.keep _ _ _ st5 fun b hb o e => ?_, fun b hb => ?_, by rw [List.length_append, List.length_singleton]; omega, w7⟩
      · exact (I8.pin (b, o) (List.mem_append_right _ (mem_pinsAt hb e))).1
      · obtain ⟨o, e, d⟩ := T.obj _ _ st5 b hb
        exact (I8.pin (b, o) (List.mem_append_right _ (mem_pinsAt hb e))).2.1
  exact codeAny_compStart_list (loop _ rfl) (T.self _ 0 _ _ _ hst1 (loop _ rfl))

/-- [elt for tg in iter] -/
theorem pe_comp {wi : TI} {g : InBlock TG} {te : InBlock TE} (hE : ∀ v s, ¬ X.xe v s) (hc : X.calm = true) (S : CompScope n N' X scope) (hi : PI X tg iter wi)
    (hg : ∀ cl C ex s H, PG (cxComp X N' scope cl C ex s H) tg (g cl C ex s H)) (he : ∀ cl C ex s H, PE (cxComp X N' scope cl C ex s H) elt (te cl C ex s H))
    (hs : ∀ x, foldedSetIterable iter X.env x = pure x := by intro _; rfl) : PE X (.ListComp elt [⟨tg, iter, [], 0⟩] scope pos) (tComp n wi g te) := by
  intro pins s σ H Q I h
  rw [eval_ListComp]
  obtain ⟨cl, hcl, c1, c2⟩ := closure_ok (scope := scope) (env := X.env) fun x hx hf => I.ok.has x.1 (S.free x hx hf)
  refine wpAny_comprehension_free (use := none) rfl hs hcl S.kind S.names (thn (hi pins s σ H _ I h) fun v s1 h1 => thn h1 fun itv s2 h2 => ?_)
  obtain ⟨it, fp, tn, J, H2, e, I2, T, st2, f2, cok⟩ := h2
  subst e
  refine wpAny_mono (comp_block (pos := pos) (iter := iter) (Q := Q) (E := X.xe) hE hc S c1 c2 I2 T st2 f2 hg he cok) (fun acc s3 h3 => wpAny_mono h3 (fun cenv s4 h4 => codeAny_mono h4 fun r s' hr => ?_) fun _ _ z => z) fun _ _ z => z
  cases r with
  | error e => exact False.elim hr
  | ok f =>
    obtain ⟨D, H', m, rfl, I', hn, ⟨f0, f1, ff, f3, f4, f5⟩, q⟩ := hr
    refine ⟨m, hn, fun h' hs' => ⟨.ref D, H', ?_, rfl, q⟩⟩
    exact I'.turned (t' := s'.toks) (fun b o hb e => (hs'.2 b hb).trans e) f0 f1 f3 f4 f5

/-- name = [elt for tg in iter] -/
theorem ps_setComp {wi : TI} {g : InBlock TG} {te : InBlock TE} {i : Nat} {x : Str} {pos' spos : Pos} (hN : X.N.Nodup) (hi0 : X.N[i]? = some x) (hx : Loc X.env.scope x)
    (hsw : swapsWith (.ListComp elt [⟨tg, iter, [], 0⟩] scope pos) (some (.Name x pos')) spos.line X.env = pure true)
    (hE : ∀ v s, ¬ X.xe v s) (hc : X.calm = true) (S : CompScope n N' X scope) (hi : PI X tg iter wi)
    (hg : ∀ cl C ex s H, PG (cxComp X N' scope cl C ex s H) tg (g cl C ex s H)) (he : ∀ cl C ex s H, PE (cxComp X N' scope cl C ex s H) elt (te cl C ex s H))
    (hs : ∀ x, foldedSetIterable iter X.env x = pure x := by intro _; rfl) (hf : X.fn x = true ∨ X.env.scope.names.lookup x = some .local := by first | exact .inl rfl | exact .inr rfl | assumption) :
    PS X (.Assign [.Name x pos'] (.ListComp elt [⟨tg, iter, [], 0⟩] scope pos) spos) (tAsg (tComp n wi g te) (gName i)) := by
  intro pins s σ H D I h
  rw [exec_Assign_Name_used _ _ _ _ hsw]
  refine wpAny_bind (wpAny_standAt (wpAny_bind ?_))
  obtain ⟨cl, hcl, c1, c2⟩ := closure_ok (scope := scope) (env := X.env) fun x hx hf => I.ok.has x.1 (S.free x hx hf)
  show wpAny _ _ (do let _ ← comprehension (.ListComp elt [⟨tg, iter, [], 0⟩] scope pos) scope X.env _ (newList []) false (eval iter X.env) (some (assign (.Name x pos') X.env))) _ _ s
  refine wpAny_bind (wpAny_mono (wpAny_comprehension_free (use := some (assign (.Name x pos') X.env)) (Q := fun _ s' => SP X pins D .next s') rfl hs hcl S.kind S.names
    (thn (hi pins s σ H _ I h) fun v s1 h1 => thn h1 fun itv s2 h2 => ?_)) (fun _ s' hq => wpAny_pure (wpAny_pure hq)) fun _ _ e => e)
  obtain ⟨it, fp, tn, J, H2, e, I2, T, st2, f2, cok⟩ := h2
  subst e
  refine wpAny_mono (comp_block (pos := pos) (iter := iter) (E := X.xe) (Q := fun x H1 => gName i x σ H1 D.nx) hE hc S c1 c2 I2 T st2 f2 hg he cok) (fun acc s3 h3 => wpAny_mono h3 (fun cenv s4 h4 => codeAny_mono h4 fun r s' hr => ?_) fun _ _ z => z) fun _ _ z => z
  cases r with
  | error e => exact False.elim hr
  | ok f =>
    obtain ⟨Dl, H', m, rfl, I', hn, ⟨f0, f1, ff, f3, f4, f5⟩, q⟩ := hr
    show wpAny _ _ (assign (.Name x pos') X.env (.ref Dl)) _ _ s'
    refine wpAny_assign_Name (store_ok2 I' hN hi0 hx (v := .ref Dl) (u := .ref Dl) rfl (fun s'' I'' hb => ?_) hf)
    obtain ⟨a, sb, ha⟩ := hb
    have hCa : cenv.locals ≠ a := by
      rcases ha with rfl | ha
      · exact f1
      · exact fun z => f4 x a ha z.symm
    refine ⟨m, hn.sameBut sb hCa, fun h' hs' => ⟨_, H', ?_, q⟩⟩
    exact I''.turned (t' := s''.toks) (fun b o hb e => (hs'.2 b hb).trans e) f0 f1 f3 f4 f5
end
end L2

set_option Elab.async false
set_option linter.all false
set_option maxRecDepth 100000
set_option maxHeartbeats 4000000
namespace L2
open PySem PySem.Spec PyProof.Rows
section
variable {X : Cx} {tg : Expr}
/-! ### the signs of a text, one after another -/
def Its (z : Str) : It := ⟨fun i _ => i < z.cps.size, fun i H x H' => H' = H ∧ ∃ c, z.cps[i]? = some c ∧ x = .str ⟨#[c]⟩, fun i _ => z.cps.size ≤ i⟩
theorem turn_str {P : Program} {w : World} {K : PySem.W.Frag} {tg : Expr} {T : String} {t : Tok} (it : Addr) (z : Str)
    (hT : T = "str_ascii_iterator" ∨ T = "str_iterator") (W : ∀ A : Around, A.handled = none → Walks P w A it [it] [it] z.cps.size (SignAt z) (fun i h => h.IsStrIter it T z t i)) :
    Turn P w K tg (Its z) [it] it (fun i h => h.IsStrIter it T z t i) where
  mem := by simp
  obj := fun i h st b hb => by
    have e : b = it := by simpa using hb
    subst e
    obtain ⟨o, e, c, d⟩ := st
    exact ⟨o, e, fun v z => by rw [d] at z; cases z⟩
  keep := fun i h h' st k => by
    obtain ⟨o, e, r⟩ := st
    exact ⟨o, k it (by simp) o e, r⟩
  item := by
    intro X hP hw hK hc i pins s σ H E I hf st hg
    subst hP hw hK
    obtain ⟨f0, f1, f2, f3, f4, f5⟩ := hf it (by simp)
    refine (W _ (I.ok.hd hc)).item i s _ _ hg st fun v h' tk hv st' kk => ?_
    obtain ⟨c, u, hcu, rfl⟩ := hv
    have I1 : Inv X pins σ H { s with heap := h', toks := tk } := I.turned (fun b o hb e => kk b o (by simpa using hb) e) f0 f1 f3 f4 f5
    obtain ⟨o, e, cc, d⟩ := id st'
    refine ⟨_, rfl, go_of (s := { s with heap := h', toks := tk }) (n := T) e cc d ?_ ⟨.str ⟨#[c]⟩, H, I1, ⟨u, rfl⟩, ⟨rfl, c, hcu, rfl⟩, st', fun b hb => (hf b hb).1⟩⟩
    rcases hT with rfl | rfl <;> decide
  done := by
    intro X hP hw hK hc i pins s σ H E I hf st hg
    subst hP hw hK
    obtain ⟨f0, f1, f2, f3, f4, f5⟩ := hf it (by simp)
    have hg : z.cps.size ≤ i := hg
    rcases hT with rfl | rfl
    · exact wpAny_pyNext_ascii_end (I.ok.hd hc) st (by simp; omega) fun h' eb => ⟨rfl, I.turned (t' := s.toks) (fun b o hb e => eb b o hb e) f0 f1 f3 f4 f5⟩
    · exact wpAny_pyNext_wide_end (I.ok.hd hc) st (by simp; omega) fun h' eb => ⟨rfl, I.turned (t' := s.toks) (fun b o hb e => eb b o hb e) f0 f1 f3 f4 f5⟩
  self := fun A i s Q E st h => by
    rcases hT with rfl | rfl
    · exact wpAny_pyIter_striter_ascii st h
    · exact wpAny_pyIter_striter_wide st h
def iStr (tl : TE) : TI := fun σ H R => tl σ H fun x H1 => ∃ z, x = .str z ∧ R (Its z) H1
theorem pi_str {l : Expr} {tl : TE} (hl : PE X l tl) : PI X tg l (iStr tl) := by
  intro pins s σ H R I h
  refine thn (hl pins s σ H _ I h) fun v s1 ⟨x, H1, I1, r1, q1⟩ => ?_
  obtain ⟨z, e, q⟩ := q1
  subst e
  obtain ⟨t, rfl⟩ := r1
  have fin : ∀ (T : String) (o : Obj), (T = "str_ascii_iterator" ∨ T = "str_iterator") → (∀ A : Around, A.handled = none → Walks X.prog X.w A s1.heap.objs.size [s1.heap.objs.size] [s1.heap.objs.size] z.cps.size (SignAt z) (fun i h => h.IsStrIter s1.heap.objs.size T z t i)) →
      (s1.heap.push o).IsStrIter s1.heap.objs.size T z t 0 → PIE X pins σ tg R (.ref s1.heap.objs.size) { s1 with heap := s1.heap.push o } := fun T o hT W st =>
    ⟨s1.heap.objs.size, [s1.heap.objs.size], _, _, H1, rfl, I1.kept (t' := s1.toks) fun b o e => Heap.get?_push_of_some _ e, turn_str _ z hT W, st, fun b hb => by
      have e : b = s1.heap.objs.size := by simpa using hb
      subst e
      exact I1.fpOk (Nat.le_refl _) (I1.hok.fresh (Nat.le_refl _)), q⟩
  cases ha : z.cps.all (· < 128)
  · exact wpAny_pyIter_wide ha (fin "str_iterator" _ (.inr rfl) (fun A hA => Walks.strWide hA _ z t) ⟨_, Heap.get?_push_size _ rfl, rfl, rfl⟩)
  · exact wpAny_pyIter_ascii ha (fin "str_ascii_iterator" _ (.inl rfl) (fun A hA => Walks.strAscii hA _ z t) ⟨_, Heap.get?_push_size _ rfl, rfl, rfl⟩)

/-! ### comprehensions by an invariant -/
section forms
variable {J : It} {K : PySem.W.Frag} {a : Addr} {xs : List V} {te : TE} {σ : St} {H : Hp} {Q : VK}
theorem comp_it1 (n : Nat) (Pv : Nat → List V → Hp → Prop) (Vx : Nat → V → Prop) (h0 : Pv 0 [] H) (hz : n ≤ sizeLine) (hgo : ∀ i ys H, i < n → ys.length = i → Pv i ys H → J.go i H ∧ ∀ x H', J.yld i H x H' → H' = H ∧ Vx i x)
    (hstop : ∀ ys H, ys.length = n → Pv n ys H → J.stop n H)
    (hs : ∀ i x ys H, i < n → Vx i x → ys.length = i → Pv i ys H → te (some x :: σ) H fun v H3 => Pv (i + 1) (ys ++ [v]) H3)
    (hd : ∀ ys H, ys.length = n → Pv n ys H → ∀ D, H D = none → Q (.ref D) (upd H D (.lst ys))) : CompOk 1 J (gName 0) te σ H Q := by
  refine ⟨fun i m ys σ' H => m = n - i ∧ i ≤ n ∧ ys.length = i ∧ (∃ o, σ' = o :: σ) ∧ Pv i ys H, ⟨n, by simp, Nat.zero_le _, rfl, ⟨none, rfl⟩, h0⟩, ?_⟩
  rintro i m ys σ' H ⟨rfl, hi, hy, ⟨o, rfl⟩, p⟩
  by_cases hlt : i < n
  · obtain ⟨g1, g2⟩ := hgo i ys H hlt hy p
    refine .inr ⟨g1, by omega, fun x H' y => ?_⟩
    obtain ⟨e, hx⟩ := g2 x H' y
    subst e
    exact ⟨fun v H3 => Pv (i + 1) (ys ++ [v]) H3, hs i x ys _ hlt hx hy p, fun v H3 h3 => ⟨n - (i + 1), by omega, rfl, hlt, by simp [hy], ⟨_, rfl⟩, h3⟩⟩
  · obtain rfl : i = n := by omega
    exact .inl ⟨hstop ys H hy p, hd ys H hy p⟩
/-- (a, b) out of pairs -/
theorem comp_it2 (n : Nat) (Pv : Nat → List V → Hp → Prop) (Vx : Nat → V → V → Prop) (h0 : Pv 0 [] H) (hz : n ≤ sizeLine) (hgo : ∀ i ys H, i < n → ys.length = i → Pv i ys H → J.go i H ∧ ∀ x H', J.yld i H x H' → H' = H ∧ ∃ p u v, x = .ref p ∧ SqT K H p [u, v] ∧ Vx i u v)
    (hstop : ∀ ys H, ys.length = n → Pv n ys H → J.stop n H)
    (hs : ∀ i u v ys H, i < n → Vx i u v → ys.length = i → Pv i ys H → te (some u :: some v :: σ) H fun y H3 => Pv (i + 1) (ys ++ [y]) H3)
    (hd : ∀ ys H, ys.length = n → Pv n ys H → ∀ D, H D = none → Q (.ref D) (upd H D (.lst ys))) : CompOk 2 J (gTup K 2 (gCons (gName 0) (gCons (gName 1) gNil))) te σ H Q := by
  refine ⟨fun i m ys σ' H => m = n - i ∧ i ≤ n ∧ ys.length = i ∧ (∃ o1 o2, σ' = o1 :: o2 :: σ) ∧ Pv i ys H, ⟨n, by simp, Nat.zero_le _, rfl, ⟨none, none, rfl⟩, h0⟩, ?_⟩
  rintro i m ys σ' H ⟨rfl, hi, hy, ⟨o1, o2, rfl⟩, p⟩
  by_cases hlt : i < n
  · obtain ⟨g1, g2⟩ := hgo i ys H hlt hy p
    refine .inr ⟨g1, by omega, fun x H' y => ?_⟩
    obtain ⟨e, pp, u, v, rfl, hq, hx⟩ := g2 x H' y
    subst e
    refine ⟨pp, [u, v], rfl, hq, rfl, u, [v], rfl, v, [], rfl, rfl, ?_⟩
    exact ⟨fun v H3 => Pv (i + 1) (ys ++ [v]) H3, hs i u v ys _ hlt hx hy p, fun v H3 h3 => ⟨n - (i + 1), by omega, rfl, hlt, by simp [hy], ⟨_, _, rfl⟩, h3⟩⟩
  · obtain rfl : i = n := by omega
    exact .inl ⟨hstop ys H hy p, hd ys H hy p⟩
/-- (a, b, c) out of triples -/
theorem comp_it3 (n : Nat) (Pv : Nat → List V → Hp → Prop) (Vx : Nat → V → V → V → Prop) (h0 : Pv 0 [] H) (hz : n ≤ sizeLine) (hgo : ∀ i ys H, i < n → ys.length = i → Pv i ys H → J.go i H ∧ ∀ x H', J.yld i H x H' → H' = H ∧ ∃ p u v w, x = .ref p ∧ SqT K H p [u, v, w] ∧ Vx i u v w)
    (hstop : ∀ ys H, ys.length = n → Pv n ys H → J.stop n H)
    (hs : ∀ i u v w ys H, i < n → Vx i u v w → ys.length = i → Pv i ys H → te (some u :: some v :: some w :: σ) H fun y H3 => Pv (i + 1) (ys ++ [y]) H3)
    (hd : ∀ ys H, ys.length = n → Pv n ys H → ∀ D, H D = none → Q (.ref D) (upd H D (.lst ys))) : CompOk 3 J (gTup K 3 (gCons (gName 0) (gCons (gName 1) (gCons (gName 2) gNil)))) te σ H Q := by
  refine ⟨fun i m ys σ' H => m = n - i ∧ i ≤ n ∧ ys.length = i ∧ (∃ o1 o2 o3, σ' = o1 :: o2 :: o3 :: σ) ∧ Pv i ys H, ⟨n, by simp, Nat.zero_le _, rfl, ⟨none, none, none, rfl⟩, h0⟩, ?_⟩
  rintro i m ys σ' H ⟨rfl, hi, hy, ⟨o1, o2, o3, rfl⟩, p⟩
  by_cases hlt : i < n
  · obtain ⟨g1, g2⟩ := hgo i ys H hlt hy p
    refine .inr ⟨g1, by omega, fun x H' y => ?_⟩
    obtain ⟨e, pp, u, v, w, rfl, hq, hx⟩ := g2 x H' y
    subst e
    refine ⟨pp, [u, v, w], rfl, hq, rfl, u, [v, w], rfl, v, [w], rfl, w, [], rfl, rfl, ?_⟩
    exact ⟨fun v H3 => Pv (i + 1) (ys ++ [v]) H3, hs i u v w ys _ hlt hx hy p, fun v H3 h3 => ⟨n - (i + 1), by omega, rfl, hlt, by simp [hy], ⟨_, _, _, rfl⟩, h3⟩⟩
  · obtain rfl : i = n := by omega
    exact .inl ⟨hstop ys H hy p, hd ys H hy p⟩
/-- how the iterators go -/
theorem go_list {i : Nat} (hq : SqL K H a xs) (hlt : i < xs.length) : (Itl K a).go i H ∧ ∀ x H', (Itl K a).yld i H x H' → H' = H ∧ xs[i]? = some x :=
  ⟨⟨xs, xs[i], hq, by simp [hlt]⟩, fun x H' ⟨e, y⟩ => ⟨e, y xs hq⟩⟩
theorem stop_list (hq : SqL K H a xs) : (Itl K a).stop xs.length H := ⟨xs, hq, Nat.le_refl _⟩
theorem go_tup {i : Nat} (hq : SqT K H a xs) (hlt : i < xs.length) : (Itt K a).go i H ∧ ∀ x H', (Itt K a).yld i H x H' → H' = H ∧ xs[i]? = some x :=
  ⟨⟨xs, xs[i], hq, by simp [hlt]⟩, fun x H' ⟨e, y⟩ => ⟨e, y xs hq⟩⟩
theorem stop_tup (hq : SqT K H a xs) : (Itt K a).stop xs.length H := ⟨xs, hq, Nat.le_refl _⟩
theorem go_rng {lo : Int} {n i : Nat} (hlt : i < n) : (Itr lo n).go i H ∧ ∀ x H', (Itr lo n).yld i H x H' → H' = H ∧ x = .int (lo + i) := ⟨hlt, fun _ _ y => y⟩
theorem stop_rng {lo : Int} {n : Nat} : (Itr lo n).stop n H := Nat.le_refl n
theorem go_str {z : Str} {i : Nat} (hlt : i < z.cps.size) : (Its z).go i H ∧ ∀ x H', (Its z).yld i H x H' → H' = H ∧ ∃ c, z.cps[i]? = some c ∧ x = .str ⟨#[c]⟩ := ⟨hlt, fun _ _ y => y⟩
theorem stop_str {z : Str} : (Its z).stop z.cps.size H := Nat.le_refl z.cps.size
end forms

/-! ### all(list of bools) -/
theorem call_allB (hc : X.calm = true) : CallR X (.builtin "all") (fun xs H Q => ∃ (p : Addr) (bs : List Bool), xs = [.ref p] ∧ SqL X.K H p (bs.map V.bl) ∧ Q (.bl (bs.all id)) H) := by
  intro pins s σ H xs us Q I r h
  obtain ⟨p, bs, rfl, hq, q⟩ := h
  obtain ⟨u, rfl, rx⟩ := vals1 r
  cases rx
  obtain ⟨its, r', pl, hz⟩ := I.list hq
  have hlen := r'.length
  rw [List.length_map] at hlen
  have hit : ∀ (i : Nat) (v : Value), its[i]? = some v → ∃ b, bs[i]? = some b ∧ v = Value.bool b := fun i v e => by
    have hi : i < its.length := (List.getElem?_eq_some_iff.mp e).1
    have hb : i < bs.length := by omega
    obtain ⟨u, hu, ru⟩ := r'.get (i := i) (x := V.bl bs[i]) (by simp [hb])
    rw [e] at hu; cases hu
    exact ⟨bs[i], by simp [hb], ru⟩
  refine call_all_walk (wpAny_pyIter_list pl.isList ?_)
  have hp : p < s.heap.objs.size := by obtain ⟨o, n, e, _⟩ := pl; exact Heap.lt_size e
  refine ⟨s.heap.objs.size, [s.heap.objs.size, p], [s.heap.objs.size], its.toArray.size, _, _, fun i => bs.getD i false, rfl, Walks.list (by simpa using I.ok.hd hc) _ p (Nat.ne_of_lt hp) its.toArray, ⟨⟨_, Heap.get?_push_size _ rfl, rfl, rfl⟩, pl.isList.push _⟩, fun i v s Q E hP hQ => ?_, fun h' tk kk => ?_⟩
  · obtain ⟨b, hb, rfl⟩ := hit i v (by simpa using hP)
    have e : bs.getD i false = b := by simp [List.getD, hb]
    have hQ' : Q (bs.getD i false) s := hQ
    rw [e] at hQ'
    exact wpAny_truthy_bool hQ'
  · have e : ((List.range its.toArray.size).all fun i => bs.getD i false) = bs.all id := by
      rw [List.size_toArray, ← hlen]
      rw [Bool.eq_iff_iff, List.all_eq_true, List.all_eq_true]
      constructor
      · intro h b hb
        obtain ⟨i, hi, rfl⟩ := List.mem_iff_getElem.mp hb
        have := h i (List.mem_range.mpr hi)
        simpa [List.getD, hi] using this
      · intro h i hi
        have hi' := List.mem_range.mp hi
        have := h bs[i] (List.getElem_mem hi')
        simpa [List.getD, hi'] using this
    refine ⟨.bl (bs.all id), H, ?_, by rw [e]; rfl, q⟩
    exact I.kept fun b o eb => kk b o (fun z => Nat.ne_of_lt (Heap.lt_size eb) (by simpa using z)) (Heap.get?_push_of_some _ eb)
end
end L2

set_option Elab.async false
set_option linter.all false
set_option maxRecDepth 100000
set_option maxHeartbeats 8000000
/-! SETS OF TEXTS, join, repr, isinstance. -/
namespace L2
open PySem PySem.Spec PyProof.Rows
/-- the texts of a list, each once -/
def stepS (σ : List Str) (v : Str) : List Str := if σ.any (· == v) then σ else σ ++ [v]
def metS (val : Nat → Str) (i : Nat) : List Str := ((List.range i).map val).foldl stepS []
theorem metS_succ (val : Nat → Str) (i : Nat) : metS val (i + 1) = stepS (metS val i) (val i) := by
  unfold metS; rw [List.range_succ, List.map_append, List.foldl_append]; rfl
theorem metS_length_le (val : Nat → Str) : ∀ i, (metS val i).length ≤ i
  | 0 => Nat.le_refl _
  | i + 1 => by
    rw [metS_succ]; unfold stepS
    have ih := metS_length_le val i
    split
    · omega
    · rw [List.length_append, List.length_singleton]; omega
theorem stepS_any (σ : List Str) (v k : Str) : (stepS σ v).any (· == k) = (σ.any (· == k) || decide (k = v)) := by
  unfold stepS
  by_cases h : σ.any (· == v) = true
  · rw [if_pos h]
    by_cases e : k = v
    · subst e; rw [h]; simp
    · simp [e]
  · rw [if_neg h, List.any_append]
    by_cases e : k = v
    · subst e; simp
    · have hb : (v == k) = false := by
        rw [beq_eq_false_iff_ne]; exact fun h' => e h'.symm
      simp [hb, e]
theorem stepS_length (σ : List Str) (v : Str) : (stepS σ v).length = if σ.any (· == v) then σ.length else σ.length + 1 := by
  unfold stepS; split <;> simp

section
variable {prog : Program} {w : World} {A : Around} {R : Result → Shared → Prop} {I : Addr} {fp wr : List Addr} {G : Array GenState → Array GenState → Prop} {n : Nat} {P : Nat → Value → Prop} {St : Nat → Shared → Prop}
theorem set_loopS (W : WalksS prog w A.in1 I fp wr G n P St) (S : Addr) (hSf : S ∉ fp)
    (val : Nat → Str) (hval : ∀ i v, P i v → ∃ t, v = .str (val i) t) (hb : n + 1 < scanBound) :
    ∀ (k i : Nat) (s : Shared), n - i = k → i ≤ n → St i s →
      s.heap.SetOf (PySem.strKind prog w) S (fun k' => (metS val i).any (· == k')) (metS val i).length →
      (∀ s', Moved (S :: wr) G s s' → s'.heap.SetOf (PySem.strKind prog w) S (fun k' => (metS val n).any (· == k')) (metS val n).length → R (.ok (.ret .none)) s') →
      codeAny (model prog w) A (.builtin "set.update.loop" ⟨[.ref S, .ref I], []⟩) R s := by
  have hSw : S ∉ wr := fun h => hSf (W.sub _ h)
  have hsub : ∀ b ∈ wr, b ∈ S :: wr := fun b hb => List.mem_cons_of_mem _ hb
  intro k
  induction k with
  | zero =>
    intro i s hk hi hst hS hR
    have hin : i = n := by omega
    subst hin
    refine codeAny_builtin PyProof.Rows.F.entry_set_update_loop ?_
    rw [Around.under_plainId PyProof.Rows.F.plain_set_update_loop _]
    show wpAny _ A.in1 (pyNext (.ref I) >>= _) _ _ s
    refine wpAny_bind (W.done s _ _ hst fun s' hm => ?_)
    show wpAny _ A.in1 (ret Value.none) _ _ s'
    exact wpAny_pure (hR s' (hm.mono hsub) (by
      obtain ⟨o, es, ep, t, ho, rest⟩ := hS
      exact ⟨o, es, ep, t, hm.heap S _ hSw ho, rest⟩))
  | succ k ih =>
    intro i s hk hi hst hS hR
    have hlt : i < n := by omega
    refine codeAny_builtin PyProof.Rows.F.entry_set_update_loop ?_
    rw [Around.under_plainId PyProof.Rows.F.plain_set_update_loop _]
    show wpAny _ A.in1 (pyNext (.ref I) >>= _) _ _ s
    refine wpAny_bind (W.item i s _ _ hlt hst fun v s' hP hst' hm => ?_)
    obtain ⟨t, rfl⟩ := hval i v hP
    have hS' : s'.heap.SetOf (PySem.strKind prog w) S (fun k' => (metS val i).any (· == k')) (metS val i).length := by
      obtain ⟨o, es, ep, tb, ho, rest⟩ := hS
      exact ⟨o, es, ep, tb, hm.heap S _ hSw ho, rest⟩
    have his : (PySem.strKind prog w).is (val i) (.str (val i) t) = true := by show Value.isStrOf (val i) (.str (val i) t) = true; simp [Value.isStrOf]
    show wpAny _ A.in1 (holding [Value.str (val i) t] (setAdd S (.str (val i) t)) >>= _) _ _ s'
    refine wpAny_bind (wpAny_holding ?_)
    unfold setAdd
    refine wpAny_holding ?_
    refine wpAny_bind ((PySem.strKind prog w).pyHash (k := val i) his ?_)
    have hroom : (metS val i).length + 1 < scanBound := by have := metS_length_le val i; omega
    refine wpAny_setAddHashed_of (knd := PySem.strKind prog w) (s := { s' with toks := s'.toks + 1 }) his rfl hS' hroom fun h' hsb hS2 => ?_
    have hSi : h'.SetOf (PySem.strKind prog w) S (fun k' => (metS val (i + 1)).any (· == k')) (metS val (i + 1)).length :=
      SetOf_congr hS2 (fun k' => by rw [metS_succ, stepS_any]) (by rw [metS_succ, stepS_length])
    refine wpAny_pure ⟨plainId_quiet PyProof.Rows.F.plain_set_update_loop _, ih (i + 1) _ (by omega) hlt (W.frame _ s' _ _ hst' (Nat.le_succ _) fun b hb o e => ?_) hSi fun s'' hm'' hS'' => ?_⟩
    · rw [hsb.2 b (fun h : b = S => hSf (by rw [← h]; exact hb))]; exact e
    · refine hR s'' (Moved.trans W.gtrans ((hm.mono hsub).then_heap (Nat.le_succ _) fun b o hb e => ?_) hm'') hS''
      rw [hsb.2 b (fun h : b = S => hb (by rw [h]; exact List.mem_cons_self))]; exact e
end
open Sem (wp)

theorem sub_list_setS : isSubtype (.type "list") (.type "set") = pure false := by rw [isSubtype_type]; kernel_rfl
theorem sub_list_frozensetS : isSubtype (.type "list") (.type "frozenset") = pure false := by rw [isSubtype_type]; kernel_rfl
theorem call_set_listS {prog : Program} {w : World} {A : Around} {E : Value → Shared → Prop} {s : Shared} {l : Addr} {items : Array Value} {val : Nat → Str} {Q : Value → Shared → Prop}
    (hh : A.handled = none) (hl : s.heap.IsList l items) (hi : ∀ (i : Nat) (v : Value), items[i]? = some v → ∃ t, v = .str (val i) t) (hb : items.size + 1 < scanBound)
    (h : ∀ (h' : Heap) (tk : Nat), h'.SetOf (PySem.strKind prog w) s.heap.objs.size (fun k' => (metS val items.size).any (· == k')) (metS val items.size).length →
      (∀ b o, b < s.heap.objs.size → s.heap.get? b = some o → h'.get? b = some o) → Q (.ref s.heap.objs.size) { s with heap := h', toks := tk }) :
    wpAny (model prog w) A (call (.type "set") [.ref l]) Q E s := by
  obtain ⟨c, tl, hmro⟩ := PySem.F.called_set.mro
  have hmade := PySem.F.called_set.made
  have hsub := PySem.F.called_set.sub
  refine wpAny_call (codeAny_of_tree ?_)
  show wpAny _ _ (callAny (.type "set") _) _ _ _
  refine wpAny_pure ⟨Code.quiet_builtin _ (by decide +kernel), codeAny_builtin PySem.F.entry_type_call ?_⟩
  rw [Around.under_plain (weight_type_call_type "set" [.ref l] []) rfl]
  have h1 := PySem.F.called_set.notType
  have h2 := PySem.F.called_set.canCreate
  have hct := PySem.F.typeCall_set_1 (.ref l)
  repeat (any_goals (first | assumption | wp_step))
  refine codeAny_mono (code_set_new_1 (.ref l) (E := E) (Q₁ := fun obj s₁ => ∃ led : Bool, obj = .ref s.heap.objs.size ∧ s₁ = { s with heap := s.heap.push { cls := .type "set", dict := none, data := .set #[] 0 (.fresh 0 0 led) } }) fun led => ⟨led, rfl, rfl⟩) fun r s₁ hr => ?_
  cases r with
  | error e => exact hr
  | ok fl =>
    cases fl with
    | ret obj =>
      obtain ⟨led, rfl, rfl⟩ := hr
      have hS : (s.heap.push { cls := .type "set", dict := none, data := .set #[] 0 (.fresh 0 0 led) }).get? s.heap.objs.size = some { cls := .type "set", dict := none, data := .set #[] 0 (.fresh 0 0 led) } := Heap.get?_push_size _ rfl
      have hT : Shared.TypeIs { s with heap := s.heap.push { cls := .type "set", dict := none, data := .set #[] 0 (.fresh 0 0 led) } } (.ref s.heap.objs.size) "set" := ⟨_, hS, rfl⟩
      have hli := PySem.F.called_set.init.lookup
      have hbi := PySem.F.called_set.init.bind (.ref s.heap.objs.size)
      repeat (any_goals (first | assumption | wp_step))
      refine codeAny_mono (codeAny_call_builtin (R := wants (fun r s₂ => r = .none ∧ ∃ h' tk, s₂ = { s with heap := h', toks := tk } ∧
          h'.SetOf (PySem.strKind prog w) s.heap.objs.size (fun k' => (metS val items.size).any (· == k')) (metS val items.size).length ∧
          (∀ b o, b < s.heap.objs.size → s.heap.get? b = some o → h'.get? b = some o)) E) PySem.F.called_set.init.plain PySem.F.entry_set_init (check_set_init_1 hT ?_)) fun r₂ s₂ hr₂ => ?_
      · obtain ⟨ol, hol, hcl, nl, hdl⟩ := hl
        obtain ⟨ocls, odict, odata, oslots⟩ := ol
        simp only at hcl hdl
        subst hcl; subst hdl
        have hol' : (s.heap.push { cls := .type "set", dict := none, data := .set #[] 0 (.fresh 0 0 led) }).get? l = some { cls := .type "list", dict := odict, data := .seq items nl, slots := oslots } := Heap.get?_push_of_some _ hol
        have hsls := sub_list_setS
        have hslf := sub_list_frozensetS
        have hne : (Value.type "list" == Value.type "dict") = false := by decide
        have hl1 : (s.heap.push { cls := .type "set", dict := none, data := .set #[] 0 (.fresh 0 0 led) }).IsList l items := ⟨_, hol', rfl, nl, rfl⟩
        unfold Builtin.«set.__init__» noKeywords Builtin.Frozenset.updateFrom
        generalize hPI : pyIter = PI
        wp_walk
        subst hPI
        refine wpAny_pyIter_list hl1 ?_
        refine wpAny_bind (wpAny_runValue ?_)
        have hlS : l < s.heap.objs.size := Heap.lt_size hol
        have hh3 : A.in1.in1.in1.handled = none := by simp [hh]
        have hneI : l ≠ (s.heap.push { cls := .type "set", dict := none, data := .set #[] 0 (.fresh 0 0 led) }).objs.size := by
          rw [Heap.size_push]; exact Nat.ne_of_lt (Nat.lt_succ_of_lt hlS)
        have hSf : s.heap.objs.size ∉ [(s.heap.push { cls := .type "set", dict := none, data := .set #[] 0 (.fresh 0 0 led) }).objs.size, l] := by
          rw [Heap.size_push]; simp only [List.mem_cons, List.mem_singleton, List.not_mem_nil, or_false, not_or]
          exact ⟨Nat.ne_of_lt (Nat.lt_succ_self _), Nat.ne_of_gt hlS⟩
        refine set_loopS ((Walks.list hh3 _ l hneI items).toS) s.heap.objs.size
          hSf val hi hb (items.size - 0) 0 _ (by omega) (Nat.zero_le _)
          ⟨⟨_, Heap.get?_push_size _ rfl, rfl, rfl⟩, (hl1.push _)⟩ ?hS0 ?hR
        case hS0 =>
          have hget : ((s.heap.push { cls := .type "set", dict := none, data := .set #[] 0 (.fresh 0 0 led) }).push { cls := .type "list_iterator", data := .fields #[.ref l, .int 0 0] }).get? s.heap.objs.size
              = some { cls := .type "set", dict := none, data := .set #[] 0 (.fresh 0 0 led) } := Heap.get?_push_of_some _ hS
          exact PyProof.Rows.SetOf_congr ((PyProof.Rows.setObjOf_fresh (knd := PySem.strKind prog w) led).setOf hget (by unfold scanBound; omega)) (fun _ => rfl) rfl
        case hR =>
          intro s' hm hS'
          obtain ⟨h', g', d', tk', os'⟩ := s'
          have eg : g' = s.gens := hm.gens
          have ed : d' = s.drawn := hm.drawn
          have eo : os' = s.os := hm.os
          subst eg; subst ed; subst eo
          show wpAny _ _ _ _ _ _
          refine wpAny_pure ?_
          show wpAny _ _ (ret Value.none) _ _ _
          refine wpAny_pure ⟨rfl, h', tk', rfl, hS', fun b o hb e => ?_⟩
          have hb1 : b ≠ s.heap.objs.size := Nat.ne_of_lt hb
          have hb2 : b ≠ (s.heap.push { cls := .type "set", dict := none, data := .set #[] 0 (.fresh 0 0 led) }).objs.size := by
            rw [Heap.size_push]; exact Nat.ne_of_lt (Nat.lt_succ_of_lt hb)
          exact hm.heap b o (by simp only [List.mem_cons, List.mem_singleton, List.not_mem_nil, or_false, not_or]; exact ⟨hb1, hb2⟩) (Heap.get?_push_of_some _ (Heap.get?_push_of_some _ e))
      · cases r₂ with
        | error e => exact hr₂
        | ok fl₂ =>
          cases fl₂ with
          | ret r =>
            obtain ⟨rfl, h', tk, rfl, hS', hk'⟩ := hr₂
            repeat (any_goals (first | assumption | wp_step))
            exact h _ _ hS' hk'
          | _ => exact hr₂.elim
    | _ => exact hr.elim

theorem sub_tuple_setS : isSubtype (.type "tuple") (.type "set") = pure false := by rw [isSubtype_type]; kernel_rfl
theorem sub_tuple_frozensetS : isSubtype (.type "tuple") (.type "frozenset") = pure false := by rw [isSubtype_type]; kernel_rfl
theorem call_set_tupleS {prog : Program} {w : World} {A : Around} {E : Value → Shared → Prop} {s : Shared} {l : Addr} {items : Array Value} {val : Nat → Str} {Q : Value → Shared → Prop}
    (hh : A.handled = none) (hl : s.heap.IsTuple l items) (hi : ∀ (i : Nat) (v : Value), items[i]? = some v → ∃ t, v = .str (val i) t) (hb : items.size + 1 < scanBound)
    (h : ∀ (h' : Heap) (tk : Nat), h'.SetOf (PySem.strKind prog w) s.heap.objs.size (fun k' => (metS val items.size).any (· == k')) (metS val items.size).length →
      (∀ b o, b < s.heap.objs.size → s.heap.get? b = some o → h'.get? b = some o) → Q (.ref s.heap.objs.size) { s with heap := h', toks := tk }) :
    wpAny (model prog w) A (call (.type "set") [.ref l]) Q E s := by
  obtain ⟨c, tl, hmro⟩ := PySem.F.called_set.mro
  have hmade := PySem.F.called_set.made
  have hsub := PySem.F.called_set.sub
  refine wpAny_call (codeAny_of_tree ?_)
  show wpAny _ _ (callAny (.type "set") _) _ _ _
  refine wpAny_pure ⟨Code.quiet_builtin _ (by decide +kernel), codeAny_builtin PySem.F.entry_type_call ?_⟩
  rw [Around.under_plain (weight_type_call_type "set" [.ref l] []) rfl]
  have h1 := PySem.F.called_set.notType
  have h2 := PySem.F.called_set.canCreate
  have hct := PySem.F.typeCall_set_1 (.ref l)
  repeat (any_goals (first | assumption | wp_step))
  refine codeAny_mono (code_set_new_1 (.ref l) (E := E) (Q₁ := fun obj s₁ => ∃ led : Bool, obj = .ref s.heap.objs.size ∧ s₁ = { s with heap := s.heap.push { cls := .type "set", dict := none, data := .set #[] 0 (.fresh 0 0 led) } }) fun led => ⟨led, rfl, rfl⟩) fun r s₁ hr => ?_
  cases r with
  | error e => exact hr
  | ok fl =>
    cases fl with
    | ret obj =>
      obtain ⟨led, rfl, rfl⟩ := hr
      have hS : (s.heap.push { cls := .type "set", dict := none, data := .set #[] 0 (.fresh 0 0 led) }).get? s.heap.objs.size = some { cls := .type "set", dict := none, data := .set #[] 0 (.fresh 0 0 led) } := Heap.get?_push_size _ rfl
      have hT : Shared.TypeIs { s with heap := s.heap.push { cls := .type "set", dict := none, data := .set #[] 0 (.fresh 0 0 led) } } (.ref s.heap.objs.size) "set" := ⟨_, hS, rfl⟩
      have hli := PySem.F.called_set.init.lookup
      have hbi := PySem.F.called_set.init.bind (.ref s.heap.objs.size)
      repeat (any_goals (first | assumption | wp_step))
      refine codeAny_mono (codeAny_call_builtin (R := wants (fun r s₂ => r = .none ∧ ∃ h' tk, s₂ = { s with heap := h', toks := tk } ∧
          h'.SetOf (PySem.strKind prog w) s.heap.objs.size (fun k' => (metS val items.size).any (· == k')) (metS val items.size).length ∧
          (∀ b o, b < s.heap.objs.size → s.heap.get? b = some o → h'.get? b = some o)) E) PySem.F.called_set.init.plain PySem.F.entry_set_init (check_set_init_1 hT ?_)) fun r₂ s₂ hr₂ => ?_
      · obtain ⟨ol, hol, hcl, nl, hdl⟩ := hl
        obtain ⟨ocls, odict, odata, oslots⟩ := ol
        simp only at hcl hdl
        subst hcl; subst hdl
        have hol' : (s.heap.push { cls := .type "set", dict := none, data := .set #[] 0 (.fresh 0 0 led) }).get? l = some { cls := .type "tuple", dict := odict, data := .seq items nl, slots := oslots } := Heap.get?_push_of_some _ hol
        have hsls := sub_tuple_setS
        have hslf := sub_tuple_frozensetS
        have hne : (Value.type "tuple" == Value.type "dict") = false := by decide
        have hl1 : (s.heap.push { cls := .type "set", dict := none, data := .set #[] 0 (.fresh 0 0 led) }).IsTuple l items := ⟨_, hol', rfl, nl, rfl⟩
        unfold Builtin.«set.__init__» noKeywords Builtin.Frozenset.updateFrom
        generalize hPI : pyIter = PI
        wp_walk
        subst hPI
        refine wpAny_pyIter_tuple hl1 ?_
        refine wpAny_bind (wpAny_runValue ?_)
        have hlS : l < s.heap.objs.size := Heap.lt_size hol
        have hh3 : A.in1.in1.in1.handled = none := by simp [hh]
        have hneI : l ≠ (s.heap.push { cls := .type "set", dict := none, data := .set #[] 0 (.fresh 0 0 led) }).objs.size := by
          rw [Heap.size_push]; exact Nat.ne_of_lt (Nat.lt_succ_of_lt hlS)
        have hSf : s.heap.objs.size ∉ [(s.heap.push { cls := .type "set", dict := none, data := .set #[] 0 (.fresh 0 0 led) }).objs.size, l] := by
          rw [Heap.size_push]; simp only [List.mem_cons, List.mem_singleton, List.not_mem_nil, or_false, not_or]
          exact ⟨Nat.ne_of_lt (Nat.lt_succ_self _), Nat.ne_of_gt hlS⟩
        refine set_loopS ((Walks.tuple hh3 _ l hneI items).toS) s.heap.objs.size
          hSf val hi hb (items.size - 0) 0 _ (by omega) (Nat.zero_le _)
          ⟨⟨_, Heap.get?_push_size _ rfl, rfl, rfl⟩, (hl1.push _)⟩ ?hS0 ?hR
        case hS0 =>
          have hget : ((s.heap.push { cls := .type "set", dict := none, data := .set #[] 0 (.fresh 0 0 led) }).push { cls := .type "tuple_iterator", data := .fields #[.ref l, .int 0 0] }).get? s.heap.objs.size
              = some { cls := .type "set", dict := none, data := .set #[] 0 (.fresh 0 0 led) } := Heap.get?_push_of_some _ hS
          exact PyProof.Rows.SetOf_congr ((PyProof.Rows.setObjOf_fresh (knd := PySem.strKind prog w) led).setOf hget (by unfold scanBound; omega)) (fun _ => rfl) rfl
        case hR =>
          intro s' hm hS'
          obtain ⟨h', g', d', tk', os'⟩ := s'
          have eg : g' = s.gens := hm.gens
          have ed : d' = s.drawn := hm.drawn
          have eo : os' = s.os := hm.os
          subst eg; subst ed; subst eo
          show wpAny _ _ _ _ _ _
          refine wpAny_pure ?_
          show wpAny _ _ (ret Value.none) _ _ _
          refine wpAny_pure ⟨rfl, h', tk', rfl, hS', fun b o hb e => ?_⟩
          have hb1 : b ≠ s.heap.objs.size := Nat.ne_of_lt hb
          have hb2 : b ≠ (s.heap.push { cls := .type "set", dict := none, data := .set #[] 0 (.fresh 0 0 led) }).objs.size := by
            rw [Heap.size_push]; exact Nat.ne_of_lt (Nat.lt_succ_of_lt hb)
          exact hm.heap b o (by simp only [List.mem_cons, List.mem_singleton, List.not_mem_nil, or_false, not_or]; exact ⟨hb1, hb2⟩) (Heap.get?_push_of_some _ (Heap.get?_push_of_some _ e))
      · cases r₂ with
        | error e => exact hr₂
        | ok fl₂ =>
          cases fl₂ with
          | ret r =>
            obtain ⟨rfl, h', tk, rfl, hS', hk'⟩ := hr₂
            repeat (any_goals (first | assumption | wp_step))
            exact h _ _ hS' hk'
          | _ => exact hr₂.elim
    | _ => exact hr.elim

end L2

set_option Elab.async false
set_option linter.all false
set_option maxRecDepth 100000
set_option maxHeartbeats 8000000
namespace L2
open PySem PySem.Spec PyProof.Rows
/-- a set of the texts of the list -/
def SetT (P : Program) (w : World) (p : Addr) (xs : List Str) : HO := HO.ext fun h => h.SetOf (PySem.strKind P w) p (fun k => (xs.foldl stepS []).any (· == k)) (xs.foldl stepS []).length
theorem metS_list (xs : List Str) : metS (fun i => xs.getD i Str.empty) xs.length = xs.foldl stepS [] := by
  unfold metS
  congr 1
  apply List.ext_getElem
  · simp
  · intro i h1 h2
    simp [List.getD, h2]
theorem strs_get {xs : List Str} {its : List Value} (r : Vals (xs.map V.str) its) : ∀ (i : Nat) (v : Value), its.toArray[i]? = some v → ∃ t, v = .str (xs.getD i Str.empty) t := fun i v e => by
  have hlen := r.length
  rw [List.length_map] at hlen
  have e : its[i]? = some v := by simpa using e
  have hi : i < its.length := (List.getElem?_eq_some_iff.mp e).1
  have hb : i < xs.length := by omega
  obtain ⟨u, hu, ru⟩ := r.get (i := i) (x := V.str xs[i]) (by simp [hb])
  rw [e] at hu; cases hu
  obtain ⟨t, rfl⟩ := ru
  exact ⟨t, by simp [List.getD, hb]⟩
section
variable {X : Cx}
/-- set(a list or tuple of texts) -/
theorem call_setT (hc : X.calm = true) : CallR X (.type "set") (fun xs H Q => ∃ (p : Addr) (ys : List Str), xs = [.ref p] ∧ (SqL X.K H p (ys.map V.str) ∨ SqT X.K H p (ys.map V.str)) ∧ ys.length + 1 < scanBound ∧ ∀ d, H d = none → Q (.ref d) (upd H d (SetT X.prog X.w d ys))) := by
  intro pins s σ H xs us Q I r h
  obtain ⟨p, ys, rfl, hq, hb, q⟩ := h
  obtain ⟨u, rfl, rx⟩ := vals1 r
  cases rx
  have fin : ∀ (its : List Value), ys.length = its.length → ∀ (h' : Heap) (tk : Nat), h'.SetOf (PySem.strKind X.prog X.w) s.heap.objs.size (fun k' => (metS (fun i => ys.getD i Str.empty) its.toArray.size).any (· == k')) (metS (fun i => ys.getD i Str.empty) its.toArray.size).length →
      (∀ b o, b < s.heap.objs.size → s.heap.get? b = some o → h'.get? b = some o) → EP X pins σ Q (.ref s.heap.objs.size) { s with heap := h', toks := tk } := fun its hl h' tk hS kk => by
    have esz : its.toArray.size = ys.length := by rw [List.size_toArray, hl]
    rw [esz, metS_list] at hS
    refine ⟨.ref s.heap.objs.size, _, I.laid (t' := tk) (fun b o e => kk b o (Heap.lt_size e) e) (Nat.le_refl _) ?_, rfl, q _ (I.hok.fresh (Nat.le_refl _))⟩
    refine ⟨hS, ?_, fun h1 h2 a b => ?_⟩
    · obtain ⟨o, es, ep, t, ho, _⟩ := hS
      exact ⟨o, ho⟩
    · obtain ⟨o, es, ep, t, ho, rest⟩ := a
      exact ⟨o, es, ep, t, b o ho, rest⟩
  rcases hq with hq | hq
  · obtain ⟨its, r', pl, hz⟩ := I.list hq
    have hlen := r'.length
    rw [List.length_map] at hlen
    exact call_set_listS (val := fun i => ys.getD i Str.empty) (I.ok.hd hc) pl.isList (strs_get r') (by rw [List.size_toArray]; omega) (fin its hlen)
  · obtain ⟨its, r', pl, hz⟩ := I.tuple hq
    have hlen := r'.length
    rw [List.length_map] at hlen
    exact call_set_tupleS (val := fun i => ys.getD i Str.empty) (I.ok.hd hc) pl (strs_get r') (by rw [List.size_toArray]; omega) (fin its hlen)
/-- len of such a set -/
theorem call_lenT : CallR X (.builtin "len") (fun xs H Q => ∃ (p : Addr) (ys : List Str), xs = [.ref p] ∧ H p = some (SetT X.prog X.w p ys) ∧ Q (.int (ys.foldl stepS []).length) H) := by
  intro pins s σ H xs us Q I r h
  obtain ⟨p, ys, rfl, hp, q⟩ := h
  obtain ⟨u, rfl, rx⟩ := vals1 r
  cases rx
  obtain ⟨hS, _, _⟩ := I.hok p _ hp
  have hS : s.heap.SetOf (PySem.strKind X.prog X.w) p (fun k => (ys.foldl stepS []).any (· == k)) (ys.foldl stepS []).length := hS
  obtain ⟨o, es, ep, t, ho, hex, hd, _, _, hsb, hf, hn⟩ := hS
  refine call_len_set ho hex hd hf (by unfold scanBound at hsb; omega) ⟨.int (ys.foldl stepS []).length, H, I.tok _, ⟨_, by rw [hn]⟩, q⟩
end
/-! ### texts without repetition -/
theorem foldS_any : ∀ (xs σ : List Str) (k : Str), (xs.foldl stepS σ).any (· == k) = (σ.any (· == k) || xs.any (· == k))
  | [], σ, k => by simp
  | x :: r, σ, k => by
    rw [List.foldl_cons, foldS_any r, stepS_any, List.any_cons, Bool.or_assoc]
    congr 2
    by_cases e : k = x
    · subst e; simp
    · have : (x == k) = false := beq_eq_false_iff_ne.mpr fun h => e h.symm
      simp [e, this]
theorem foldS_nodup : ∀ (xs σ : List Str), xs.Nodup → (∀ x ∈ xs, ¬ x ∈ σ) → (xs.foldl stepS σ).length = σ.length + xs.length
  | [], σ, _, _ => by simp
  | x :: r, σ, h, hn => by
    obtain ⟨h1, h2⟩ := List.nodup_cons.mp h
    have e : stepS σ x = σ ++ [x] := by
      unfold stepS
      rw [if_neg]
      intro z
      obtain ⟨y, hy, e⟩ := List.any_eq_true.mp z
      exact hn x List.mem_cons_self (by rw [← eq_of_beq e]; exact hy)
    rw [List.foldl_cons, e, foldS_nodup r _ h2 fun y hy z => ?_]
    · simp; omega
    · rcases List.mem_append.mp z with q | q
      · exact hn y (List.mem_cons_of_mem _ hy) q
      · exact h1 (by rw [← List.mem_singleton.mp q]; exact hy)

/-! ### join -/
theorem vals_strs : ∀ {xs : List Str} {its : List Value}, Vals (xs.map V.str) its → ∃ l : List (Str × Tok), its = strValues l ∧ l.map (·.1) = xs
  | [], _, .nil => ⟨[], rfl, rfl⟩
  | x :: r, _, .cons ⟨t, e⟩ tl => by
    obtain ⟨l, e1, e2⟩ := vals_strs tl
    exact ⟨(x, t) :: l, by rw [e, e1]; rfl, by rw [← e2]; rfl⟩
section
variable {X : Cx}
/-- sep.join(a list of texts) -/
theorem mt_join : MtR X "str.join" (fun x xs H Q => ∃ (sep : Str) (p : Addr) (ys : List Str), x = .str sep ∧ xs = [.ref p] ∧ SqL X.K H p (ys.map V.str) ∧ JoinOk sep ys = true ∧ Q (.str (Str.join sep ys)) H) := by
  intro pins s σ H x xs v us Q I rx rs h
  obtain ⟨sep, p, ys, rfl, rfl, hq, hok, q⟩ := h
  obtain ⟨t, rfl⟩ := rx
  obtain ⟨u, rfl, ru⟩ := vals1 rs
  cases ru
  obtain ⟨its, r', pl, hz⟩ := I.list hq
  obtain ⟨l, rfl, e2⟩ := vals_strs r'
  refine SC.join pl.isList e2 hok fun t' k => ⟨.str (Str.join sep ys), H, I.tok k, ⟨t', ?_⟩, q⟩
  show Value.str (Txt.join sep ys) t' = _
  rw [show Txt.join sep ys = Str.join sep ys from StrLaws.glued_eq_join sep ys]
/-! ### repr -/
mutual
/-- the value reads so over the abstract heap: texts, ints, None, bools; lists and tuples of such -/
inductive RdsV (H : Hp) : V → PyData → Prop where
  | non : RdsV H .non .none
  | bl (b : Bool) : RdsV H (.bl b) (.bool b)
  | int (i : Int) : RdsV H (.int i) (.int i)
  | str (x : Str) : RdsV H (.str x) (.str x)
  | lst {a : Addr} {xs : List V} {ds : List PyData} : H a = some (.lst xs) → RdsA H xs ds → RdsV H (.ref a) (.list ds)
  | tup {a : Addr} {xs : List V} {ds : List PyData} : H a = some (.tup xs) → RdsA H xs ds → RdsV H (.ref a) (.tuple ds)
inductive RdsA (H : Hp) : List V → List PyData → Prop where
  | nil : RdsA H [] []
  | cons {x : V} {xs : List V} {d : PyData} {ds : List PyData} : RdsV H x d → RdsA H xs ds → RdsA H (x :: xs) (d :: ds)
end
mutual
theorem RdsV.reads {P : Program} {w : World} {H : Hp} {h : Heap} (ok : HOk P w H h) : ∀ {x : V} {d : PyData}, RdsV H x d → ∀ {u : Value}, RelV x u → ∃ as, Reads h u d as
  | _, _, .non, u, r => by cases r; exact ⟨_, .none⟩
  | _, _, .bl b, u, r => by cases r; exact ⟨_, .bool b⟩
  | _, _, .int i, u, r => by obtain ⟨t, rfl⟩ := r; exact ⟨_, .int i t⟩
  | _, _, .str x, u, r => by obtain ⟨t, rfl⟩ := r; exact ⟨_, .str x t⟩
  | _, _, .lst (a := a) e z, u, r => by
    cases r
    obtain ⟨_, its, n, rv, e1⟩ := ok a _ e
    obtain ⟨as, q⟩ := RdsA.reads ok z rv
    exact ⟨_, .list e1 rfl rfl (by simpa using q)⟩
  | _, _, .tup (a := a) e z, u, r => by
    cases r
    obtain ⟨_, its, rv, o, e1, e2, n, e3⟩ := ok a _ e
    obtain ⟨as, q⟩ := RdsA.reads ok z rv
    exact ⟨_, .tuple e1 e2 e3 (by simpa using q)⟩
theorem RdsA.reads {P : Program} {w : World} {H : Hp} {h : Heap} (ok : HOk P w H h) : ∀ {xs : List V} {ds : List PyData}, RdsA H xs ds → ∀ {us : List Value}, Vals xs us → ∃ as, ReadsAll h us ds as
  | _, _, .nil, _, .nil => ⟨_, .nil⟩
  | _, _, .cons a b, _, .cons r t => by
    obtain ⟨as, q1⟩ := RdsV.reads ok a r
    obtain ⟨bs, q2⟩ := RdsA.reads ok b t
    exact ⟨_, .cons q1 q2⟩
end
/-- repr of a list or tuple -/
theorem call_reprD {k : Nat} (hr : Room k X.A) : CallR X (.builtin "repr") (fun xs H Q => ∃ (p : Addr) (d : PyData), xs = [.ref p] ∧ RdsV H (.ref p) d ∧ d.showable = true ∧ d.hasDict = false ∧ d.depth ≤ 60 ∧ d.shown.length ≤ sizeLine ∧ Q (.str d.shown) H) := by
  intro pins s σ H xs us Q I r h
  obtain ⟨p, d, rfl, hd, h1, h2, h3, h4, q⟩ := h
  obtain ⟨u, rfl, rx⟩ := vals1 r
  cases rx
  obtain ⟨as, rd⟩ := hd.reads I.hok (u := .ref p) rfl
  have hu := hr.units
  refine repr_of_reads' (h₀ := s.heap) rd h1 (fun z => by rw [h2] at z; cases z) hr.gd (by omega) (fun _ _ e => e) (fun h' u tk kk => ⟨.str d.shown, H, I.kept kk, ⟨u, rfl⟩, q⟩) h4
/-! ### isinstance -/
/-- isinstance(x, T), T a built-in type -/
theorem call_isiT {T : String} : CallR X (.builtin "isinstance") (fun xs H Q => ∃ (x : V) (t : Value) (b : Bool), xs = [x, .ty T] ∧ TyOf X.K H x t ∧ PySem.W.kitOne X.K t (.type T) = some b ∧ Q (.bl b) H) := by
  intro pins s σ H xs us Q I r h
  obtain ⟨x, t, b, rfl, ty, e, q⟩ := h
  obtain ⟨u, u', rfl, rx, ry⟩ := vals2 r
  cases ry
  exact isinst_ok I rx ty e fun tk => ⟨.bl b, H, I.tok tk, rfl, q⟩
theorem isinst_tup {pins : List (Addr × Obj)} {σ : St} {H : Hp} {s : Shared} {A : Around} {E : Value → Shared → Prop} {Q : Value → Shared → Prop} {b : Bool} {x : V} {u t : Value} {tp : Addr} {cs : List Value} (I : Inv X pins σ H s) (rx : RelV x u) (ty : TyOf X.K H x t)
    (htp : ∃ (dd : Option Addr) (n : Nat) (sl : Array (Option Value)), s.heap.get? tp = some ⟨.type "tuple", dd, .seq cs.toArray n, sl⟩) (e : PySem.W.kitAny X.K t cs = some b) (h : ∀ tk, Q (.bool b) { s with toks := tk }) :
    wpAny (model X.prog X.w) A (call (.builtin "isinstance") [u, .ref tp]) Q E s := by
  obtain ⟨dd, n, sl, htp⟩ := htp
  cases ty with
  | non => cases (show u = Value.none from rx); exact PySem.W.kia_tup PySem.W.kitx_none I.kIn True.intro htp e (fun z => nomatch z) h
  | bl y => cases (show u = Value.bool y from rx); exact PySem.W.kia_tup PySem.W.kitx_bool I.kIn True.intro htp e (fun z => nomatch z) h
  | int i => obtain ⟨t, q⟩ := (show ∃ t, u = Value.int i t from rx); cases q; exact PySem.W.kia_tup PySem.W.kitx_int I.kIn True.intro htp e (fun z => nomatch z) h
  | str y => obtain ⟨t, q⟩ := (show ∃ t, u = Value.str y t from rx); cases q; exact PySem.W.kia_tup PySem.W.kitx_str I.kIn True.intro htp e (fun z => nomatch z) h
  | flt y => obtain ⟨t, q⟩ := (show ∃ t, u = Value.float y t from rx); cases q; exact PySem.W.kia_tup PySem.W.kitx_float I.kIn True.intro htp e (fun z => nomatch z) h
  | @lst a xs ea =>
    cases (show u = Value.ref a from rx)
    obtain ⟨_, _, n, _, h1⟩ := (show ObjOk X.prog X.w H s.heap a (.lst xs) from I.hok a _ ea)
    exact PySem.W.kia_tup PySem.W.kitx_list I.kIn ⟨_, h1, rfl⟩ htp e (fun z => nomatch z) h
  | @frz a ob xs ea =>
    cases (show u = Value.ref a from rx)
    obtain ⟨_, _, _, n, _, h1⟩ := (show ObjOk X.prog X.w H s.heap a (.frz ob (.lst xs)) from I.hok a _ ea)
    exact PySem.W.kia_tup PySem.W.kitx_list I.kIn ⟨_, h1, rfl⟩ htp e (fun z => nomatch z) h
  | @tup a xs ea =>
    cases (show u = Value.ref a from rx)
    obtain ⟨_, _, _, p⟩ := (show ObjOk X.prog X.w H s.heap a (.tup xs) from I.hok a _ ea)
    obtain ⟨o, h1, h2, _⟩ := p
    exact PySem.W.kia_tup PySem.W.kitx_tuple I.kIn ⟨o, h1, h2⟩ htp e (fun z => nomatch z) h
  | @dK a kvs ea =>
    cases (show u = Value.ref a from rx)
    obtain ⟨_, _, vs, _, p⟩ := (show ObjOk X.prog X.w H s.heap a (.dK kvs) from I.hok a _ ea)
    obtain ⟨o, es, ep, h1, h2, _⟩ := p
    exact PySem.W.kia_tup PySem.W.kitx_dict I.kIn ⟨o, h1, h2.1⟩ htp e (fun z => nomatch z) h
  | @dT a kvs ea =>
    cases (show u = Value.ref a from rx)
    obtain ⟨_, _, xs, _, o, es, ep, h1, h2, _⟩ := (show ObjOk X.prog X.w H s.heap a (.dT kvs) from I.hok a _ ea)
    exact PySem.W.kia_tup PySem.W.kitx_dict I.kIn ⟨o, h1, h2.1⟩ htp e (fun z => nomatch z) h
  | @ins a C dx fs ea cl ha hn htk hm =>
    cases (show u = Value.ref a from rx)
    obtain ⟨mA, O, _⟩ := ins_get I.hok ea
    obtain ⟨od, J, _⟩ := O.look
    exact PySem.W.kia_tup (PySem.W.kitx_own (cl.get _) cl.hd ha hn htk hm) I.kIn J htp e (fun z => nomatch z) h
/-- isinstance(x, (T, U)), a made tuple of built-in types -/
theorem call_isi2 {T U : String} : CallR X (.builtin "isinstance") (fun xs H Q => ∃ (x : V) (p : Addr) (t : Value) (b : Bool), xs = [x, .ref p] ∧ H p = some (.tup [.ty T, .ty U]) ∧ TyOf X.K H x t ∧ PySem.W.kitAny X.K t [.type T, .type U] = some b ∧ Q (.bl b) H) := by
  intro pins s σ H xs us Q I r h
  obtain ⟨x, p, t, b, rfl, hp, ty, e, q⟩ := h
  obtain ⟨u, u', rfl, rx, ry⟩ := vals2 r
  cases ry
  obtain ⟨_, its, rv, o, h1, h2, n, h3⟩ := I.hok p _ hp
  obtain ⟨a, b', rfl, ra, rb⟩ := vals2 rv
  cases ra
  cases rb
  refine isinst_tup (cs := [.type T, .type U]) I rx ty ?_ e fun tk => ⟨.bl b, H, I.tok tk, rfl, q⟩
  obtain ⟨oc, od, odt, osl⟩ := o
  cases h2
  cases h3
  exact ⟨od, n, osl, h1⟩
end
end L2

set_option Elab.async false
set_option linter.all false
set_option maxRecDepth 100000
set_option maxHeartbeats 8000000
namespace L2
open PySem PySem.Spec PyProof.Rows
section
variable {X : Cx}
/-- t + u of tuples -/
def rCatTT (K : PySem.W.Frag) : R2 := fun x y H Q => ∃ a b xs ys, x = .ref a ∧ y = .ref b ∧ SqT K H a xs ∧ SqT K H b ys ∧ xs.length + ys.length ≤ sizeLine ∧
  (xs = [] → Q (.ref b) H) ∧ (xs ≠ [] → ys = [] → Q (.ref a) H) ∧ (xs ≠ [] → ys ≠ [] → ∀ p, H p = none → Q (.ref p) (upd H p (.tup (xs ++ ys))))
theorem op_catTT : OpR X (binaryOp .Add) (rCatTT X.K) := by
  intro pins s σ H x y v u Q I rx ry h
  obtain ⟨a, b, xs, ys, rfl, rfl, ha, hb, hz, q0, q1, q2⟩ := h
  by_cases hx : xs = []
  · cases rx
    cases ry
    obtain ⟨its, r1, p1, _⟩ := I.tuple ha
    obtain ⟨its2, r2, p2, _⟩ := I.tuple hb
    obtain ⟨⟨cls, dd, data, sl⟩, ho, hc, n, hd⟩ := id p1
    obtain ⟨⟨cls2, dd2, data2, sl2⟩, ho2, hc2, n2, hd2⟩ := id p2
    simp only at hc hd hc2 hd2
    subst hc hd hc2 hd2
    have e : its = [] := r1.nil_iff.mpr hx
    exact concat_meets ⟨_, ho, rfl⟩ ⟨_, ho2, rfl⟩ noFill_tuple_add seq_tuple_add PySem.F.slot_tuple_add PySem.F.entry_tuple_add (PySem.F.args_tuple_add_2 _ _)
      (tuple_addW0 a b its.toArray its2.toArray n n2 dd dd2 sl sl2 (by simp [e])) ⟨ho, ho2, ⟨.ref b, H, I, rfl, q0 hx⟩⟩
  · exact op_catT pins s σ H _ _ v u Q I rx ry ⟨a, b, xs, ys, rfl, rfl, ha, hb, hx, hz, q1 hx, q2 hx⟩

/-! ### the built-in names -/
theorem bt_len : bootBuiltins "len" = some (.builtin "len") := by decide +kernel
theorem bt_max : bootBuiltins "max" = some (.builtin "max") := by decide +kernel
theorem bt_min : bootBuiltins "min" = some (.builtin "min") := by decide +kernel
theorem bt_abs : bootBuiltins "abs" = some (.builtin "abs") := by decide +kernel
theorem bt_divmod : bootBuiltins "divmod" = some (.builtin "divmod") := by decide +kernel
theorem bt_all : bootBuiltins "all" = some (.builtin "all") := by decide +kernel
theorem bt_any : bootBuiltins "any" = some (.builtin "any") := by decide +kernel
theorem bt_repr : bootBuiltins "repr" = some (.builtin "repr") := by decide +kernel
theorem bt_isinstance : bootBuiltins "isinstance" = some (.builtin "isinstance") := by decide +kernel
theorem bt_sum : bootBuiltins "sum" = some (.builtin "sum") := by decide +kernel
theorem bt_sorted : bootBuiltins "sorted" = some (.builtin "sorted") := by decide +kernel
theorem bt_list : bootBuiltins "list" = some (.type "list") := by decide +kernel
theorem bt_tuple : bootBuiltins "tuple" = some (.type "tuple") := by decide +kernel
theorem bt_int : bootBuiltins "int" = some (.type "int") := by decide +kernel
theorem bt_str : bootBuiltins "str" = some (.type "str") := by decide +kernel
theorem bt_set : bootBuiltins "set" = some (.type "set") := by decide +kernel
theorem bt_dict : bootBuiltins "dict" = some (.type "dict") := by decide +kernel
theorem bt_bool : bootBuiltins "bool" = some (.type "bool") := by decide +kernel
theorem bt_range : bootBuiltins "range" = some (.type "range") := by decide +kernel
/-! ### defs by name -/
def Def (P : Program) (w : World) (K : PySem.W.Frag) (mg : Str → Option Value) (base : Heap) (x : Str) (k : Nat) (ps : List Str) (sp : Sp) : Prop :=
  ∃ f fd, mg x = some (.ref f) ∧ PySem.W.keepIn K (.ref f) = true ∧ Binds K fd ps [] ∧ FnOk P w K mg base CX0 k f fd ps sp
theorem pe_def {x : Str} {k : Nat} {ps : List Str} {sp : Sp} {p pos : Pos} {e : Expr} {es : List Expr} {t : TA} (D : Def X.prog X.w X.K X.mg X.base x k ps sp) (hr : Room k X.A) (hg : Gl X x) (ha : PA X (e :: es) t)
    (hdb : (x == ("__debug__" : Str)) = false := by decide) (he : starEach (e :: es) X.env = (false, eval e X.env) :: starEach es X.env := by rfl) (hpl : (backTo pos (starEach es X.env)).any (·.1) = false := by rfl) :
    PE X (.Call (.Name x p) (e :: es) [] pos) (tCall sp [] E0 t) := by
  obtain ⟨f, fd, hm, hk, hb, F⟩ := D
  exact pe_call F hr hg hm hk hb .nil pass0 ha hdb he hpl
structure FunAt (K : PySem.W.Frag) (mg : Str → Option Value) (x : Str) (st : Stmt) (ps : List Str) : Prop where
  ex : ∃ f fd, Fun K x x st f fd ∧ mg x = some (.ref f) ∧ Binds K fd ps []
theorem FunAt.mk' {P : Program} {w : World} {K : PySem.W.Frag} {mg : Str → Option Value} {base : Heap} {x : Str} {st : Stmt} {N ps : List Str} {k : Nat} {sp : Sp} (F : FunAt K mg x st ps) (S : FnScope N ps (defScope st)) (len : ∀ vs H Q E, sp vs H Q E → vs.length = ps.length)
    (hbody : ∀ (f : Addr) (cdv : Value) (A : Around) (outer : List Env) (s : Shared) (H : Hp) (vs : List V) (Q : VK) (E : XK), Room k (A.deeper (envOfC x (defScope st) s.heap.objs.size f cdv)) → sp vs H Q E →
      ∃ t, PSs (cxOf CX0 P w K mg base N x (defScope st) f cdv A outer s H E).nox (defBody st) t ∧ t { nx := fun _ H' => Q .non H', rt := Q } (start N vs) H) : Def P w K mg base x (k + 1) ps sp := by
  obtain ⟨f, fd, Fn, hm, hb⟩ := F.ex
  exact ⟨f, fd, hm, Fn.kp, hb, Fn.ok S len (hbody f)⟩
theorem noxe {X : Cx} : ∀ v s, ¬ (X.nox).xe v s := fun _ _ z => z
/-! ### heaps -/
/-- all that was tracked is as it was, but at p -/
def SameX (p : Addr) (H H' : Hp) : Prop := ∀ b o, b ≠ p → H b = some o → H' b = some o
theorem SameX.trans {p : Addr} {H H1 H2 : Hp} (a : SameX p H H1) (b : SameX p H1 H2) : SameX p H H2 := fun c o n h => b c o n (a c o n h)
theorem SameX.refl (p : Addr) (H : Hp) : SameX p H H := fun _ _ _ h => h
theorem SameX.upd (p : Addr) (H : Hp) (o : HO) : SameX p H (upd H p o) := fun b u n h => by rw [upd_ne n]; exact h
theorem same_new {H : Hp} {p : Addr} (h : H p = none) (o : HO) : Same H (upd H p o) := fun b u e => by rw [upd_ne (ne_of_none e h)]; exact e
theorem Same.x {p : Addr} {H H' : Hp} (a : Same H H') : SameX p H H' := fun b o _ h => a b o h
end
theorem SameX.same {p : Addr} {H H1 H2 : Hp} (a : SameX p H H1) (b : Same H1 H2) : SameX p H H2 := fun c o n h => b c o (a c o n h)
theorem SameX.free {p : Addr} {H H' : Hp} (e : SameX p H H') {l : Addr} (n : l ≠ p) (h : H' l = none) : H l = none := by
  cases q : H l with
  | none => rfl
  | some o => rw [e l o n q] at h; cases h
theorem atI_int {α : Type} {xs : List α} {i : Int} {x : α} (h0 : 0 ≤ i) (h : xs[i.toNat]? = some x) : atI xs i = some x := by
  have := atI_nat h
  rwa [Int.toNat_of_nonneg h0] at this
theorem seqIx {n : Nat} {i : Int} (h0 : 0 ≤ i) (h1 : i < n) : seqIndex? i n = some i.toNat := by
  unfold seqIndex?
  simp [show ¬ (i < 0) by omega, h0, h1]

/-- a block's scope, without what runs -/
structure CompSc (n : Nat) (N' N : List Str) (osc scope : Scope) : Prop where
  kind : scope.kind = .function
  names : ∀ x ∈ scope.names, x.2 = .local → scope.names.lookup x.1 = some .local
  cell : ∀ x ∈ scope.names, x.2 ≠ .cell
  free : ∀ x ∈ scope.names, x.2 = .free → osc.names.lookup x.1 = some .cell ∨ osc.names.lookup x.1 = some .free
  nd : N'.Nodup
  len : N'.length = n + N.length
  look : lookOk n N' N scope.names = true
theorem CompSc.at {X : Cx} {n : Nat} {N' : List Str} {scope : Scope} (h : CompSc n N' X.N X.env.scope scope) : CompScope n N' X scope := ⟨h.kind, h.names, h.cell, h.free, h.nd, h.len, h.look⟩
end L2

set_option Elab.async false
set_option linter.all false
set_option maxRecDepth 100000
set_option maxHeartbeats 4000000
namespace L2
open PySem PySem.Spec PyProof.Rows
mutual
/-- the value reads so over the abstract heap, all its lists and tuples within R -/
inductive RdV (R : Addr → Prop) (H : Hp) : V → PyData → Prop where
  | non : RdV R H .non .none
  | bl (b : Bool) : RdV R H (.bl b) (.bool b)
  | int (i : Int) : RdV R H (.int i) (.int i)
  | str (x : Str) : RdV R H (.str x) (.str x)
  | lst {a : Addr} {xs : List V} {ds : List PyData} : R a → H a = some (.lst xs) → RdA R H xs ds → RdV R H (.ref a) (.list ds)
  | tup {a : Addr} {xs : List V} {ds : List PyData} : R a → H a = some (.tup xs) → RdA R H xs ds → RdV R H (.ref a) (.tuple ds)
inductive RdA (R : Addr → Prop) (H : Hp) : List V → List PyData → Prop where
  | nil : RdA R H [] []
  | cons {x : V} {xs : List V} {d : PyData} {ds : List PyData} : RdV R H x d → RdA R H xs ds → RdA R H (x :: xs) (d :: ds)
end
mutual
theorem RdV.mono {R R' : Addr → Prop} {H H' : Hp} (hR : ∀ a, R a → R' a) (hH : ∀ a o, R a → H a = some o → H' a = some o) : ∀ {x : V} {d : PyData}, RdV R H x d → RdV R' H' x d
  | _, _, .non => .non
  | _, _, .bl b => .bl b
  | _, _, .int i => .int i
  | _, _, .str x => .str x
  | _, _, .lst r e z => .lst (hR _ r) (hH _ _ r e) (RdA.mono hR hH z)
  | _, _, .tup r e z => .tup (hR _ r) (hH _ _ r e) (RdA.mono hR hH z)
theorem RdA.mono {R R' : Addr → Prop} {H H' : Hp} (hR : ∀ a, R a → R' a) (hH : ∀ a o, R a → H a = some o → H' a = some o) : ∀ {xs : List V} {ds : List PyData}, RdA R H xs ds → RdA R' H' xs ds
  | _, _, .nil => .nil
  | _, _, .cons a b => .cons (RdV.mono hR hH a) (RdA.mono hR hH b)
end
mutual
theorem RdV.toV {R : Addr → Prop} {H : Hp} : ∀ {x : V} {d : PyData}, RdV R H x d → RdsV H x d
  | _, _, .non => .non
  | _, _, .bl b => .bl b
  | _, _, .int i => .int i
  | _, _, .str x => .str x
  | _, _, .lst r e z => .lst e (RdA.toA z)
  | _, _, .tup r e z => .tup e (RdA.toA z)
theorem RdA.toA {R : Addr → Prop} {H : Hp} : ∀ {xs : List V} {ds : List PyData}, RdA R H xs ds → RdsA H xs ds
  | _, _, .nil => .nil
  | _, _, .cons a b => .cons (RdV.toV a) (RdA.toA b)
end
/-! no list in it -/
mutual
def tupOnly : PyData → Bool
  | .list _ => false
  | .tuple ds => tupOnlyA ds
  | _ => true
def tupOnlyA : List PyData → Bool
  | [] => true
  | d :: r => tupOnly d && tupOnlyA r
end
mutual
theorem RdV.monoT {R R' : Addr → Prop} {H H' : Hp} (hR : ∀ a, R a → R' a) (hH : ∀ a xs, H a = some (.tup xs) → H' a = some (.tup xs)) : ∀ {x : V} {d : PyData}, tupOnly d = true → RdV R H x d → RdV R' H' x d
  | _, _, _, .non => .non
  | _, _, _, .bl b => .bl b
  | _, _, _, .int i => .int i
  | _, _, _, .str x => .str x
  | _, _, h, .lst r e z => by simp [tupOnly] at h
  | _, _, h, .tup r e z => .tup (hR _ r) (hH _ _ e) (RdA.monoT hR hH (by simpa [tupOnly] using h) z)
theorem RdA.monoT {R R' : Addr → Prop} {H H' : Hp} (hR : ∀ a, R a → R' a) (hH : ∀ a xs, H a = some (.tup xs) → H' a = some (.tup xs)) : ∀ {xs : List V} {ds : List PyData}, tupOnlyA ds = true → RdA R H xs ds → RdA R' H' xs ds
  | _, _, _, .nil => .nil
  | _, _, h, .cons a b => by
    simp only [tupOnlyA, Bool.and_eq_true] at h
    exact .cons (RdV.monoT hR hH h.1 a) (RdA.monoT hR hH h.2 b)
end
section
variable {R : Addr → Prop} {H H' : Hp} {v : V} {xs ys : List V} {ds es : List PyData} {d : PyData}
theorem RdV.same (hs : Same H H') (h : RdV R H v d) : RdV R H' v d := h.mono (fun _ r => r) fun a o _ e => hs a o e
theorem RdA.same (hs : Same H H') (h : RdA R H xs ds) : RdA R H' xs ds := h.mono (fun _ r => r) fun a o _ e => hs a o e
theorem RdV.list_inv (h : RdV R H v (.list ds)) : ∃ a xs, v = .ref a ∧ R a ∧ H a = some (.lst xs) ∧ RdA R H xs ds := by cases h with | lst r e z => exact ⟨_, _, rfl, r, e, z⟩
theorem RdV.tuple_inv (h : RdV R H v (.tuple ds)) : ∃ a xs, v = .ref a ∧ R a ∧ H a = some (.tup xs) ∧ RdA R H xs ds := by cases h with | tup r e z => exact ⟨_, _, rfl, r, e, z⟩
theorem RdV.str_inv {x : Str} (h : RdV R H v (.str x)) : v = .str x := by cases h; rfl
theorem RdA.length : ∀ {xs : List V} {ds : List PyData}, RdA R H xs ds → xs.length = ds.length
  | _, _, .nil => rfl
  | _, _, .cons _ t => by rw [List.length_cons, List.length_cons, RdA.length t]
theorem RdA.get : ∀ {xs : List V} {ds : List PyData} {i : Nat} {d : PyData}, RdA R H xs ds → ds[i]? = some d → ∃ x, xs[i]? = some x ∧ RdV R H x d
  | _, _, _, _, .nil, h => by simp at h
  | _, _, 0, _, .cons a t, h => by simp at h; subst h; exact ⟨_, rfl, a⟩
  | _, _, i + 1, _, .cons a t, h => by simpa using RdA.get (i := i) t (by simpa using h)
theorem RdA.getV : ∀ {xs : List V} {ds : List PyData} {i : Nat} {x : V}, RdA R H xs ds → xs[i]? = some x → ∃ d, ds[i]? = some d ∧ RdV R H x d
  | _, _, _, _, .nil, h => by simp at h
  | _, _, 0, _, .cons a t, h => by simp at h; subst h; exact ⟨_, rfl, a⟩
  | _, _, i + 1, _, .cons a t, h => by simpa using RdA.getV (i := i) t (by simpa using h)
theorem RdA.append : ∀ {xs ys : List V} {ds es : List PyData}, RdA R H xs ds → RdA R H ys es → RdA R H (xs ++ ys) (ds ++ es)
  | _, _, _, _, .nil, h => h
  | _, _, _, _, .cons a t, h => .cons a (RdA.append t h)
theorem RdA.snoc (h : RdA R H xs ds) (a : RdV R H v d) : RdA R H (xs ++ [v]) (ds ++ [d]) := h.append (.cons a .nil)
theorem RdA.strs : ∀ ws : List Str, RdA R H (ws.map V.str) (ws.map PyData.str)
  | [] => .nil
  | x :: r => .cons (.str x) (RdA.strs r)
theorem RdA.strs_inv : ∀ {ws : List Str} {xs : List V}, RdA R H xs (ws.map PyData.str) → xs = ws.map V.str
  | [], _, .nil => rfl
  | _ :: _, _, .cons a t => by rw [RdV.str_inv a, RdA.strs_inv t]; rfl
theorem RdA.two (h : RdA R H xs [d, e]) : ∃ x y, xs = [x, y] ∧ RdV R H x d ∧ RdV R H y e := by
  cases h with | cons a t => cases t with | cons b t => cases t; exact ⟨_, _, rfl, a, b⟩
theorem RdA.three {f : PyData} (h : RdA R H xs [d, e, f]) : ∃ x y z, xs = [x, y, z] ∧ RdV R H x d ∧ RdV R H y e ∧ RdV R H z f := by
  cases h with | cons a t => cases t with | cons b t => cases t with | cons c t => cases t; exact ⟨_, _, _, rfl, a, b, c⟩
end
end L2

set_option Elab.async false
set_option linter.all false
set_option maxRecDepth 100000
set_option maxHeartbeats 4000000
namespace L2
open PySem PySem.Spec PyProof.Rows
/-- written texts, one after another -/
inductive StrConsts : List Expr → List Str → Prop where
  | nil : StrConsts [] []
  | cons {x : Str} {j : Nat} {pos : Pos} {es : List Expr} {ws : List Str} : StrConsts es ws → StrConsts (.Constant (.str x) j pos :: es) (x :: ws)
def tStrs (ws : List Str) : TA := fun _ H Q => Q (ws.map V.str) H
theorem pa_strs {X : Cx} {es : List Expr} {ws : List Str} (h : StrConsts es ws) : PA X es (tStrs ws) := by
  induction h with
  | nil => exact pa_nil
  | cons h ih =>
    rename_i x j pos es ws
    intro pos' pins s σ H Q I hq
    exact pa_cons (te := tC (.str x)) (t := tStrs ws) pe_str ih rfl pos' pins s σ H Q I hq
end L2
namespace L2
open PySem PySem.Spec PyProof.Rows
/-! ### names by closed facts -/
section
variable {X : Cx}
theorem visL {sc : Scope} {x : Str} (h : sc.names.lookup x = some .local) : Vis sc x := .inl h
theorem visC {sc : Scope} {x : Str} (h : sc.names.lookup x = some .cell) : Vis sc x := .inr (.inl h)
theorem visF {scope : Scope} {env : Env} {x : Str} (h : scope.names.lookup x = some .free) : Vis (relabel scope env) x := by
  have e : (relabel scope env).names.lookup x = _ := lookup_relabel
  rw [h] at e
  simp only [Option.map_some] at e
  split at e
  · exact .inr (.inl e)
  · exact .inr (.inr e)
theorem visO {scope : Scope} {env : Env} {x : Str} (h : scope.names.lookup x = some .local) : Vis (relabel scope env) x := .inl (lookup_relabel_local h)
theorem locO {scope : Scope} {env : Env} {x : Str} (h : scope.names.lookup x = some .local) : Loc (relabel scope env) x := .inl (lookup_relabel_local h)
theorem glO {scope : Scope} {env : Env} {x : Str} (h : scope.names.lookup x = some .globalImplicit) : (relabel scope env).names.lookup x = some .globalImplicit := by
  have e : (relabel scope env).names.lookup x = _ := lookup_relabel
  rw [h] at e
  exact e
theorem pq (i : Nat) {x : Str} {pos : Pos} (hv : Vis X.env.scope x) (hd : (x == ("__debug__" : Str)) = false) (hcd : (x == ("__classdict__" : Str)) = false) (hN : X.N[i]? = some x := by rfl) : PE X (.Name x pos) (tVar i) := pe_var hN hv hd hcd
end
end L2

set_option Elab.async false
set_option linter.all false
set_option maxRecDepth 100000
set_option maxHeartbeats 4000000
namespace Few
open PySem L2
def top (i : Nat) : Stmt := PySem.Challenge.pw_fewthings_k11_books_told.main.body.getD i (.Pass ⟨0, 0, 0, 0⟩)
/-- what the built-in names are -/
structure Bl (mg : Str → Option Value) : Prop where
  n_len : mg "len" = none
  n_max : mg "max" = none
  n_abs : mg "abs" = none
  n_divmod : mg "divmod" = none
  n_list : mg "list" = none
  n_tuple : mg "tuple" = none
  n_range : mg "range" = none
  n_int : mg "int" = none
  n_str : mg "str" = none
  n_repr : mg "repr" = none
  n_isinstance : mg "isinstance" = none
  n_all : mg "all" = none
  n_set : mg "set" = none
theorem erase_map {α β : Type} (f : α → β) : ∀ (l : List α) (i : Nat), (l.map f).eraseIdx i = (l.eraseIdx i).map f
  | [], _ => rfl
  | _ :: _, 0 => rfl
  | x :: r, i + 1 => by
    show f x :: (r.map f).eraseIdx i = f x :: (r.eraseIdx i).map f
    rw [erase_map f r i]
theorem perm_erase {α : Type} : ∀ (l : List α) (i : Nat) (h : i < l.length), (l[i] :: l.eraseIdx i).Perm l
  | x :: r, 0, _ => List.Perm.refl _
  | x :: r, i + 1, h => by
    show (r[i]'(by simpa using h) :: x :: r.eraseIdx i).Perm (x :: r)
    exact (List.Perm.swap _ _ _).trans (List.Perm.cons x (perm_erase r i (by simpa using h)))
theorem nd_KA__law_cell_here : ((Str.ofString "_law_cell_here" : Str) == ("__debug__" : Str)) = false := by decide +kernel
theorem nc_KA__law_cell_here : ((Str.ofString "_law_cell_here" : Str) == ("__classdict__" : Str)) = false := by decide +kernel
theorem nn_KA__law_cell_here : (Str.ofString "_law_cell_here" : Str) ≠ "__name__" := by decide +kernel
theorem nd_KA__law_digit : ((Str.ofString "_law_digit" : Str) == ("__debug__" : Str)) = false := by decide +kernel
theorem nc_KA__law_digit : ((Str.ofString "_law_digit" : Str) == ("__classdict__" : Str)) = false := by decide +kernel
theorem nn_KA__law_digit : (Str.ofString "_law_digit" : Str) ≠ "__name__" := by decide +kernel
theorem nd_KA__law_draw : ((Str.ofString "_law_draw" : Str) == ("__debug__" : Str)) = false := by decide +kernel
theorem nc_KA__law_draw : ((Str.ofString "_law_draw" : Str) == ("__classdict__" : Str)) = false := by decide +kernel
theorem nn_KA__law_draw : (Str.ofString "_law_draw" : Str) ≠ "__name__" := by decide +kernel
theorem nd_KA__law_k : ((Str.ofString "_law_k" : Str) == ("__debug__" : Str)) = false := by decide +kernel
theorem nc_KA__law_k : ((Str.ofString "_law_k" : Str) == ("__classdict__" : Str)) = false := by decide +kernel
theorem nn_KA__law_k : (Str.ofString "_law_k" : Str) ≠ "__name__" := by decide +kernel
theorem nd_KA__law_left : ((Str.ofString "_law_left" : Str) == ("__debug__" : Str)) = false := by decide +kernel
theorem nc_KA__law_left : ((Str.ofString "_law_left" : Str) == ("__classdict__" : Str)) = false := by decide +kernel
theorem nn_KA__law_left : (Str.ofString "_law_left" : Str) ≠ "__name__" := by decide +kernel
theorem nd_KA__law_many : ((Str.ofString "_law_many" : Str) == ("__debug__" : Str)) = false := by decide +kernel
theorem nc_KA__law_many : ((Str.ofString "_law_many" : Str) == ("__classdict__" : Str)) = false := by decide +kernel
theorem nn_KA__law_many : (Str.ofString "_law_many" : Str) ≠ "__name__" := by decide +kernel
theorem nd_KA__law_menu : ((Str.ofString "_law_menu" : Str) == ("__debug__" : Str)) = false := by decide +kernel
theorem nc_KA__law_menu : ((Str.ofString "_law_menu" : Str) == ("__classdict__" : Str)) = false := by decide +kernel
theorem nn_KA__law_menu : (Str.ofString "_law_menu" : Str) ≠ "__name__" := by decide +kernel
theorem nd_KA__law_pot_here : ((Str.ofString "_law_pot_here" : Str) == ("__debug__" : Str)) = false := by decide +kernel
theorem nc_KA__law_pot_here : ((Str.ofString "_law_pot_here" : Str) == ("__classdict__" : Str)) = false := by decide +kernel
theorem nn_KA__law_pot_here : (Str.ofString "_law_pot_here" : Str) ≠ "__name__" := by decide +kernel
theorem nd_KA__law_script : ((Str.ofString "_law_script" : Str) == ("__debug__" : Str)) = false := by decide +kernel
theorem nc_KA__law_script : ((Str.ofString "_law_script" : Str) == ("__classdict__" : Str)) = false := by decide +kernel
theorem nn_KA__law_script : (Str.ofString "_law_script" : Str) ≠ "__name__" := by decide +kernel
theorem nd_KA_abs : ((Str.ofString "abs" : Str) == ("__debug__" : Str)) = false := by decide +kernel
theorem nc_KA_abs : ((Str.ofString "abs" : Str) == ("__classdict__" : Str)) = false := by decide +kernel
theorem nn_KA_abs : (Str.ofString "abs" : Str) ≠ "__name__" := by decide +kernel
theorem nd_KA_divmod : ((Str.ofString "divmod" : Str) == ("__debug__" : Str)) = false := by decide +kernel
theorem nc_KA_divmod : ((Str.ofString "divmod" : Str) == ("__classdict__" : Str)) = false := by decide +kernel
theorem nn_KA_divmod : (Str.ofString "divmod" : Str) ≠ "__name__" := by decide +kernel
theorem nd_KA_len : ((Str.ofString "len" : Str) == ("__debug__" : Str)) = false := by decide +kernel
theorem nc_KA_len : ((Str.ofString "len" : Str) == ("__classdict__" : Str)) = false := by decide +kernel
theorem nn_KA_len : (Str.ofString "len" : Str) ≠ "__name__" := by decide +kernel
theorem nd_KA_list : ((Str.ofString "list" : Str) == ("__debug__" : Str)) = false := by decide +kernel
theorem nc_KA_list : ((Str.ofString "list" : Str) == ("__classdict__" : Str)) = false := by decide +kernel
theorem nn_KA_list : (Str.ofString "list" : Str) ≠ "__name__" := by decide +kernel
theorem nd_KA_max : ((Str.ofString "max" : Str) == ("__debug__" : Str)) = false := by decide +kernel
theorem nc_KA_max : ((Str.ofString "max" : Str) == ("__classdict__" : Str)) = false := by decide +kernel
theorem nn_KA_max : (Str.ofString "max" : Str) ≠ "__name__" := by decide +kernel
section
variable {P : Program} {w : World} {K : PySem.W.Frag} {mg : Str → Option Value} {base : Heap}
/-! ### cell -/
def spCell : Sp := fun vs H Q _ => ∃ (a : Addr) (ns : List Int) (k : Nat), vs = [.ref a, .int k] ∧ SqL K H a (ns.map V.int) ∧ ∀ n, Q (.int n) H
abbrev s_law_cell : Stmt := top 22
theorem sc_law_cell : FnScope ["_law_script", "_law_k"] ["_law_script", "_law_k"] (defScope s_law_cell) := ⟨rfl, rfl, rfl, by decide +kernel, rfl, by decide +kernel, by decide +kernel⟩
theorem lk_law_cell__law_k : (defScope s_law_cell).names.lookup (Str.ofString "_law_k") = some NameKind.local := by decide +kernel
theorem lk_law_cell__law_script : (defScope s_law_cell).names.lookup (Str.ofString "_law_script") = some NameKind.local := by decide +kernel
theorem lk_law_cell_len : (defScope s_law_cell).names.lookup (Str.ofString "len") = some NameKind.globalImplicit := by decide +kernel
theorem ok_cell (F : FunAt K mg "_law_cell" s_law_cell ["_law_script", "_law_k"]) (Z : Bl mg) : Def P w K mg base "_law_cell" 1 ["_law_script", "_law_k"] (spCell (K := K)) := by
  have SC := sc_law_cell
  refine F.mk' (k := 0) sc_law_cell (fun vs H Q E h => ?_) (fun f cdv A outer s H vs Q E hr h => ?_)
  · obtain ⟨a, ns, k, rfl, _⟩ := h
    rfl
  · obtain ⟨a, ns, k, rfl, hS, q⟩ := h
    refine' ⟨_, ?derivation, ?_⟩
    case derivation =>
      refine' pss_cons ?h0 ?h1
      case h0 =>
        refine' ps_if ?h2 ?h3 ?h4
        case h2 =>
          refine' pt_cmpR ?h5 ?h6 ?h7 ?h8
          case h5 => exact op_lt
          case h6 => exact (pq 1 (x := Str.ofString "_law_k") (visL lk_law_cell__law_k) nd_KA__law_k nc_KA__law_k)
          case h7 =>
            refine' pe_callB (hn := nn_KA_len) (hdb := nd_KA_len) ?h9 ?h10 ?h11 ?h12 ?h13 ?h14 ?h15
            case h9 => exact call_len_seq
            case h10 => exact lk_law_cell_len
            case h11 => exact Z.n_len
            case h12 => exact bt_len
            case h13 =>
              refine' pa_cons ?h16 ?h17 ?h18
              case h16 => exact (pq 0 (x := Str.ofString "_law_script") (visL lk_law_cell__law_script) nd_KA__law_script nc_KA__law_script)
              case h17 => exact pa_nil
              case h18 => rfl
            case h14 => rfl
            case h15 => rfl
          case h8 => exact (nomark _)
        case h3 =>
          refine' pss_one ?h19
          case h19 =>
            refine' ps_ret ?h20
            case h20 =>
              refine' pe_ix ?h21 ?h22 ?h23 ?h24
              case h21 => exact ix_list
              case h22 => exact (pq 0 (x := Str.ofString "_law_script") (visL lk_law_cell__law_script) nd_KA__law_script nc_KA__law_script)
              case h23 => exact (pq 1 (x := Str.ofString "_law_k") (visL lk_law_cell__law_k) nd_KA__law_k nc_KA__law_k)
              case h24 =>
                intro _ _
                exact rfl
        case h4 => exact pss_nil
      case h1 =>
        refine' pss_one ?h25
        case h25 =>
          refine' ps_ret ?h26
          case h26 => exact pe_int
    refine ⟨_, rfl, _, rfl, a, _, rfl, .inl hS, _, _, rfl, rfl, _, rfl, ?_⟩
    refine ite2 (fun hc => ?_) (fun hc => q 0)
    have hc : (k : Int) < ((ns.map V.int).length : Int) := of_decide_eq_true hc
    rw [List.length_map] at hc
    have hk : k < ns.length := by omega
    refine ⟨_, rfl, _, rfl, a, _, _, _, rfl, rfl, hS, atI_nat (v := V.int ns[k]) (by simp [hk]), q _⟩
/-! ### pot and draw -/
/-- a pot of draws stands at p -/
def PotAt (H : Hp) (p : Addr) : Prop := ∃ a b c : Int, H p = some (.lst [.int a, .int b, .int c]) ∧ 0 ≤ a ∧ 0 ≤ b ∧ b < 4294967296
def spPot : Sp := fun vs H Q _ => ∃ n : Int, vs = [.int n] ∧ ∀ p H', H p = none → PotAt H' p → Same H H' → Q (.ref p) H'
abbrev s_law_pot : Stmt := top 23
theorem sc_law_pot : FnScope ["_law_cell_here"] ["_law_cell_here"] (defScope s_law_pot) := ⟨rfl, rfl, rfl, by decide +kernel, rfl, by decide +kernel, by decide +kernel⟩
theorem lk_law_pot__law_cell_here : (defScope s_law_pot).names.lookup (Str.ofString "_law_cell_here") = some NameKind.local := by decide +kernel
theorem lk_law_pot_abs : (defScope s_law_pot).names.lookup (Str.ofString "abs") = some NameKind.globalImplicit := by decide +kernel
theorem lk_law_pot_max : (defScope s_law_pot).names.lookup (Str.ofString "max") = some NameKind.globalImplicit := by decide +kernel
theorem ok_pot (F : FunAt K mg "_law_pot" s_law_pot ["_law_cell_here"]) (Z : Bl mg) : Def P w K mg base "_law_pot" 1 ["_law_cell_here"] spPot := by
  have SC := sc_law_pot
  refine F.mk' (k := 0) sc_law_pot (fun vs H Q E h => ?_) (fun f cdv A outer s H vs Q E hr h => ?_)
  · obtain ⟨n, rfl, _⟩ := h
    rfl
  · obtain ⟨n, rfl, q⟩ := h
    refine' ⟨_, ?derivation, ?_⟩
    case derivation =>
      refine' pss_one ?h27
      case h27 =>
        refine' ps_ret ?h28
        case h28 =>
          refine' pe_lst ?h29
          case h29 =>
            refine' pa_cons ?h30 ?h31 ?h32
            case h30 =>
              refine' pe_callB (hn := nn_KA_max) (hdb := nd_KA_max) ?h33 ?h34 ?h35 ?h36 ?h37 ?h38 ?h39
              case h33 => exact (call_max2 rfl)
              case h34 => exact lk_law_pot_max
              case h35 => exact Z.n_max
              case h36 => exact bt_max
              case h37 =>
                refine' pa_cons ?h40 ?h41 ?h42
                case h40 => exact pe_int
                case h41 =>
                  refine' pa_cons ?h43 ?h44 ?h45
                  case h43 =>
                    refine' pe_op ?h46 ?h47 ?h48
                    case h46 => exact op_sub
                    case h47 =>
                      refine' pe_callB (hn := nn_KA_abs) (hdb := nd_KA_abs) ?h49 ?h50 ?h51 ?h52 ?h53 ?h54 ?h55
                      case h49 => exact call_abs
                      case h50 => exact lk_law_pot_abs
                      case h51 => exact Z.n_abs
                      case h52 => exact bt_abs
                      case h53 =>
                        refine' pa_cons ?h56 ?h57 ?h58
                        case h56 => exact (pq 0 (x := Str.ofString "_law_cell_here") (visL lk_law_pot__law_cell_here) nd_KA__law_cell_here nc_KA__law_cell_here)
                        case h57 => exact pa_nil
                        case h58 => rfl
                      case h54 => rfl
                      case h55 => rfl
                    case h48 =>
                      refine' pe_op ?h59 ?h60 ?h61
                      case h59 => exact op_pow
                      case h60 => exact pe_int
                      case h61 => exact pe_int
                  case h44 => exact pa_nil
                  case h45 => rfl
                case h42 => rfl
              case h38 => rfl
              case h39 => rfl
            case h31 =>
              refine' pa_cons ?h62 ?h63 ?h64
              case h62 =>
                refine' pe_op ?h65 ?h66 ?h67
                case h65 => exact op_add
                case h66 =>
                  refine' pe_op ?h68 ?h69 ?h70
                  case h68 => exact op_mod
                  case h69 =>
                    refine' pe_callB (hn := nn_KA_abs) (hdb := nd_KA_abs) ?h71 ?h72 ?h73 ?h74 ?h75 ?h76 ?h77
                    case h71 => exact call_abs
                    case h72 => exact lk_law_pot_abs
                    case h73 => exact Z.n_abs
                    case h74 => exact bt_abs
                    case h75 =>
                      refine' pa_cons ?h78 ?h79 ?h80
                      case h78 => exact (pq 0 (x := Str.ofString "_law_cell_here") (visL lk_law_pot__law_cell_here) nd_KA__law_cell_here nc_KA__law_cell_here)
                      case h79 => exact pa_nil
                      case h80 => rfl
                    case h76 => rfl
                    case h77 => rfl
                  case h70 => exact pe_int
                case h67 => exact pe_int
              case h63 =>
                refine' pa_cons ?h81 ?h82 ?h83
                case h81 => exact pe_int
                case h82 => exact pa_nil
                case h83 => rfl
              case h64 => rfl
            case h32 => rfl
    refine ⟨_, rfl, _, rfl, _, _, rfl, rfl, ⟨by decide, by decide, by decide⟩, _, _, rfl, rfl, _, _, rfl, ?_⟩
    refine ⟨_, rfl, _, rfl, _, _, rfl, rfl, (by show (0 : Int) < 2147483629; decide), _, _, rfl, rfl, (by show 3 ≤ sizeLine; decide), fun p hp => ?_⟩
    refine q p _ hp ⟨_, _, _, upd_same, ?_, ?_, ?_⟩ (same_new hp _)
    · split <;> omega
    · have := Int.emod_nonneg (if n < 0 then -n else n) (b := 2147483629) (by decide)
      omega
    · have := Int.emod_lt_of_pos (if n < 0 then -n else n) (b := 2147483629) (by decide)
      omega
def spDraw : Sp := fun vs H Q _ => ∃ (p : Addr) (m : Int), vs = [.ref p, .int m] ∧ PotAt H p ∧ 0 < m ∧ m < 1000 ∧ ∀ (r : Int) H', 0 ≤ r → r < m → PotAt H' p → SameX p H H' → Q (.int r) H'
abbrev s_law_draw : Stmt := top 24
theorem sc_law_draw : FnScope ["_law_pot_here", "_law_many", "_law_digit"] ["_law_pot_here", "_law_many"] (defScope s_law_draw) := ⟨rfl, rfl, rfl, by decide +kernel, rfl, by decide +kernel, by decide +kernel⟩
theorem lk_law_draw__law_digit : (defScope s_law_draw).names.lookup (Str.ofString "_law_digit") = some NameKind.local := by decide +kernel
theorem lk_law_draw__law_many : (defScope s_law_draw).names.lookup (Str.ofString "_law_many") = some NameKind.local := by decide +kernel
theorem lk_law_draw__law_pot_here : (defScope s_law_draw).names.lookup (Str.ofString "_law_pot_here") = some NameKind.local := by decide +kernel
theorem lk_law_draw_divmod : (defScope s_law_draw).names.lookup (Str.ofString "divmod") = some NameKind.globalImplicit := by decide +kernel
theorem ok_draw (F : FunAt K mg "_law_draw" s_law_draw ["_law_pot_here", "_law_many"]) (Z : Bl mg) : Def P w K mg base "_law_draw" 1 ["_law_pot_here", "_law_many"] spDraw := by
  have SC := sc_law_draw
  refine F.mk' (k := 0) sc_law_draw (fun vs H Q E h => ?_) (fun f cdv A outer s H vs Q E hr h => ?_)
  · obtain ⟨p, m, rfl, _⟩ := h
    rfl
  · obtain ⟨p, m, rfl, ⟨a, b, c, hp, ha, hb, hb2⟩, hm, hm2, q⟩ := h
    refine' ⟨_, ?derivation, ?_⟩
    case derivation =>
      refine' pss_cons ?h84 ?h85
      case h84 =>
        refine' ps_if ?h86 ?h87 ?h88
        case h86 =>
          refine' pt_cmpR ?h89 ?h90 ?h91 ?h92
          case h89 => exact op_gt
          case h90 =>
            refine' pe_ix ?h93 ?h94 ?h95 ?h96
            case h93 => exact ix_list
            case h94 => exact (pq 0 (x := Str.ofString "_law_pot_here") (visL lk_law_draw__law_pot_here) nd_KA__law_pot_here nc_KA__law_pot_here)
            case h95 => exact pe_int
            case h96 =>
              intro _ _
              exact rfl
          case h91 => exact pe_int
          case h92 => exact (nomark _)
        case h87 =>
          refine' pss_cons ?h97 ?h98
          case h97 =>
            refine' ps_asg ?h99 ?h100 ?h101 ?h102 ?h103
            case h99 =>
              refine' pe_callB (hn := nn_KA_divmod) (hdb := nd_KA_divmod) ?h104 ?h105 ?h106 ?h107 ?h108 ?h109 ?h110
              case h104 => exact call_divmod
              case h105 => exact lk_law_draw_divmod
              case h106 => exact Z.n_divmod
              case h107 => exact bt_divmod
              case h108 =>
                refine' pa_cons ?h111 ?h112 ?h113
                case h111 =>
                  refine' pe_ix ?h114 ?h115 ?h116 ?h117
                  case h114 => exact ix_list
                  case h115 => exact (pq 0 (x := Str.ofString "_law_pot_here") (visL lk_law_draw__law_pot_here) nd_KA__law_pot_here nc_KA__law_pot_here)
                  case h116 => exact pe_int
                  case h117 =>
                    intro _ _
                    exact rfl
                case h112 =>
                  refine' pa_cons ?h118 ?h119 ?h120
                  case h118 => exact (pq 1 (x := Str.ofString "_law_many") (visL lk_law_draw__law_many) nd_KA__law_many nc_KA__law_many)
                  case h119 => exact pa_nil
                  case h120 => rfl
                case h113 => rfl
              case h109 => rfl
              case h110 => rfl
            case h100 =>
              refine' pg_tup ?h121 ?h122 ?h123 ?h124
              case h121 => exact rfl
              case h122 =>
                refine' pgs_cons ?h125 ?h126 ?h127
                case h125 =>
                  refine' pg_sub ?h128 ?h129 ?h130 ?h131
                  case h128 => exact (pq 0 (x := Str.ofString "_law_pot_here") (visL lk_law_draw__law_pot_here) nd_KA__law_pot_here nc_KA__law_pot_here)
                  case h129 => exact pe_int
                  case h130 => exact set_list
                  case h131 => intro _; rfl
                case h126 =>
                  refine' pgs_cons ?h132 ?h133 ?h134
                  case h132 =>
                    refine' pg_name (i := 2) (x := Str.ofString "_law_digit") ?h135 ?h136 ?h137 ?h138
                    case h135 => exact SC.nd
                    case h136 => exact rfl
                    case h137 => exact (Or.inl lk_law_draw__law_digit)
                    case h138 => exact (.inl rfl)
                  case h133 => exact pgs_nil
                  case h134 => rfl
                case h127 => rfl
              case h123 => rfl
              case h124 => rfl
            case h101 => rfl
            case h102 => rfl
            case h103 => rfl
          case h98 =>
            refine' pss_one ?h139
            case h139 =>
              refine' ps_ret ?h140
              case h140 => exact (pq 2 (x := Str.ofString "_law_digit") (visL lk_law_draw__law_digit) nd_KA__law_digit nc_KA__law_digit)
        case h88 => exact pss_nil
      case h85 =>
        refine' pss_cons ?h141 ?h142
        case h141 =>
          refine' ps_asg ?h143 ?h144 ?h145 ?h146 ?h147
          case h143 =>
            refine' pe_op ?h148 ?h149 ?h150
            case h148 => exact op_mod
            case h149 =>
              refine' pe_op ?h151 ?h152 ?h153
              case h151 => exact op_add
              case h152 =>
                refine' pe_op ?h154 ?h155 ?h156
                case h154 => exact op_mul
                case h155 =>
                  refine' pe_ix ?h157 ?h158 ?h159 ?h160
                  case h157 => exact ix_list
                  case h158 => exact (pq 0 (x := Str.ofString "_law_pot_here") (visL lk_law_draw__law_pot_here) nd_KA__law_pot_here nc_KA__law_pot_here)
                  case h159 => exact pe_int
                  case h160 =>
                    intro _ _
                    exact rfl
                case h156 => exact pe_int
              case h153 => exact pe_int
            case h150 => exact pe_int
          case h144 =>
            refine' pg_sub ?h161 ?h162 ?h163 ?h164
            case h161 => exact (pq 0 (x := Str.ofString "_law_pot_here") (visL lk_law_draw__law_pot_here) nd_KA__law_pot_here nc_KA__law_pot_here)
            case h162 => exact pe_int
            case h163 => exact set_list
            case h164 => intro _; rfl
          case h145 => rfl
          case h146 => rfl
          case h147 => rfl
        case h142 =>
          refine' pss_one ?h165
          case h165 =>
            refine' ps_ret ?h166
            case h166 =>
              refine' pe_op ?h167 ?h168 ?h169
              case h167 => exact op_mod
              case h168 =>
                refine' pe_op ?h170 ?h171 ?h172
                case h170 => exact op_fdiv
                case h171 =>
                  refine' pe_op ?h173 ?h174 ?h175
                  case h173 => exact op_mod
                  case h174 =>
                    refine' pe_op ?h176 ?h177 ?h178
                    case h176 => exact op_mul
                    case h177 =>
                      refine' pe_ix ?h179 ?h180 ?h181 ?h182
                      case h179 => exact ix_list
                      case h180 => exact (pq 0 (x := Str.ofString "_law_pot_here") (visL lk_law_draw__law_pot_here) nd_KA__law_pot_here nc_KA__law_pot_here)
                      case h181 => exact pe_int
                      case h182 =>
                        intro _ _
                        exact rfl
                    case h178 =>
                      refine' pe_ix ?h183 ?h184 ?h185 ?h186
                      case h183 => exact ix_list
                      case h184 => exact (pq 0 (x := Str.ofString "_law_pot_here") (visL lk_law_draw__law_pot_here) nd_KA__law_pot_here nc_KA__law_pot_here)
                      case h185 => exact pe_int
                      case h186 =>
                        intro _ _
                        exact rfl
                  case h175 => exact pe_int
                case h172 => exact pe_int
              case h169 => exact (pq 1 (x := Str.ofString "_law_many") (visL lk_law_draw__law_many) nd_KA__law_many nc_KA__law_many)
    refine ⟨_, rfl, p, _, _, _, rfl, rfl, SqL.of hp, rfl, _, _, rfl, rfl, _, rfl, ?_⟩
    refine ite2 (fun hc => ?_) (fun hc => ?_)
    · refine ⟨_, rfl, p, _, _, _, rfl, rfl, SqL.of hp, rfl, _, rfl, _, _, rfl, ⟨hm, by omega⟩, fun t ht => ?_⟩
      have npt : p ≠ t := ne_of_none hp ht
      refine ⟨t, _, rfl, SqT.of upd_same, rfl, _, _, rfl, _, rfl, p, _, _, _, rfl, rfl, (by rw [upd_ne npt]; exact hp), rfl, _, _, rfl, ⟨rfl, _, rfl, ?_⟩⟩
      refine q _ _ (Int.emod_nonneg _ (by omega)) (Int.emod_lt_of_pos _ hm) ⟨_, _, _, upd_same, Int.ediv_nonneg ha (by omega), hb, hb2⟩ (fun b o n e => ?_)
      rw [upd_ne n, upd_ne (ne_of_none e ht)]; exact e
    · refine ⟨_, rfl, p, _, _, _, rfl, rfl, SqL.of hp, rfl, _, _, rfl, rfl, .inr ⟨by decide, by decide⟩, _, _, rfl, rfl, _, _, rfl, rfl, (by show (0 : Int) < 2147483647; decide), ?_⟩
      have g0 : 0 ≤ (b * 48271 + 11) % 2147483647 := Int.emod_nonneg _ (by decide)
      have g1 : (b * 48271 + 11) % 2147483647 < 2147483647 := Int.emod_lt_of_pos _ (by decide)
      refine ⟨_, rfl, p, _, _, _, rfl, rfl, hp, rfl, ?_⟩
      refine ⟨_, rfl, p, _, _, _, rfl, rfl, SqL.of upd_same, rfl, _, rfl, p, _, _, _, rfl, rfl, SqL.of upd_same, rfl, _, _, rfl, rfl, .inl ⟨by omega, by omega⟩, _, _, rfl, rfl, (by show (0 : Int) < 2147483629; decide), _, _, rfl, rfl, ⟨by decide, by decide⟩, _, rfl, _, _, rfl, rfl, hm, ?_⟩
      refine q _ _ (Int.emod_nonneg _ (by omega)) (Int.emod_lt_of_pos _ hm) ⟨_, _, _, upd_same, ha, g0, by omega⟩ (fun b o n e => ?_)
      rw [upd_ne n]; exact e

/-! ### unlike -/
/-- all is kept but the pot, which is a pot again -/
structure Went (p : Addr) (H H' : Hp) : Prop where
  pot : PotAt H' p
  same : SameX p H H'
theorem PotAt.keep {H H' : Hp} {p : Addr} (h : PotAt H p) (s : Same H H') : PotAt H' p := let ⟨a, b, c, e, r⟩ := h; ⟨a, b, c, s _ _ e, r⟩
theorem PotAt.some {H : Hp} {p : Addr} (h : PotAt H p) : ∃ o, H p = some o := let ⟨_, _, _, e, _⟩ := h; ⟨_, e⟩
def spUnlike : Sp := fun vs H Q _ => ∃ (p a : Addr) (m : Nat) (xs : List Str), vs = [.ref p, .int m, .ref a] ∧ PotAt H p ∧ SqL K H a (xs.map V.str) ∧ m ≤ xs.length ∧ xs.length < 100 ∧ xs.Nodup ∧
  ∀ l (ys : List Str) H', H l = none → H' l = some (.lst (ys.map V.str)) → ys.length = m → ys.Nodup → (∀ y ∈ ys, y ∈ xs) → Went p H H' → Q (.ref l) H'
abbrev s_law_unlike : Stmt := top 25
theorem sc_law_unlike : FnScope ["_law_pot_here", "_law_many", "_law_menu", "_law_left"] ["_law_pot_here", "_law_many", "_law_menu"] (defScope s_law_unlike) := ⟨rfl, rfl, rfl, by decide +kernel, rfl, by decide +kernel, by decide +kernel⟩
theorem lk_law_unlike__law_left : (defScope s_law_unlike).names.lookup (Str.ofString "_law_left") = some NameKind.cell := by decide +kernel
theorem lk_law_unlike__law_many : (defScope s_law_unlike).names.lookup (Str.ofString "_law_many") = some NameKind.local := by decide +kernel
theorem lk_law_unlike__law_menu : (defScope s_law_unlike).names.lookup (Str.ofString "_law_menu") = some NameKind.local := by decide +kernel
theorem lk_law_unlike_list : (defScope s_law_unlike).names.lookup (Str.ofString "list") = some NameKind.globalImplicit := by decide +kernel
theorem lk_law_unlike_range : (defScope s_law_unlike).names.lookup (Str.ofString "range") = some NameKind.globalImplicit := by decide +kernel
theorem sp_law_unlike_1 : CompSc 1 ["_law_k", "_law_pot_here", "_law_many", "_law_menu", "_law_left"] ["_law_pot_here", "_law_many", "_law_menu", "_law_left"] (defScope s_law_unlike) { kind := PySem.ScopeKind.function, names := [ (PySem.Str.ofString ".0", PySem.NameKind.local), (PySem.Str.ofString "_law_k", PySem.NameKind.local), (PySem.Str.ofString "_law_draw", PySem.NameKind.globalImplicit), (PySem.Str.ofString "len", PySem.NameKind.globalImplicit), (PySem.Str.ofString "_law_left", PySem.NameKind.free), (PySem.Str.ofString "_law_pot_here", PySem.NameKind.free)], isGenerator := false, isCoroutine := false, more := [] : PySem.Scope } := ⟨rfl, by decide +kernel, by decide +kernel, by decide +kernel, by decide +kernel, rfl, by decide +kernel⟩
theorem lk_law_unlike_c1__law_draw : ({ kind := PySem.ScopeKind.function, names := [ (PySem.Str.ofString ".0", PySem.NameKind.local), (PySem.Str.ofString "_law_k", PySem.NameKind.local), (PySem.Str.ofString "_law_draw", PySem.NameKind.globalImplicit), (PySem.Str.ofString "len", PySem.NameKind.globalImplicit), (PySem.Str.ofString "_law_left", PySem.NameKind.free), (PySem.Str.ofString "_law_pot_here", PySem.NameKind.free)], isGenerator := false, isCoroutine := false, more := [] : PySem.Scope } : Scope).names.lookup (Str.ofString "_law_draw") = some NameKind.globalImplicit := by decide +kernel
theorem lk_law_unlike_c1__law_k : ({ kind := PySem.ScopeKind.function, names := [ (PySem.Str.ofString ".0", PySem.NameKind.local), (PySem.Str.ofString "_law_k", PySem.NameKind.local), (PySem.Str.ofString "_law_draw", PySem.NameKind.globalImplicit), (PySem.Str.ofString "len", PySem.NameKind.globalImplicit), (PySem.Str.ofString "_law_left", PySem.NameKind.free), (PySem.Str.ofString "_law_pot_here", PySem.NameKind.free)], isGenerator := false, isCoroutine := false, more := [] : PySem.Scope } : Scope).names.lookup (Str.ofString "_law_k") = some NameKind.local := by decide +kernel
theorem lk_law_unlike_c1__law_left : ({ kind := PySem.ScopeKind.function, names := [ (PySem.Str.ofString ".0", PySem.NameKind.local), (PySem.Str.ofString "_law_k", PySem.NameKind.local), (PySem.Str.ofString "_law_draw", PySem.NameKind.globalImplicit), (PySem.Str.ofString "len", PySem.NameKind.globalImplicit), (PySem.Str.ofString "_law_left", PySem.NameKind.free), (PySem.Str.ofString "_law_pot_here", PySem.NameKind.free)], isGenerator := false, isCoroutine := false, more := [] : PySem.Scope } : Scope).names.lookup (Str.ofString "_law_left") = some NameKind.free := by decide +kernel
theorem lk_law_unlike_c1__law_pot_here : ({ kind := PySem.ScopeKind.function, names := [ (PySem.Str.ofString ".0", PySem.NameKind.local), (PySem.Str.ofString "_law_k", PySem.NameKind.local), (PySem.Str.ofString "_law_draw", PySem.NameKind.globalImplicit), (PySem.Str.ofString "len", PySem.NameKind.globalImplicit), (PySem.Str.ofString "_law_left", PySem.NameKind.free), (PySem.Str.ofString "_law_pot_here", PySem.NameKind.free)], isGenerator := false, isCoroutine := false, more := [] : PySem.Scope } : Scope).names.lookup (Str.ofString "_law_pot_here") = some NameKind.free := by decide +kernel
theorem lk_law_unlike_c1_len : ({ kind := PySem.ScopeKind.function, names := [ (PySem.Str.ofString ".0", PySem.NameKind.local), (PySem.Str.ofString "_law_k", PySem.NameKind.local), (PySem.Str.ofString "_law_draw", PySem.NameKind.globalImplicit), (PySem.Str.ofString "len", PySem.NameKind.globalImplicit), (PySem.Str.ofString "_law_left", PySem.NameKind.free), (PySem.Str.ofString "_law_pot_here", PySem.NameKind.free)], isGenerator := false, isCoroutine := false, more := [] : PySem.Scope } : Scope).names.lookup (Str.ofString "len") = some NameKind.globalImplicit := by decide +kernel
theorem ok_unlike (F : FunAt K mg "_law_unlike" s_law_unlike ["_law_pot_here", "_law_many", "_law_menu"]) (Z : Bl mg) (D_law_draw : Def P w K mg base "_law_draw" 1 ["_law_pot_here", "_law_many"] spDraw) : Def P w K mg base "_law_unlike" 2 ["_law_pot_here", "_law_many", "_law_menu"] (spUnlike (K := K)) := by
  have SC := sc_law_unlike
  refine F.mk' (k := 1) sc_law_unlike (fun vs H Q E h => ?_) (fun f cdv A outer s H vs Q E hr h => ?_)
  · obtain ⟨p, a, m, xs, rfl, _⟩ := h
    rfl
  · obtain ⟨p, a, m, xs, rfl, hp, ha, hm, hx, hn, q⟩ := h
    refine' ⟨_, ?derivation, ?_⟩
    case derivation =>
      refine' pss_cons ?h187 ?h188
      case h187 =>
        refine' ps_set (i := 3) (x := Str.ofString "_law_left") ?h189 ?h190 ?h191 ?h192 ?h193 ?h194
        case h189 => exact SC.nd
        case h190 => exact rfl
        case h191 => exact (Or.inr lk_law_unlike__law_left)
        case h192 =>
          refine' pe_callTy (hn := nn_KA_list) (hdb := nd_KA_list) ?h195 ?h196 ?h197 ?h198 ?h199 ?h200 ?h201
          case h195 => exact call_list_of
          case h196 => exact lk_law_unlike_list
          case h197 => exact Z.n_list
          case h198 => exact bt_list
          case h199 =>
            refine' pa_cons ?h202 ?h203 ?h204
            case h202 => exact (pq 2 (x := Str.ofString "_law_menu") (visL lk_law_unlike__law_menu) nd_KA__law_menu nc_KA__law_menu)
            case h203 => exact pa_nil
            case h204 => rfl
          case h200 => rfl
          case h201 => rfl
        case h193 => rfl
        case h194 => exact .inl rfl
      case h188 =>
        refine' pss_one ?h205
        case h205 =>
          refine' ps_ret ?h206
          case h206 =>
            refine' pe_comp ?h207 ?h208 ?h209 ?h210 ?h211 ?h212 ?h213
            case h207 => exact noxe
            case h208 => exact rfl
            case h209 => exact sp_law_unlike_1.at
            case h210 =>
              refine' pi_range1 ?h214 ?h215 ?h216 ?h217
              case h214 => exact lk_law_unlike_range
              case h215 => exact Z.n_range
              case h216 =>
                refine' pa_cons ?h218 ?h219 ?h220
                case h218 => exact (pq 1 (x := Str.ofString "_law_many") (visL lk_law_unlike__law_many) nd_KA__law_many nc_KA__law_many)
                case h219 => exact pa_nil
                case h220 => rfl
              case h217 => rfl
            case h211 =>
              intro _ _ _ _ _
              refine' pg_name (i := 0) ?h221 ?h222 ?h223 ?h224
              case h221 => exact sp_law_unlike_1.nd
              case h222 => exact rfl
              case h223 => exact (locO lk_law_unlike_c1__law_k)
              case h224 => exact (.inr (lookup_relabel_local lk_law_unlike_c1__law_k))
            case h212 =>
              intro _ _ _ _ _
              refine' pe_bm ?h225 ?h226 ?h227 ?h228 ?h229 ?h230 ?h231 ?h232 ?h233 ?h234 ?h235
              case h225 => exact PySem.F.plainAttrs_list
              case h226 => exact PySem.F.slot_list_pop
              case h227 => exact PySem.F.type_list_pop
              case h228 => exact mt_popAt
              case h229 => exact (pq 4 (x := Str.ofString "_law_left") (visF lk_law_unlike_c1__law_left) nd_KA__law_left nc_KA__law_left)
              case h230 =>
                refine' pa_cons ?h236 ?h237 ?h238
                case h236 =>
                  refine' pe_def (hdb := nd_KA__law_draw) ?h239 ?h240 ?h241 ?h242 ?h243 ?h244
                  case h239 => exact D_law_draw
                  case h240 => exact (hr.mono (by decide))
                  case h241 => exact (glO lk_law_unlike_c1__law_draw)
                  case h242 =>
                    refine' pa_cons ?h245 ?h246 ?h247
                    case h245 => exact (pq 1 (x := Str.ofString "_law_pot_here") (visF lk_law_unlike_c1__law_pot_here) nd_KA__law_pot_here nc_KA__law_pot_here)
                    case h246 =>
                      refine' pa_cons ?h248 ?h249 ?h250
                      case h248 =>
                        refine' pe_callB (hn := nn_KA_len) (hdb := nd_KA_len) ?h251 ?h252 ?h253 ?h254 ?h255 ?h256 ?h257
                        case h251 => exact call_len_seq
                        case h252 => exact (glO lk_law_unlike_c1_len)
                        case h253 => exact Z.n_len
                        case h254 => exact bt_len
                        case h255 =>
                          refine' pa_cons ?h258 ?h259 ?h260
                          case h258 => exact (pq 4 (x := Str.ofString "_law_left") (visF lk_law_unlike_c1__law_left) nd_KA__law_left nc_KA__law_left)
                          case h259 => exact pa_nil
                          case h260 => rfl
                        case h256 => rfl
                        case h257 => rfl
                      case h249 => exact pa_nil
                      case h250 => rfl
                    case h247 => rfl
                  case h243 => rfl
                  case h244 => rfl
                case h237 => exact pa_nil
                case h238 => rfl
              case h231 => rfl
              case h232 => rfl
              case h233 => rfl
              case h234 => rfl
              case h235 => rfl
            case h213 => intro _; rfl
    refine ⟨_, rfl, a, _, rfl, .inl ha, fun L hL => ?_⟩
    refine ⟨_, rfl, m, rfl, by omega, by omega, ?_⟩
    intro cl C ex s0 H0
    have hpL : p ≠ L := by obtain ⟨o, e⟩ := hp.some; exact ne_of_none e hL
    refine comp_it1 m (fun i ys H1 => ∃ zs ws : List Str, H1 L = some (.lst (zs.map V.str)) ∧ zs.length + i = xs.length ∧ ys = ws.map V.str ∧ (ws ++ zs).Nodup ∧ (∀ y ∈ ws ++ zs, y ∈ xs) ∧ Went p H H1) (fun _ _ => True)
      ⟨xs, [], upd_same, rfl, rfl, hn, fun y hy => hy, hp.keep (same_new hL _), (same_new hL _).x⟩ (Nat.le_trans (Nat.le_trans hm (by omega)) (show 100 ≤ sizeLine by decide)) (fun i ys H1 hi _ _ => ⟨hi, fun x H' y => ⟨y.1, trivial⟩⟩) (fun _ _ _ _ => Nat.le_refl _) ?_ ?_
    · rintro i x ys H1 hi _ hy ⟨zs, ws, hzL, hzl, rfl, hnd, hsub, W⟩
      refine ⟨_, rfl, .inl ⟨rfl, _, SqL.of hzL⟩, _, rfl, _, rfl, L, _, rfl, .inl (SqL.of hzL), p, _, rfl, W.pot, ?_, ?_, fun r H2 h0 h1 hp2 s2 => ?_⟩
      · rw [List.length_map]; omega
      · rw [List.length_map]; omega
      · rw [List.length_map] at h1
        have hr' : r.toNat < zs.length := by omega
        have hzL2 : H2 L = some (.lst (zs.map V.str)) := s2 L _ (Ne.symm hpL) hzL
        refine ⟨L, _, r, r.toNat, V.str zs[r.toNat], rfl, rfl, hzL2, by omega, by omega, seqIx h0 (by rw [List.length_map]; omega), by simp [hr'], ?_⟩
        refine ⟨zs.eraseIdx r.toNat, ws ++ [zs[r.toNat]], ?_, ?_, by simp, ?_, ?_, ?_, ?_⟩
        · rw [upd_same, erase_map]
        · rw [List.length_eraseIdx_of_lt hr']; omega
        · have pm : (zs[r.toNat] :: zs.eraseIdx r.toNat).Perm zs := perm_erase zs _ hr'
          have pm2 : (ws ++ [zs[r.toNat]] ++ zs.eraseIdx r.toNat).Perm (ws ++ zs) := by
            rw [List.append_assoc]
            exact List.Perm.append_left ws pm
          exact (List.Perm.nodup_iff pm2).mpr hnd
        · intro y hy
          refine hsub y ?_
          have pm : (zs[r.toNat] :: zs.eraseIdx r.toNat).Perm zs := perm_erase zs _ hr'
          have pm2 : (ws ++ [zs[r.toNat]] ++ zs.eraseIdx r.toNat).Perm (ws ++ zs) := by
            rw [List.append_assoc]
            exact List.Perm.append_left ws pm
          exact (List.Perm.mem_iff pm2).mp hy
        · obtain ⟨a', b', c', e, r'⟩ := hp2
          exact ⟨a', b', c', by rw [upd_ne hpL]; exact e, r'⟩
        · intro b o n e
          rw [upd_ne (ne_of_none e hL)]
          exact s2 b o n (W.same b o n e)
    · rintro ys H1 hy ⟨zs, ws, hzL, hzl, rfl, hnd, hsub, W⟩ D hD
      have hpD : p ≠ D := by obtain ⟨o, e⟩ := W.pot.some; exact ne_of_none e hD
      refine q D ws _ (W.same.free (Ne.symm hpD) hD) upd_same (by simpa using hy) (List.nodup_append.mp hnd).1 (fun y hy => hsub y (List.mem_append_left _ hy)) ⟨W.pot.keep (same_new hD _), W.same.same (same_new hD _)⟩
end
end Few

set_option Elab.async false
set_option linter.all false
set_option maxRecDepth 100000
set_option maxHeartbeats 4000000
namespace Few
open PySem L2
/-! ### names -/
def isNm (z : Str) : Prop := 1 ≤ z.cps.toList.length ∧ z.cps.toList.length ≤ 12 ∧ ∀ c ∈ z.cps.toList, 97 ≤ c ∧ c ≤ 122
def sayWords : List Str := ["all", "some", "not", "and", "or"]
def isSg (z : Str) : Prop := isNm z ∧ ¬ z ∈ sayWords
theorem str_len (z : Str) : z.length = z.cps.toList.length := by show z.cps.size = _; simp
theorem app_list (a b : Str) : (a ++ b).cps.toList = a.cps.toList ++ b.cps.toList := by
  show (a.cps ++ b.cps).toList = _
  simp
theorem join_list : ∀ (ys : List Str), (Str.join (Str.ofString "") ys).cps.toList = ys.flatMap fun y => y.cps.toList
  | [] => by decide +kernel
  | [x] => by simp [Str.join]
  | x :: y :: r => by
    have ih := join_list (y :: r)
    have e : Str.join (Str.ofString "") (x :: y :: r) = x ++ Str.ofString "" ++ Str.join (Str.ofString "") (y :: r) := rfl
    rw [e, app_list, app_list, ih]
    have e0 : (Str.ofString "").cps.toList = [] := by decide +kernel
    rw [e0, List.flatMap_cons]
    simp
def abc : Str := Str.ofString "abcdefghijklmnopqrstuvwxyz"
theorem abc_len : abc.cps.toList.length = 26 := by decide +kernel
theorem abc_at : ∀ i, i < 26 → abc.cps.toList[i]? = some (97 + i) := by decide +kernel
theorem abc_int {r : Int} (h0 : 0 ≤ r) (h1 : r < 26) : atI abc.cps.toList r = some (97 + r.toNat) := atI_int h0 (abc_at _ (by omega))
/-- the last sign -/
def lastc (z : Str) : Option Nat := z.cps.toList.getLast?
theorem nodup_last {f : Nat} {ws : List Str} (h : ws.map lastc = (List.range ws.length).map fun i => some (97 + (f + i) % 26)) (hl : ws.length ≤ 26) : ws.Nodup := by
  have hn : (ws.map lastc).Nodup := by
    rw [h]
    refine List.pairwise_map.mpr ?_
    have : (List.range ws.length).Pairwise fun i j => i < j ∧ j < ws.length := by
      have a := List.pairwise_lt_range (n := ws.length)
      refine List.Pairwise.imp_of_mem ?_ a
      intro i j _ hj hij
      exact ⟨hij, List.mem_range.mp hj⟩
    refine this.imp ?_
    intro i j hij e
    have e' : 97 + (f + i) % 26 = 97 + (f + j) % 26 := Option.some.inj e
    omega
  exact hn.of_map _ (fun _ _ h e => h (congrArg lastc e))
theorem inV_strs (z : Str) : ∀ ws : List Str, inV (V.str z) (ws.map V.str) = decide (z ∈ ws)
  | [] => rfl
  | x :: r => by
    have ih := inV_strs z r
    have e : inV (V.str z) ((x :: r).map V.str) = (eqV (V.str x) (V.str z) || inV (V.str z) (r.map V.str)) := rfl
    rw [e, ih]
    have e2 : eqV (V.str x) (V.str z) = decide (x = z) := by
      first
        | rfl
        | (unfold eqV; rw [Bool.beq_eq_decide_eq])
        | (unfold eqV; simp)
    rw [e2]
    by_cases h : x = z
    · subst h; simp
    · have h' : ¬ z = x := fun e => h e.symm
      simp [h, h']
theorem say_double : ∀ z ∈ sayWords, isSg (z ++ z) := by unfold isSg isNm; decide +kernel
theorem nd_KB__law_draw : ((Str.ofString "_law_draw" : Str) == ("__debug__" : Str)) = false := by decide +kernel
theorem nc_KB__law_draw : ((Str.ofString "_law_draw" : Str) == ("__classdict__" : Str)) = false := by decide +kernel
theorem nn_KB__law_draw : (Str.ofString "_law_draw" : Str) ≠ "__name__" := by decide +kernel
theorem nd_KB__law_first : ((Str.ofString "_law_first" : Str) == ("__debug__" : Str)) = false := by decide +kernel
theorem nc_KB__law_first : ((Str.ofString "_law_first" : Str) == ("__classdict__" : Str)) = false := by decide +kernel
theorem nn_KB__law_first : (Str.ofString "_law_first" : Str) ≠ "__name__" := by decide +kernel
theorem nd_KB__law_k : ((Str.ofString "_law_k" : Str) == ("__debug__" : Str)) = false := by decide +kernel
theorem nc_KB__law_k : ((Str.ofString "_law_k" : Str) == ("__classdict__" : Str)) = false := by decide +kernel
theorem nn_KB__law_k : (Str.ofString "_law_k" : Str) ≠ "__name__" := by decide +kernel
theorem nd_KB__law_letters : ((Str.ofString "_law_letters" : Str) == ("__debug__" : Str)) = false := by decide +kernel
theorem nc_KB__law_letters : ((Str.ofString "_law_letters" : Str) == ("__classdict__" : Str)) = false := by decide +kernel
theorem nn_KB__law_letters : (Str.ofString "_law_letters" : Str) ≠ "__name__" := by decide +kernel
theorem nd_KB__law_made : ((Str.ofString "_law_made" : Str) == ("__debug__" : Str)) = false := by decide +kernel
theorem nc_KB__law_made : ((Str.ofString "_law_made" : Str) == ("__classdict__" : Str)) = false := by decide +kernel
theorem nn_KB__law_made : (Str.ofString "_law_made" : Str) ≠ "__name__" := by decide +kernel
theorem nd_KB__law_pot_here : ((Str.ofString "_law_pot_here" : Str) == ("__debug__" : Str)) = false := by decide +kernel
theorem nc_KB__law_pot_here : ((Str.ofString "_law_pot_here" : Str) == ("__classdict__" : Str)) = false := by decide +kernel
theorem nn_KB__law_pot_here : (Str.ofString "_law_pot_here" : Str) ≠ "__name__" := by decide +kernel
theorem nd_KB__law_some : ((Str.ofString "_law_some" : Str) == ("__debug__" : Str)) = false := by decide +kernel
theorem nc_KB__law_some : ((Str.ofString "_law_some" : Str) == ("__classdict__" : Str)) = false := by decide +kernel
theorem nn_KB__law_some : (Str.ofString "_law_some" : Str) ≠ "__name__" := by decide +kernel
theorem nd_KB__law_word : ((Str.ofString "_law_word" : Str) == ("__debug__" : Str)) = false := by decide +kernel
theorem nc_KB__law_word : ((Str.ofString "_law_word" : Str) == ("__classdict__" : Str)) = false := by decide +kernel
theorem nn_KB__law_word : (Str.ofString "_law_word" : Str) ≠ "__name__" := by decide +kernel
theorem nd_KB_int : ((Str.ofString "int" : Str) == ("__debug__" : Str)) = false := by decide +kernel
theorem nc_KB_int : ((Str.ofString "int" : Str) == ("__classdict__" : Str)) = false := by decide +kernel
theorem nn_KB_int : (Str.ofString "int" : Str) ≠ "__name__" := by decide +kernel
theorem nd_KB_len : ((Str.ofString "len" : Str) == ("__debug__" : Str)) = false := by decide +kernel
theorem nc_KB_len : ((Str.ofString "len" : Str) == ("__classdict__" : Str)) = false := by decide +kernel
theorem nn_KB_len : (Str.ofString "len" : Str) ≠ "__name__" := by decide +kernel
section
variable {P : Program} {w : World} {K : PySem.W.Frag} {mg : Str → Option Value} {base : Heap}
theorem Went.trans {p : Addr} {H H1 H2 : Hp} (a : Went p H H1) (b : Went p H1 H2) : Went p H H2 := ⟨b.pot, a.same.trans b.same⟩
theorem Went.mk1 {p : Addr} {H H1 H2 : Hp} (a : Went p H H1) (pt : PotAt H2 p) (s : SameX p H1 H2) : Went p H H2 := ⟨pt, a.same.trans s⟩
theorem Went.new {p : Addr} {H H1 : Hp} {l : Addr} (a : Went p H H1) (h : H1 l = none) (o : HO) : Went p H (upd H1 l o) := ⟨a.pot.keep (same_new h o), a.same.same (same_new h o)⟩
theorem Went.put {p : Addr} {H H1 : Hp} {l : Addr} (a : Went p H H1) (n : p ≠ l) (h : H l = none) (o : HO) : Went p H (upd H1 l o) :=
  ⟨let ⟨x, y, z, e, r⟩ := a.pot; ⟨x, y, z, by rw [upd_ne n]; exact e, r⟩, fun b u nb e => by rw [upd_ne (ne_of_none e h)]; exact a.same b u nb e⟩
theorem Went.ne {p l : Addr} {H H1 : Hp} (a : Went p H H1) (h : H1 l = none) : p ≠ l := by obtain ⟨o, e⟩ := a.pot.some; exact ne_of_none e h
theorem Went.free {p l : Addr} {H H1 : Hp} (a : Went p H H1) (h : H1 l = none) : H l = none := a.same.free (Ne.symm (a.ne h)) h
theorem Went.refl {p : Addr} {H : Hp} (h : PotAt H p) : Went p H H := ⟨h, SameX.refl _ _⟩
theorem Went.at {p l : Addr} {H H1 : Hp} {o : HO} (a : Went p H H1) (n : l ≠ p) (h : H l = some o) : H1 l = some o := a.same l o n h
theorem Went.seq {p l : Addr} {H H1 : Hp} {xs : List V} (a : Went p H H1) (n : l ≠ p) (h : SqL K H l xs) : SqL K H1 l xs := by
  rcases h with (h | ⟨o, h⟩) | h
  · exact .inl (.inl (a.at n h))
  · exact .inl (.inr ⟨o, a.at n h⟩)
  · exact .inr h
abbrev s_law_words : Stmt := top 26
theorem sc_law_words : FnScope ["_law_pot_here", "_law_some", "_law_letters", "_law_first", "_law_made", "_law_k", "_law_word"] ["_law_pot_here", "_law_some"] (defScope s_law_words) := ⟨rfl, rfl, rfl, by decide +kernel, rfl, by decide +kernel, by decide +kernel⟩
theorem lk_law_words__law_draw : (defScope s_law_words).names.lookup (Str.ofString "_law_draw") = some NameKind.globalImplicit := by decide +kernel
theorem lk_law_words__law_first : (defScope s_law_words).names.lookup (Str.ofString "_law_first") = some NameKind.local := by decide +kernel
theorem lk_law_words__law_k : (defScope s_law_words).names.lookup (Str.ofString "_law_k") = some NameKind.local := by decide +kernel
theorem lk_law_words__law_letters : (defScope s_law_words).names.lookup (Str.ofString "_law_letters") = some NameKind.cell := by decide +kernel
theorem lk_law_words__law_made : (defScope s_law_words).names.lookup (Str.ofString "_law_made") = some NameKind.local := by decide +kernel
theorem lk_law_words__law_pot_here : (defScope s_law_words).names.lookup (Str.ofString "_law_pot_here") = some NameKind.cell := by decide +kernel
theorem lk_law_words__law_some : (defScope s_law_words).names.lookup (Str.ofString "_law_some") = some NameKind.local := by decide +kernel
theorem lk_law_words__law_word : (defScope s_law_words).names.lookup (Str.ofString "_law_word") = some NameKind.local := by decide +kernel
theorem lk_law_words_int : (defScope s_law_words).names.lookup (Str.ofString "int") = some NameKind.globalImplicit := by decide +kernel
theorem lk_law_words_len : (defScope s_law_words).names.lookup (Str.ofString "len") = some NameKind.globalImplicit := by decide +kernel
theorem lk_law_words_range : (defScope s_law_words).names.lookup (Str.ofString "range") = some NameKind.globalImplicit := by decide +kernel
theorem sp_law_words_1 : CompSc 1 ["_law_j", "_law_pot_here", "_law_some", "_law_letters", "_law_first", "_law_made", "_law_k", "_law_word"] ["_law_pot_here", "_law_some", "_law_letters", "_law_first", "_law_made", "_law_k", "_law_word"] (defScope s_law_words) { kind := PySem.ScopeKind.function, names := [ (PySem.Str.ofString ".0", PySem.NameKind.local), (PySem.Str.ofString "_law_j", PySem.NameKind.local), (PySem.Str.ofString "_law_draw", PySem.NameKind.globalImplicit), (PySem.Str.ofString "_law_letters", PySem.NameKind.free), (PySem.Str.ofString "_law_pot_here", PySem.NameKind.free)], isGenerator := false, isCoroutine := false, more := [] : PySem.Scope } := ⟨rfl, by decide +kernel, by decide +kernel, by decide +kernel, by decide +kernel, rfl, by decide +kernel⟩
theorem lk_law_words_c1__law_draw : ({ kind := PySem.ScopeKind.function, names := [ (PySem.Str.ofString ".0", PySem.NameKind.local), (PySem.Str.ofString "_law_j", PySem.NameKind.local), (PySem.Str.ofString "_law_draw", PySem.NameKind.globalImplicit), (PySem.Str.ofString "_law_letters", PySem.NameKind.free), (PySem.Str.ofString "_law_pot_here", PySem.NameKind.free)], isGenerator := false, isCoroutine := false, more := [] : PySem.Scope } : Scope).names.lookup (Str.ofString "_law_draw") = some NameKind.globalImplicit := by decide +kernel
theorem lk_law_words_c1__law_j : ({ kind := PySem.ScopeKind.function, names := [ (PySem.Str.ofString ".0", PySem.NameKind.local), (PySem.Str.ofString "_law_j", PySem.NameKind.local), (PySem.Str.ofString "_law_draw", PySem.NameKind.globalImplicit), (PySem.Str.ofString "_law_letters", PySem.NameKind.free), (PySem.Str.ofString "_law_pot_here", PySem.NameKind.free)], isGenerator := false, isCoroutine := false, more := [] : PySem.Scope } : Scope).names.lookup (Str.ofString "_law_j") = some NameKind.local := by decide +kernel
theorem lk_law_words_c1__law_letters : ({ kind := PySem.ScopeKind.function, names := [ (PySem.Str.ofString ".0", PySem.NameKind.local), (PySem.Str.ofString "_law_j", PySem.NameKind.local), (PySem.Str.ofString "_law_draw", PySem.NameKind.globalImplicit), (PySem.Str.ofString "_law_letters", PySem.NameKind.free), (PySem.Str.ofString "_law_pot_here", PySem.NameKind.free)], isGenerator := false, isCoroutine := false, more := [] : PySem.Scope } : Scope).names.lookup (Str.ofString "_law_letters") = some NameKind.free := by decide +kernel
theorem lk_law_words_c1__law_pot_here : ({ kind := PySem.ScopeKind.function, names := [ (PySem.Str.ofString ".0", PySem.NameKind.local), (PySem.Str.ofString "_law_j", PySem.NameKind.local), (PySem.Str.ofString "_law_draw", PySem.NameKind.globalImplicit), (PySem.Str.ofString "_law_letters", PySem.NameKind.free), (PySem.Str.ofString "_law_pot_here", PySem.NameKind.free)], isGenerator := false, isCoroutine := false, more := [] : PySem.Scope } : Scope).names.lookup (Str.ofString "_law_pot_here") = some NameKind.free := by decide +kernel
def spWords : Sp := fun vs H Q _ => ∃ (p a : Addr) (xs : List V), vs = [.ref p, .ref a] ∧ PotAt H p ∧ SqL K H a xs ∧ p ≠ a ∧ xs.length ≤ 8 ∧
  ∀ l (ys : List Str) H', H l = none → H' l = some (.lst (ys.map V.str)) → ys.length = xs.length → ys.Nodup → (∀ y ∈ ys, isSg y) → Went p H H' → Q (.ref l) H'
theorem ok_words (F : FunAt K mg "_law_words" s_law_words ["_law_pot_here", "_law_some"]) (Z : Bl mg) (D_law_draw : Def P w K mg base "_law_draw" 1 ["_law_pot_here", "_law_many"] spDraw) : Def P w K mg base "_law_words" 2 ["_law_pot_here", "_law_some"] (spWords (K := K)) := by
  have SC := sc_law_words
  refine F.mk' (k := 1) sc_law_words (fun vs H Q E h => ?_) (fun f cdv A outer s H vs Q E hr h => ?_)
  · obtain ⟨p, a, xs, rfl, _⟩ := h
    rfl
  · obtain ⟨p, a, xs, rfl, hp, ha, hpa, hx, q⟩ := h
    refine' ⟨_, ?derivation, ?_⟩
    case derivation =>
      refine' pss_cons ?h0 ?h1
      case h0 =>
        refine' ps_set (i := 2) (x := Str.ofString "_law_letters") ?h2 ?h3 ?h4 ?h5 ?h6 ?h7
        case h2 => exact SC.nd
        case h3 => exact rfl
        case h4 => exact (Or.inr lk_law_words__law_letters)
        case h5 => exact pe_str
        case h6 => rfl
        case h7 => exact .inl rfl
      case h1 =>
        refine' pss_cons ?h8 ?h9
        case h8 =>
          refine' ps_set (i := 3) (x := Str.ofString "_law_first") ?h10 ?h11 ?h12 ?h13 ?h14 ?h15
          case h10 => exact SC.nd
          case h11 => exact rfl
          case h12 => exact (Or.inl lk_law_words__law_first)
          case h13 =>
            refine' pe_def (hdb := nd_KB__law_draw) ?h16 ?h17 ?h18 ?h19 ?h20 ?h21
            case h16 => exact D_law_draw
            case h17 => exact (hr.mono (by decide))
            case h18 => exact lk_law_words__law_draw
            case h19 =>
              refine' pa_cons ?h22 ?h23 ?h24
              case h22 => exact (pq 0 (x := Str.ofString "_law_pot_here") (visC lk_law_words__law_pot_here) nd_KB__law_pot_here nc_KB__law_pot_here)
              case h23 =>
                refine' pa_cons ?h25 ?h26 ?h27
                case h25 => exact pe_int
                case h26 => exact pa_nil
                case h27 => rfl
              case h24 => rfl
            case h20 => rfl
            case h21 => rfl
          case h14 => rfl
          case h15 => exact .inl rfl
        case h9 =>
          refine' pss_cons ?h28 ?h29
          case h28 =>
            refine' ps_set (i := 4) (x := Str.ofString "_law_made") ?h30 ?h31 ?h32 ?h33 ?h34 ?h35
            case h30 => exact SC.nd
            case h31 => exact rfl
            case h32 => exact (Or.inl lk_law_words__law_made)
            case h33 =>
              refine' pe_lst ?h36
              case h36 => exact pa_nil
            case h34 => rfl
            case h35 => exact .inl rfl
          case h29 =>
            refine' pss_cons ?h37 ?h38
            case h37 =>
              refine' ps_for ?h39 ?h40 ?h41 ?h42 ?h43 ?h44
              case h39 => exact PassesOwn.never
              case h40 => exact rfl
              case h41 =>
                refine' pi_range1 ?h45 ?h46 ?h47 ?h48
                case h45 => exact lk_law_words_range
                case h46 => exact Z.n_range
                case h47 =>
                  refine' pa_cons ?h49 ?h50 ?h51
                  case h49 =>
                    refine' pe_callB (hn := nn_KB_len) (hdb := nd_KB_len) ?h52 ?h53 ?h54 ?h55 ?h56 ?h57 ?h58
                    case h52 => exact call_len_seq
                    case h53 => exact lk_law_words_len
                    case h54 => exact Z.n_len
                    case h55 => exact bt_len
                    case h56 =>
                      refine' pa_cons ?h59 ?h60 ?h61
                      case h59 => exact (pq 1 (x := Str.ofString "_law_some") (visL lk_law_words__law_some) nd_KB__law_some nc_KB__law_some)
                      case h60 => exact pa_nil
                      case h61 => rfl
                    case h57 => rfl
                    case h58 => rfl
                  case h50 => exact pa_nil
                  case h51 => rfl
                case h48 => rfl
              case h42 =>
                refine' pg_name (i := 5) (x := Str.ofString "_law_k") ?h62 ?h63 ?h64 ?h65
                case h62 => exact SC.nd
                case h63 => exact rfl
                case h64 => exact (Or.inl lk_law_words__law_k)
                case h65 => exact (.inl rfl)
              case h43 =>
                refine' pss_cons ?h66 ?h67
                case h66 =>
                  refine' ps_set (i := 6) (x := Str.ofString "_law_word") ?h68 ?h69 ?h70 ?h71 ?h72 ?h73
                  case h68 => exact SC.nd
                  case h69 => exact rfl
                  case h70 => exact (Or.inl lk_law_words__law_word)
                  case h71 =>
                    refine' pe_bm ?h74 ?h75 ?h76 ?h77 ?h78 ?h79 ?h80 ?h81 ?h82 ?h83 ?h84
                    case h74 => exact PySem.F.plainAttrs_str
                    case h75 => exact PySem.F.slot_str_join
                    case h76 => exact PySem.F.type_str_join
                    case h77 => exact mt_join
                    case h78 => exact pe_str
                    case h79 =>
                      refine' pa_cons ?h85 ?h86 ?h87
                      case h85 =>
                        refine' pe_comp ?h88 ?h89 ?h90 ?h91 ?h92 ?h93 ?h94
                        case h88 => exact noxe
                        case h89 => exact rfl
                        case h90 => exact sp_law_words_1.at
                        case h91 =>
                          refine' pi_range1 ?h95 ?h96 ?h97 ?h98
                          case h95 => exact lk_law_words_range
                          case h96 => exact Z.n_range
                          case h97 =>
                            refine' pa_cons ?h99 ?h100 ?h101
                            case h99 =>
                              refine' pe_def (hdb := nd_KB__law_draw) ?h102 ?h103 ?h104 ?h105 ?h106 ?h107
                              case h102 => exact D_law_draw
                              case h103 => exact (hr.mono (by decide))
                              case h104 => exact lk_law_words__law_draw
                              case h105 =>
                                refine' pa_cons ?h108 ?h109 ?h110
                                case h108 => exact (pq 0 (x := Str.ofString "_law_pot_here") (visC lk_law_words__law_pot_here) nd_KB__law_pot_here nc_KB__law_pot_here)
                                case h109 =>
                                  refine' pa_cons ?h111 ?h112 ?h113
                                  case h111 => exact pe_int
                                  case h112 => exact pa_nil
                                  case h113 => rfl
                                case h110 => rfl
                              case h106 => rfl
                              case h107 => rfl
                            case h100 => exact pa_nil
                            case h101 => rfl
                          case h98 => rfl
                        case h92 =>
                          intro _ _ _ _ _
                          refine' pg_name (i := 0) ?h114 ?h115 ?h116 ?h117
                          case h114 => exact sp_law_words_1.nd
                          case h115 => exact rfl
                          case h116 => exact (locO lk_law_words_c1__law_j)
                          case h117 => exact (.inr (lookup_relabel_local lk_law_words_c1__law_j))
                        case h93 =>
                          intro _ _ _ _ _
                          refine' pe_ix ?h118 ?h119 ?h120 ?h121
                          case h118 => exact ix_str
                          case h119 => exact (pq 3 (x := Str.ofString "_law_letters") (visF lk_law_words_c1__law_letters) nd_KB__law_letters nc_KB__law_letters)
                          case h120 =>
                            refine' pe_def (hdb := nd_KB__law_draw) ?h122 ?h123 ?h124 ?h125 ?h126 ?h127
                            case h122 => exact D_law_draw
                            case h123 => exact (hr.mono (by decide))
                            case h124 => exact (glO lk_law_words_c1__law_draw)
                            case h125 =>
                              refine' pa_cons ?h128 ?h129 ?h130
                              case h128 => exact (pq 1 (x := Str.ofString "_law_pot_here") (visF lk_law_words_c1__law_pot_here) nd_KB__law_pot_here nc_KB__law_pot_here)
                              case h129 =>
                                refine' pa_cons ?h131 ?h132 ?h133
                                case h131 => exact pe_int
                                case h132 => exact pa_nil
                                case h133 => rfl
                              case h130 => rfl
                            case h126 => rfl
                            case h127 => rfl
                          case h121 =>
                            intro _ _
                            exact rfl
                        case h94 => intro _; rfl
                      case h86 => exact pa_nil
                      case h87 => rfl
                    case h80 => rfl
                    case h81 => rfl
                    case h82 => rfl
                    case h83 => rfl
                    case h84 => rfl
                  case h72 => rfl
                  case h73 => exact .inl rfl
                case h67 =>
                  refine' pss_cons ?h134 ?h135
                  case h134 =>
                    refine' ps_set (i := 6) (x := Str.ofString "_law_word") ?h136 ?h137 ?h138 ?h139 ?h140 ?h141
                    case h136 => exact SC.nd
                    case h137 => exact rfl
                    case h138 => exact (Or.inl lk_law_words__law_word)
                    case h139 =>
                      refine' pe_op ?h142 ?h143 ?h144
                      case h142 => exact op_add_str
                      case h143 => exact (pq 6 (x := Str.ofString "_law_word") (visL lk_law_words__law_word) nd_KB__law_word nc_KB__law_word)
                      case h144 =>
                        refine' pe_ix ?h145 ?h146 ?h147 ?h148
                        case h145 => exact ix_str
                        case h146 => exact (pq 2 (x := Str.ofString "_law_letters") (visC lk_law_words__law_letters) nd_KB__law_letters nc_KB__law_letters)
                        case h147 =>
                          refine' pe_op ?h149 ?h150 ?h151
                          case h149 => exact op_mod
                          case h150 =>
                            refine' pe_op ?h152 ?h153 ?h154
                            case h152 => exact op_add
                            case h153 => exact (pq 3 (x := Str.ofString "_law_first") (visL lk_law_words__law_first) nd_KB__law_first nc_KB__law_first)
                            case h154 => exact (pq 5 (x := Str.ofString "_law_k") (visL lk_law_words__law_k) nd_KB__law_k nc_KB__law_k)
                          case h151 => exact pe_int
                        case h148 =>
                          intro _ _
                          exact rfl
                    case h140 => rfl
                    case h141 => exact .inl rfl
                  case h135 =>
                    refine' pss_one ?h155
                    case h155 =>
                      refine' ps_expr ?h156 ?h157
                      case h156 =>
                        refine' pe_bm ?h158 ?h159 ?h160 ?h161 ?h162 ?h163 ?h164 ?h165 ?h166 ?h167 ?h168
                        case h158 => exact PySem.F.plainAttrs_list
                        case h159 => exact PySem.F.slot_list_append
                        case h160 => exact PySem.F.type_list_append
                        case h161 => exact mt_append
                        case h162 => exact (pq 4 (x := Str.ofString "_law_made") (visL lk_law_words__law_made) nd_KB__law_made nc_KB__law_made)
                        case h163 =>
                          refine' pa_cons ?h169 ?h170 ?h171
                          case h169 =>
                            refine' pe_ix ?h172 ?h173 ?h174 ?h175
                            case h172 => exact ix_list
                            case h173 =>
                              refine' pe_lst ?h176
                              case h176 =>
                                refine' pa_cons ?h177 ?h178 ?h179
                                case h177 => exact (pq 6 (x := Str.ofString "_law_word") (visL lk_law_words__law_word) nd_KB__law_word nc_KB__law_word)
                                case h178 =>
                                  refine' pa_cons ?h180 ?h181 ?h182
                                  case h180 =>
                                    refine' pe_op ?h183 ?h184 ?h185
                                    case h183 => exact op_add_str
                                    case h184 => exact (pq 6 (x := Str.ofString "_law_word") (visL lk_law_words__law_word) nd_KB__law_word nc_KB__law_word)
                                    case h185 => exact (pq 6 (x := Str.ofString "_law_word") (visL lk_law_words__law_word) nd_KB__law_word nc_KB__law_word)
                                  case h181 => exact pa_nil
                                  case h182 => rfl
                                case h179 => rfl
                            case h174 =>
                              refine' pe_callTy (hn := nn_KB_int) (hdb := nd_KB_int) ?h186 ?h187 ?h188 ?h189 ?h190 ?h191 ?h192
                              case h186 => exact call_int1
                              case h187 => exact lk_law_words_int
                              case h188 => exact Z.n_int
                              case h189 => exact bt_int
                              case h190 =>
                                refine' pa_cons ?h193 ?h194 ?h195
                                case h193 =>
                                  refine' pe_cmpR ?h196 ?h197 ?h198 ?h199
                                  case h196 => exact op_in_seq
                                  case h197 => exact (pq 6 (x := Str.ofString "_law_word") (visL lk_law_words__law_word) nd_KB__law_word nc_KB__law_word)
                                  case h198 =>
                                    refine' pe_tup ?h200
                                    case h200 =>
                                      refine' pa_strs ?h201
                                      case h201 => exact (by repeat constructor)
                                  case h199 => exact (by with_unfolding_all rfl)
                                case h194 => exact pa_nil
                                case h195 => rfl
                              case h191 => rfl
                              case h192 => rfl
                            case h175 =>
                              intro _ _
                              exact rfl
                          case h170 => exact pa_nil
                          case h171 => rfl
                        case h164 => rfl
                        case h165 => rfl
                        case h166 => rfl
                        case h167 => rfl
                        case h168 => rfl
                      case h157 => rfl
              case h44 => intro _; rfl
            case h38 =>
              refine' pss_one ?h202
              case h202 =>
                refine' ps_ret ?h203
                case h203 => exact (pq 4 (x := Str.ofString "_law_made") (visL lk_law_words__law_made) nd_KB__law_made nc_KB__law_made)
    refine ⟨_, rfl, p, _, rfl, hp, by decide, by decide, fun r0 H1 h0 h1 hp1 s1 => ?_⟩
    have W1 : Went p H H1 := ⟨hp1, s1⟩
    refine ⟨by show 0 ≤ sizeLine; decide, fun M hM => ?_⟩
    have W2 := W1.new hM (.lst [])
    have hpM := W1.ne hM
    have hHM := W1.free hM
    refine ⟨_, rfl, a, xs, rfl, .inl (W2.seq (Ne.symm hpa) ha), _, rfl, by omega, by omega, ?_⟩
    refine for_range (n := xs.length) (fun i σ H2 => ∃ (ws : List Str) (v6 v5 : Option V), σ = [some (.ref p), some (.ref a), some (.str abc), some (.int r0), some (.ref M), v5, v6] ∧ ws.length = i ∧ H2 M = some (.lst (ws.map V.str)) ∧ ws.map lastc = (List.range ws.length).map (fun i => some (97 + (r0.toNat + i) % 26)) ∧ (∀ y ∈ ws, isSg y) ∧ Went p H H2)
      ⟨[], none, none, rfl, rfl, upd_same, rfl, (fun _ h => nomatch h), W2⟩ ?_ ?_
    · rintro i σ H2 hi ⟨ws, v6, v5, rfl, hwl, hM2, hlast, hsg, W3⟩
      refine ⟨rfl, _, rfl, p, _, rfl, W3.pot, by decide, by decide, fun r1 H3 g0 g1 hp3 s3 => ?_⟩
      have W4 := W3.mk1 hp3 s3
      refine ⟨_, rfl, by omega, by omega, ?_⟩
      intro cl C ex sc Hc
      refine comp_it1 r1.toNat (fun i ys H4 => ∃ us : List Str, ys = us.map V.str ∧ (∀ u ∈ us, u.cps.toList.length = 1 ∧ ∀ c ∈ u.cps.toList, 97 ≤ c ∧ c ≤ 122) ∧ Went p H3 H4) (fun _ _ => True)
        ⟨[], rfl, (fun _ h => nomatch h), Went.refl hp3⟩ (Nat.le_trans (show r1.toNat ≤ 100 by omega) (show 100 ≤ sizeLine by decide)) (fun i ys H1 hi _ _ => ⟨hi, fun x H' y => ⟨y.1, trivial⟩⟩) (fun _ _ _ _ => Nat.le_refl _) ?_ ?_
      · rintro j x ys H4 hj _ hy ⟨us, rfl, hus, W5⟩
        refine ⟨_, rfl, _, rfl, p, _, rfl, W5.pot, by decide, by decide, fun r2 H5 k0 k1 hp5 s5 => ?_⟩
        refine ⟨abc, r2, _, rfl, rfl, by rw [str_len, abc_len]; decide, abc_int k0 k1, us ++ [⟨#[97 + r2.toNat]⟩], by simp, fun u hu => ?_, W5.mk1 hp5 s5⟩
        rcases List.mem_append.mp hu with hu | hu
        · exact hus u hu
        · rw [List.mem_singleton.mp hu]
          refine ⟨rfl, fun c hc => ?_⟩
          have : c = 97 + r2.toNat := by simpa using hc
          omega
      · rintro ys H4 hy ⟨us, rfl, hus, W5⟩ D hD
        have hul : us.length = r1.toNat := by simpa using hy
        have W6 : Went p H (upd H4 D (.lst (us.map V.str))) := (W4.trans W5).new hD _
        have hM6 : (upd H4 D (.lst (us.map V.str))) M = some (.lst (ws.map V.str)) := (W5.new hD _).at (Ne.symm hpM) (s3 M _ (Ne.symm hpM) hM2)
        have hjo : JoinOk (Str.ofString "") us = true := by
          unfold JoinOk
          rw [StrLaws.joinFits (B := 1) (fun y hy => by rw [str_len]; exact Nat.le_of_eq (hus y hy).1) (by
            have e0 : (Str.ofString "").length = 0 := by decide +kernel
            rw [e0, hul]; omega)]
          rfl
        refine ⟨Str.ofString "", D, us, rfl, rfl, SqL.of upd_same, hjo, ?_⟩
        have hjl := join_list us
        have hj1 : ((Str.join (Str.ofString "") us).cps.toList).length = us.length := by
          rw [hjl, List.length_flatMap]
          have : ∀ l : List Str, (∀ u ∈ l, u.cps.toList.length = 1) → (l.map fun y => y.cps.toList.length).sum = l.length := by
            intro l
            induction l with
            | nil => intro _; rfl
            | cons u r ih => intro h; rw [List.map_cons, List.sum_cons, ih fun x hx => h x (List.mem_cons_of_mem _ hx), h u List.mem_cons_self, List.length_cons]; omega
          exact this us fun u hu => (hus u hu).1
        have hj2 : ∀ c ∈ (Str.join (Str.ofString "") us).cps.toList, 97 ≤ c ∧ c ≤ 122 := by
          rw [hjl]
          intro c hc
          obtain ⟨u, hu, hcu⟩ := List.mem_flatMap.mp hc
          exact (hus u hu).2 c hcu
        generalize Str.join (Str.ofString "") us = wd at hj1 hj2
        have hm0 : 0 ≤ (r0 + (0 + (i : Int))) % 26 := Int.emod_nonneg _ (by decide)
        have hm1 : (r0 + (0 + (i : Int))) % 26 < 26 := Int.emod_lt_of_pos _ (by decide)
        refine ⟨_, rfl, _, rfl, _, rfl, _, rfl, _, _, rfl, rfl, _, _, rfl, rfl, (by show (0 : Int) < 26; decide), abc, _, _, rfl, rfl, by rw [str_len, abc_len]; decide, abc_int hm0 hm1, _, _, rfl, rfl, ?_, ?_⟩
        · rw [str_len, str_len]
          show wd.cps.toList.length + 1 ≤ sizeLine
          rw [hj1, hul]
          exact Nat.le_trans (show r1.toNat + 1 ≤ 100 by omega) (by decide)
        have hc26 : ((r0 + (0 + (i : Int))) % 26).toNat = (r0.toNat + i) % 26 := by omega
        rw [hc26]
        have hw1 : (wd ++ (⟨#[97 + (r0.toNat + i) % 26]⟩ : Str)).cps.toList = wd.cps.toList ++ [97 + (r0.toNat + i) % 26] := by rw [app_list]
        generalize (wd ++ (⟨#[97 + (r0.toNat + i) % 26]⟩ : Str)) = z at hw1
        have hzl : z.cps.toList.length ≤ 12 := by rw [hw1, List.length_append, hj1, hul]; simp; omega
        have hz1 : 1 ≤ z.cps.toList.length := by rw [hw1, List.length_append]; simp
        have hzc : ∀ c ∈ z.cps.toList, 97 ≤ c ∧ c ≤ 122 := by
          rw [hw1]
          intro c hc
          rcases List.mem_append.mp hc with hc | hc
          · exact hj2 c hc
          · have : c = 97 + (r0.toNat + i) % 26 := by simpa using hc
            omega
        have hzlast : lastc z = some (97 + (r0.toNat + i) % 26) := by unfold lastc; rw [hw1]; simp
        refine ⟨_, rfl, .inl ⟨rfl, _, SqL.of hM6⟩, _, rfl, _, rfl, _, rfl, _, _, rfl, rfl, ?_, by show 2 ≤ sizeLine; decide, fun L2 hL2 => ?_⟩
        · rw [str_len]; exact Nat.le_trans (show z.cps.toList.length + z.cps.toList.length ≤ 100 by omega) (by decide)
        refine ⟨_, rfl, by show 5 ≤ sizeLine; decide, fun T hT => ?_⟩
        have hTL : L2 ≠ T := ne_of_none upd_same hT
        refine ⟨T, _, rfl, .inr (SqT.of upd_same), rfl, rfl, .inr ⟨_, rfl, ?_⟩⟩
        have W7 := W6.new hL2 (.lst [.str z, .str (z ++ z)])
        have W8 := W7.new hT (.tup [.str "all", .str "some", .str "not", .str "and", .str "or"])
        have nML : M ≠ L2 := ne_of_none hM6 hL2
        have nMT : M ≠ T := ne_of_none (by rw [upd_ne nML]; exact hM6) hT
        have fin : ∀ y : Str, isSg y → lastc y = some (97 + (r0.toNat + i) % 26) → ∃ (ws' : List Str) (v6 v5 : Option V), [some (V.ref p), some (V.ref a), some (V.str abc), some (V.int r0), some (V.ref M), some (V.int (0 + (i : Int))), some (V.str z)] = [some (.ref p), some (.ref a), some (.str abc), some (.int r0), some (.ref M), v5, v6] ∧ ws'.length = i + 1 ∧
            (upd (upd (upd (upd H4 D (.lst (us.map V.str))) L2 (.lst [.str z, .str (z ++ z)])) T (.tup [.str "all", .str "some", .str "not", .str "and", .str "or"])) M (.lst (ws.map V.str ++ [V.str y]))) M = some (.lst (ws'.map V.str)) ∧
            ws'.map lastc = (List.range ws'.length).map (fun i => some (97 + (r0.toNat + i) % 26)) ∧ (∀ y ∈ ws', isSg y) ∧ Went p H (upd (upd (upd (upd H4 D (.lst (us.map V.str))) L2 (.lst [.str z, .str (z ++ z)])) T (.tup [.str "all", .str "some", .str "not", .str "and", .str "or"])) M (.lst (ws.map V.str ++ [V.str y]))) := fun y h1 h2 => by
          refine ⟨ws ++ [y], _, _, rfl, by simp [hwl], by rw [upd_same]; simp, ?_, fun x hx => ?_, W8.put hpM hHM _⟩
          · rw [List.map_append, hlast, List.length_append, List.length_singleton, List.range_succ, List.map_append, List.map_cons, List.map_nil, List.map_cons, List.map_nil, h2, hwl]
          · rcases List.mem_append.mp hx with hx | hx
            · exact hsg x hx
            · rw [List.mem_singleton.mp hx]; exact h1
        have hML8 : (upd (upd (upd H4 D (.lst (us.map V.str))) L2 (.lst [.str z, .str (z ++ z)])) T (.tup [.str "all", .str "some", .str "not", .str "and", .str "or"])) M = some (.lst (ws.map V.str)) := by rw [upd_ne nMT, upd_ne nML]; exact hM6
        have hLL8 : (upd (upd (upd H4 D (.lst (us.map V.str))) L2 (.lst [.str z, .str (z ++ z)])) T (.tup [.str "all", .str "some", .str "not", .str "and", .str "or"])) L2 = some (.lst [.str z, .str (z ++ z)]) := by rw [upd_ne hTL, upd_same]
        have hwss : (ws.map V.str).length < sizeLine := by rw [List.length_map]; exact Nat.lt_of_lt_of_le (show ws.length < 100 by omega) (by decide)
        by_cases hin : z ∈ sayWords
        · have e : inV (V.str z) (List.map V.str sayWords) = true := (inV_strs z sayWords).trans (decide_eq_true hin)
          refine ⟨L2, _, _, V.str (z ++ z), rfl, rfl, SqL.of hLL8, ?_, M, _, _, rfl, rfl, hML8, hwss, fin _ ?_ ?_⟩
          · show atI [V.str z, V.str (z ++ z)] (if inV (V.str z) (List.map V.str sayWords) = true then 1 else 0) = some (V.str (z ++ z))
            rw [e]; rfl
          · exact say_double z hin
          · unfold lastc at hzlast ⊢
            rw [app_list, List.getLast?_append, hzlast]; rfl
        · have e : inV (V.str z) (List.map V.str sayWords) = false := (inV_strs z sayWords).trans (decide_eq_false hin)
          refine ⟨L2, _, _, V.str z, rfl, rfl, SqL.of hLL8, ?_, M, _, _, rfl, rfl, hML8, hwss, fin _ ⟨⟨hz1, hzl, hzc⟩, hin⟩ hzlast⟩
          show atI [V.str z, V.str (z ++ z)] (if inV (V.str z) (List.map V.str sayWords) = true then 1 else 0) = some (V.str z)
          rw [e]; rfl
    · rintro σ H2 ⟨ws, v6, v5, rfl, hwl, hM2, hlast, hsg, W3⟩
      exact ⟨_, rfl, q M ws H2 hHM hM2 hwl (nodup_last hlast (by omega)) hsg W3⟩
end
end Few

set_option Elab.async false
set_option linter.all false
set_option maxRecDepth 100000
set_option maxHeartbeats 1000000
namespace Few
open PySem L2
structure TieR where
  nm : Str
  ps : List Str
structure FunR where
  nm : Str
  ps : List Str
  kd : Str
def strsD (ws : List Str) : List PyData := ws.map PyData.str
def tieL (t : TieR) : PyData := .tuple [.str t.nm, .list (strsD t.ps)]
def funL (t : FunR) : PyData := .tuple [.str t.nm, .list (strsD t.ps), .str t.kd]
def bookL (ks : List Str) (ts : List TieR) (fs : List FunR) : PyData := .tuple [.list (strsD ks), .list (ts.map tieL), .list (fs.map funL)]
structure BookOk (ks : List Str) (ts : List TieR) (fs : List FunR) : Prop where
  kn : ks.Nodup
  k1 : 1 ≤ ks.length
  k4 : ks.length ≤ 4
  kn2 : ∀ k ∈ ks, isNm k
  sn : (ts.map (·.nm) ++ fs.map (·.nm)).Nodup
  sl : ts.length + fs.length ≤ 8
  tn : ∀ t ∈ ts, isSg t.nm ∧ t.ps.length ≤ 2 ∧ ∀ k ∈ t.ps, k ∈ ks
  fn : ∀ t ∈ fs, isSg t.nm ∧ t.ps.length ≤ 2 ∧ (∀ k ∈ t.ps, k ∈ ks) ∧ t.kd ∈ ks
def menuK : List Str := ["a", "b", "c", "all", "not", "x", "kind", "size", "r", "f", "abcdefghijkl"]
def menuS : List Str := ["r", "s", "q", "f", "g", "c", "x", "say", "holds", "none", "tie", "next", "zyxwvutsrqpo"]
theorem menuK_nm : ∀ k ∈ menuK, isNm k := by unfold isNm; decide +kernel
theorem menuS_sg : ∀ k ∈ menuS, isSg k := by unfold isSg isNm; decide +kernel
theorem menuK_nd : menuK.Nodup := by decide +kernel
theorem menuS_nd : menuS.Nodup := by decide +kernel
theorem nd_KC__law_draw : ((Str.ofString "_law_draw" : Str) == ("__debug__" : Str)) = false := by decide +kernel
theorem nc_KC__law_draw : ((Str.ofString "_law_draw" : Str) == ("__classdict__" : Str)) = false := by decide +kernel
theorem nn_KC__law_draw : (Str.ofString "_law_draw" : Str) ≠ "__name__" := by decide +kernel
theorem nd_KC__law_functions : ((Str.ofString "_law_functions" : Str) == ("__debug__" : Str)) = false := by decide +kernel
theorem nc_KC__law_functions : ((Str.ofString "_law_functions" : Str) == ("__classdict__" : Str)) = false := by decide +kernel
theorem nn_KC__law_functions : (Str.ofString "_law_functions" : Str) ≠ "__name__" := by decide +kernel
theorem nd_KC__law_kinds : ((Str.ofString "_law_kinds" : Str) == ("__debug__" : Str)) = false := by decide +kernel
theorem nc_KC__law_kinds : ((Str.ofString "_law_kinds" : Str) == ("__classdict__" : Str)) = false := by decide +kernel
theorem nn_KC__law_kinds : (Str.ofString "_law_kinds" : Str) ≠ "__name__" := by decide +kernel
theorem nd_KC__law_menu : ((Str.ofString "_law_menu" : Str) == ("__debug__" : Str)) = false := by decide +kernel
theorem nc_KC__law_menu : ((Str.ofString "_law_menu" : Str) == ("__classdict__" : Str)) = false := by decide +kernel
theorem nn_KC__law_menu : (Str.ofString "_law_menu" : Str) ≠ "__name__" := by decide +kernel
theorem nd_KC__law_most_kinds : ((Str.ofString "_law_most_kinds" : Str) == ("__debug__" : Str)) = false := by decide +kernel
theorem nc_KC__law_most_kinds : ((Str.ofString "_law_most_kinds" : Str) == ("__classdict__" : Str)) = false := by decide +kernel
theorem nn_KC__law_most_kinds : (Str.ofString "_law_most_kinds" : Str) ≠ "__name__" := by decide +kernel
theorem nd_KC__law_most_signs : ((Str.ofString "_law_most_signs" : Str) == ("__debug__" : Str)) = false := by decide +kernel
theorem nc_KC__law_most_signs : ((Str.ofString "_law_most_signs" : Str) == ("__classdict__" : Str)) = false := by decide +kernel
theorem nn_KC__law_most_signs : (Str.ofString "_law_most_signs" : Str) ≠ "__name__" := by decide +kernel
theorem nd_KC__law_name : ((Str.ofString "_law_name" : Str) == ("__debug__" : Str)) = false := by decide +kernel
theorem nc_KC__law_name : ((Str.ofString "_law_name" : Str) == ("__classdict__" : Str)) = false := by decide +kernel
theorem nn_KC__law_name : (Str.ofString "_law_name" : Str) ≠ "__name__" := by decide +kernel
theorem nd_KC__law_names : ((Str.ofString "_law_names" : Str) == ("__debug__" : Str)) = false := by decide +kernel
theorem nc_KC__law_names : ((Str.ofString "_law_names" : Str) == ("__classdict__" : Str)) = false := by decide +kernel
theorem nn_KC__law_names : (Str.ofString "_law_names" : Str) ≠ "__name__" := by decide +kernel
theorem nd_KC__law_places : ((Str.ofString "_law_places" : Str) == ("__debug__" : Str)) = false := by decide +kernel
theorem nc_KC__law_places : ((Str.ofString "_law_places" : Str) == ("__classdict__" : Str)) = false := by decide +kernel
theorem nn_KC__law_places : (Str.ofString "_law_places" : Str) ≠ "__name__" := by decide +kernel
theorem nd_KC__law_pot_here : ((Str.ofString "_law_pot_here" : Str) == ("__debug__" : Str)) = false := by decide +kernel
theorem nc_KC__law_pot_here : ((Str.ofString "_law_pot_here" : Str) == ("__classdict__" : Str)) = false := by decide +kernel
theorem nn_KC__law_pot_here : (Str.ofString "_law_pot_here" : Str) ≠ "__name__" := by decide +kernel
theorem nd_KC__law_ties : ((Str.ofString "_law_ties" : Str) == ("__debug__" : Str)) = false := by decide +kernel
theorem nc_KC__law_ties : ((Str.ofString "_law_ties" : Str) == ("__classdict__" : Str)) = false := by decide +kernel
theorem nn_KC__law_ties : (Str.ofString "_law_ties" : Str) ≠ "__name__" := by decide +kernel
theorem nd_KC__law_unlike : ((Str.ofString "_law_unlike" : Str) == ("__debug__" : Str)) = false := by decide +kernel
theorem nc_KC__law_unlike : ((Str.ofString "_law_unlike" : Str) == ("__classdict__" : Str)) = false := by decide +kernel
theorem nn_KC__law_unlike : (Str.ofString "_law_unlike" : Str) ≠ "__name__" := by decide +kernel
theorem nd_KC__law_words : ((Str.ofString "_law_words" : Str) == ("__debug__" : Str)) = false := by decide +kernel
theorem nc_KC__law_words : ((Str.ofString "_law_words" : Str) == ("__classdict__" : Str)) = false := by decide +kernel
theorem nn_KC__law_words : (Str.ofString "_law_words" : Str) ≠ "__name__" := by decide +kernel
theorem nd_KC_len : ((Str.ofString "len" : Str) == ("__debug__" : Str)) = false := by decide +kernel
theorem nc_KC_len : ((Str.ofString "len" : Str) == ("__classdict__" : Str)) = false := by decide +kernel
theorem nn_KC_len : (Str.ofString "len" : Str) ≠ "__name__" := by decide +kernel
section
variable {P : Program} {w : World} {K : PySem.W.Frag} {mg : Str → Option Value} {base : Heap}
abbrev s_law_book : Stmt := top 27
theorem sc_law_book : FnScope ["_law_pot_here", "_law_most_kinds", "_law_most_signs", "_law_menu", "_law_kinds", "_law_names", "_law_ties", "_law_functions", "_law_name", "_law_places"] ["_law_pot_here", "_law_most_kinds", "_law_most_signs"] (defScope s_law_book) := ⟨rfl, rfl, rfl, by decide +kernel, rfl, by decide +kernel, by decide +kernel⟩
theorem lk_law_book__law_draw : (defScope s_law_book).names.lookup (Str.ofString "_law_draw") = some NameKind.globalImplicit := by decide +kernel
theorem lk_law_book__law_functions : (defScope s_law_book).names.lookup (Str.ofString "_law_functions") = some NameKind.local := by decide +kernel
theorem lk_law_book__law_kinds : (defScope s_law_book).names.lookup (Str.ofString "_law_kinds") = some NameKind.cell := by decide +kernel
theorem lk_law_book__law_menu : (defScope s_law_book).names.lookup (Str.ofString "_law_menu") = some NameKind.local := by decide +kernel
theorem lk_law_book__law_most_kinds : (defScope s_law_book).names.lookup (Str.ofString "_law_most_kinds") = some NameKind.local := by decide +kernel
theorem lk_law_book__law_most_signs : (defScope s_law_book).names.lookup (Str.ofString "_law_most_signs") = some NameKind.local := by decide +kernel
theorem lk_law_book__law_name : (defScope s_law_book).names.lookup (Str.ofString "_law_name") = some NameKind.local := by decide +kernel
theorem lk_law_book__law_names : (defScope s_law_book).names.lookup (Str.ofString "_law_names") = some NameKind.local := by decide +kernel
theorem lk_law_book__law_places : (defScope s_law_book).names.lookup (Str.ofString "_law_places") = some NameKind.local := by decide +kernel
theorem lk_law_book__law_pot_here : (defScope s_law_book).names.lookup (Str.ofString "_law_pot_here") = some NameKind.cell := by decide +kernel
theorem lk_law_book__law_ties : (defScope s_law_book).names.lookup (Str.ofString "_law_ties") = some NameKind.local := by decide +kernel
theorem lk_law_book__law_unlike : (defScope s_law_book).names.lookup (Str.ofString "_law_unlike") = some NameKind.globalImplicit := by decide +kernel
theorem lk_law_book__law_words : (defScope s_law_book).names.lookup (Str.ofString "_law_words") = some NameKind.globalImplicit := by decide +kernel
theorem lk_law_book_len : (defScope s_law_book).names.lookup (Str.ofString "len") = some NameKind.globalImplicit := by decide +kernel
theorem lk_law_book_range : (defScope s_law_book).names.lookup (Str.ofString "range") = some NameKind.globalImplicit := by decide +kernel
theorem sp_law_book_1 : CompSc 1 ["_law_k", "_law_pot_here", "_law_most_kinds", "_law_most_signs", "_law_menu", "_law_kinds", "_law_names", "_law_ties", "_law_functions", "_law_name", "_law_places"] ["_law_pot_here", "_law_most_kinds", "_law_most_signs", "_law_menu", "_law_kinds", "_law_names", "_law_ties", "_law_functions", "_law_name", "_law_places"] (defScope s_law_book) { kind := PySem.ScopeKind.function, names := [ (PySem.Str.ofString ".0", PySem.NameKind.local), (PySem.Str.ofString "_law_k", PySem.NameKind.local), (PySem.Str.ofString "_law_draw", PySem.NameKind.globalImplicit), (PySem.Str.ofString "len", PySem.NameKind.globalImplicit), (PySem.Str.ofString "_law_kinds", PySem.NameKind.free), (PySem.Str.ofString "_law_pot_here", PySem.NameKind.free)], isGenerator := false, isCoroutine := false, more := [] : PySem.Scope } := ⟨rfl, by decide +kernel, by decide +kernel, by decide +kernel, by decide +kernel, rfl, by decide +kernel⟩
theorem lk_law_book_c1__law_draw : ({ kind := PySem.ScopeKind.function, names := [ (PySem.Str.ofString ".0", PySem.NameKind.local), (PySem.Str.ofString "_law_k", PySem.NameKind.local), (PySem.Str.ofString "_law_draw", PySem.NameKind.globalImplicit), (PySem.Str.ofString "len", PySem.NameKind.globalImplicit), (PySem.Str.ofString "_law_kinds", PySem.NameKind.free), (PySem.Str.ofString "_law_pot_here", PySem.NameKind.free)], isGenerator := false, isCoroutine := false, more := [] : PySem.Scope } : Scope).names.lookup (Str.ofString "_law_draw") = some NameKind.globalImplicit := by decide +kernel
theorem lk_law_book_c1__law_k : ({ kind := PySem.ScopeKind.function, names := [ (PySem.Str.ofString ".0", PySem.NameKind.local), (PySem.Str.ofString "_law_k", PySem.NameKind.local), (PySem.Str.ofString "_law_draw", PySem.NameKind.globalImplicit), (PySem.Str.ofString "len", PySem.NameKind.globalImplicit), (PySem.Str.ofString "_law_kinds", PySem.NameKind.free), (PySem.Str.ofString "_law_pot_here", PySem.NameKind.free)], isGenerator := false, isCoroutine := false, more := [] : PySem.Scope } : Scope).names.lookup (Str.ofString "_law_k") = some NameKind.local := by decide +kernel
theorem lk_law_book_c1__law_kinds : ({ kind := PySem.ScopeKind.function, names := [ (PySem.Str.ofString ".0", PySem.NameKind.local), (PySem.Str.ofString "_law_k", PySem.NameKind.local), (PySem.Str.ofString "_law_draw", PySem.NameKind.globalImplicit), (PySem.Str.ofString "len", PySem.NameKind.globalImplicit), (PySem.Str.ofString "_law_kinds", PySem.NameKind.free), (PySem.Str.ofString "_law_pot_here", PySem.NameKind.free)], isGenerator := false, isCoroutine := false, more := [] : PySem.Scope } : Scope).names.lookup (Str.ofString "_law_kinds") = some NameKind.free := by decide +kernel
theorem lk_law_book_c1__law_pot_here : ({ kind := PySem.ScopeKind.function, names := [ (PySem.Str.ofString ".0", PySem.NameKind.local), (PySem.Str.ofString "_law_k", PySem.NameKind.local), (PySem.Str.ofString "_law_draw", PySem.NameKind.globalImplicit), (PySem.Str.ofString "len", PySem.NameKind.globalImplicit), (PySem.Str.ofString "_law_kinds", PySem.NameKind.free), (PySem.Str.ofString "_law_pot_here", PySem.NameKind.free)], isGenerator := false, isCoroutine := false, more := [] : PySem.Scope } : Scope).names.lookup (Str.ofString "_law_pot_here") = some NameKind.free := by decide +kernel
theorem lk_law_book_c1_len : ({ kind := PySem.ScopeKind.function, names := [ (PySem.Str.ofString ".0", PySem.NameKind.local), (PySem.Str.ofString "_law_k", PySem.NameKind.local), (PySem.Str.ofString "_law_draw", PySem.NameKind.globalImplicit), (PySem.Str.ofString "len", PySem.NameKind.globalImplicit), (PySem.Str.ofString "_law_kinds", PySem.NameKind.free), (PySem.Str.ofString "_law_pot_here", PySem.NameKind.free)], isGenerator := false, isCoroutine := false, more := [] : PySem.Scope } : Scope).names.lookup (Str.ofString "len") = some NameKind.globalImplicit := by decide +kernel
def spBook : Sp := fun vs H Q _ => ∃ (p : Addr) (mk ms : Nat), vs = [.ref p, .int mk, .int ms] ∧ PotAt H p ∧ 1 ≤ mk ∧ mk ≤ 4 ∧ ms ≤ 8 ∧
  ∀ v H' ks ts fs, RdV (fun a => H a = none) H' v (bookL ks ts fs) → BookOk ks ts fs → ks.length ≤ mk → ts.length + fs.length ≤ ms → Went p H H' → Q v H'
theorem ok_book (F : FunAt K mg "_law_book" s_law_book ["_law_pot_here", "_law_most_kinds", "_law_most_signs"]) (Z : Bl mg) (D_law_draw : Def P w K mg base "_law_draw" 1 ["_law_pot_here", "_law_many"] spDraw)
    (D_law_unlike : Def P w K mg base "_law_unlike" 2 ["_law_pot_here", "_law_many", "_law_menu"] (spUnlike (K := K))) (D_law_words : Def P w K mg base "_law_words" 2 ["_law_pot_here", "_law_some"] (spWords (K := K))) :
    Def P w K mg base "_law_book" 3 ["_law_pot_here", "_law_most_kinds", "_law_most_signs"] spBook := by
  have SC := sc_law_book
  refine F.mk' (k := 2) sc_law_book (fun vs H Q E h => ?_) (fun f cdv A outer s H vs Q E hr h => ?_)
  · obtain ⟨p, mk, ms, rfl, _⟩ := h
    rfl
  · obtain ⟨p, mk, ms, rfl, hp, hm1, hm4, hms, q⟩ := h
    refine' ⟨_, ?derivation, ?_⟩
    case derivation =>
      refine' pss_cons ?h0 ?h1
      case h0 =>
        refine' ps_set (i := 3) (x := Str.ofString "_law_menu") ?h2 ?h3 ?h4 ?h5 ?h6 ?h7
        case h2 => exact SC.nd
        case h3 => exact rfl
        case h4 => exact (Or.inl lk_law_book__law_menu)
        case h5 =>
          refine' pe_lst ?h8
          case h8 =>
            refine' pa_strs ?h9
            case h9 => exact (by repeat constructor)
        case h6 => rfl
        case h7 => exact .inl rfl
      case h1 =>
        refine' pss_cons ?h10 ?h11
        case h10 =>
          refine' ps_set (i := 4) (x := Str.ofString "_law_kinds") ?h12 ?h13 ?h14 ?h15 ?h16 ?h17
          case h12 => exact SC.nd
          case h13 => exact rfl
          case h14 => exact (Or.inr lk_law_book__law_kinds)
          case h15 =>
            refine' pe_def (hdb := nd_KC__law_unlike) ?h18 ?h19 ?h20 ?h21 ?h22 ?h23
            case h18 => exact D_law_unlike
            case h19 => exact (hr.mono (by decide))
            case h20 => exact lk_law_book__law_unlike
            case h21 =>
              refine' pa_cons ?h24 ?h25 ?h26
              case h24 => exact (pq 0 (x := Str.ofString "_law_pot_here") (visC lk_law_book__law_pot_here) nd_KC__law_pot_here nc_KC__law_pot_here)
              case h25 =>
                refine' pa_cons ?h27 ?h28 ?h29
                case h27 =>
                  refine' pe_op ?h30 ?h31 ?h32
                  case h30 => exact op_add
                  case h31 => exact pe_int
                  case h32 =>
                    refine' pe_def (hdb := nd_KC__law_draw) ?h33 ?h34 ?h35 ?h36 ?h37 ?h38
                    case h33 => exact D_law_draw
                    case h34 => exact (hr.mono (by decide))
                    case h35 => exact lk_law_book__law_draw
                    case h36 =>
                      refine' pa_cons ?h39 ?h40 ?h41
                      case h39 => exact (pq 0 (x := Str.ofString "_law_pot_here") (visC lk_law_book__law_pot_here) nd_KC__law_pot_here nc_KC__law_pot_here)
                      case h40 =>
                        refine' pa_cons ?h42 ?h43 ?h44
                        case h42 => exact (pq 1 (x := Str.ofString "_law_most_kinds") (visL lk_law_book__law_most_kinds) nd_KC__law_most_kinds nc_KC__law_most_kinds)
                        case h43 => exact pa_nil
                        case h44 => rfl
                      case h41 => rfl
                    case h37 => rfl
                    case h38 => rfl
                case h28 =>
                  refine' pa_cons ?h45 ?h46 ?h47
                  case h45 => exact (pq 3 (x := Str.ofString "_law_menu") (visL lk_law_book__law_menu) nd_KC__law_menu nc_KC__law_menu)
                  case h46 => exact pa_nil
                  case h47 => rfl
                case h29 => rfl
              case h26 => rfl
            case h22 => rfl
            case h23 => rfl
          case h16 => rfl
          case h17 => exact .inl rfl
        case h11 =>
          refine' pss_cons ?h48 ?h49
          case h48 =>
            refine' ps_if ?h50 ?h51 ?h52
            case h50 =>
              refine' pt_cmpR ?h53 ?h54 ?h55 ?h56
              case h53 => exact op_eq
              case h54 =>
                refine' pe_def (hdb := nd_KC__law_draw) ?h57 ?h58 ?h59 ?h60 ?h61 ?h62
                case h57 => exact D_law_draw
                case h58 => exact (hr.mono (by decide))
                case h59 => exact lk_law_book__law_draw
                case h60 =>
                  refine' pa_cons ?h63 ?h64 ?h65
                  case h63 => exact (pq 0 (x := Str.ofString "_law_pot_here") (visC lk_law_book__law_pot_here) nd_KC__law_pot_here nc_KC__law_pot_here)
                  case h64 =>
                    refine' pa_cons ?h66 ?h67 ?h68
                    case h66 => exact pe_int
                    case h67 => exact pa_nil
                    case h68 => rfl
                  case h65 => rfl
                case h61 => rfl
                case h62 => rfl
              case h55 => exact pe_int
              case h56 => exact (nomark _)
            case h51 =>
              refine' pss_one ?h69
              case h69 =>
                refine' ps_set (i := 4) (x := Str.ofString "_law_kinds") ?h70 ?h71 ?h72 ?h73 ?h74 ?h75
                case h70 => exact SC.nd
                case h71 => exact rfl
                case h72 => exact (Or.inr lk_law_book__law_kinds)
                case h73 =>
                  refine' pe_def (hdb := nd_KC__law_words) ?h76 ?h77 ?h78 ?h79 ?h80 ?h81
                  case h76 => exact D_law_words
                  case h77 => exact (hr.mono (by decide))
                  case h78 => exact lk_law_book__law_words
                  case h79 =>
                    refine' pa_cons ?h82 ?h83 ?h84
                    case h82 => exact (pq 0 (x := Str.ofString "_law_pot_here") (visC lk_law_book__law_pot_here) nd_KC__law_pot_here nc_KC__law_pot_here)
                    case h83 =>
                      refine' pa_cons ?h85 ?h86 ?h87
                      case h85 => exact (pq 4 (x := Str.ofString "_law_kinds") (visC lk_law_book__law_kinds) nd_KC__law_kinds nc_KC__law_kinds)
                      case h86 => exact pa_nil
                      case h87 => rfl
                    case h84 => rfl
                  case h80 => rfl
                  case h81 => rfl
                case h74 => rfl
                case h75 => exact .inl rfl
            case h52 => exact pss_nil
          case h49 =>
            refine' pss_cons ?h88 ?h89
            case h88 =>
              refine' ps_set (i := 3) (x := Str.ofString "_law_menu") ?h90 ?h91 ?h92 ?h93 ?h94 ?h95
              case h90 => exact SC.nd
              case h91 => exact rfl
              case h92 => exact (Or.inl lk_law_book__law_menu)
              case h93 =>
                refine' pe_lst ?h96
                case h96 =>
                  refine' pa_strs ?h97
                  case h97 => exact (by repeat constructor)
              case h94 => rfl
              case h95 => exact .inl rfl
            case h89 =>
              refine' pss_cons ?h98 ?h99
              case h98 =>
                refine' ps_set (i := 5) (x := Str.ofString "_law_names") ?h100 ?h101 ?h102 ?h103 ?h104 ?h105
                case h100 => exact SC.nd
                case h101 => exact rfl
                case h102 => exact (Or.inl lk_law_book__law_names)
                case h103 =>
                  refine' pe_def (hdb := nd_KC__law_unlike) ?h106 ?h107 ?h108 ?h109 ?h110 ?h111
                  case h106 => exact D_law_unlike
                  case h107 => exact (hr.mono (by decide))
                  case h108 => exact lk_law_book__law_unlike
                  case h109 =>
                    refine' pa_cons ?h112 ?h113 ?h114
                    case h112 => exact (pq 0 (x := Str.ofString "_law_pot_here") (visC lk_law_book__law_pot_here) nd_KC__law_pot_here nc_KC__law_pot_here)
                    case h113 =>
                      refine' pa_cons ?h115 ?h116 ?h117
                      case h115 =>
                        refine' pe_def (hdb := nd_KC__law_draw) ?h118 ?h119 ?h120 ?h121 ?h122 ?h123
                        case h118 => exact D_law_draw
                        case h119 => exact (hr.mono (by decide))
                        case h120 => exact lk_law_book__law_draw
                        case h121 =>
                          refine' pa_cons ?h124 ?h125 ?h126
                          case h124 => exact (pq 0 (x := Str.ofString "_law_pot_here") (visC lk_law_book__law_pot_here) nd_KC__law_pot_here nc_KC__law_pot_here)
                          case h125 =>
                            refine' pa_cons ?h127 ?h128 ?h129
                            case h127 =>
                              refine' pe_op ?h130 ?h131 ?h132
                              case h130 => exact op_add
                              case h131 => exact (pq 2 (x := Str.ofString "_law_most_signs") (visL lk_law_book__law_most_signs) nd_KC__law_most_signs nc_KC__law_most_signs)
                              case h132 => exact pe_int
                            case h128 => exact pa_nil
                            case h129 => rfl
                          case h126 => rfl
                        case h122 => rfl
                        case h123 => rfl
                      case h116 =>
                        refine' pa_cons ?h133 ?h134 ?h135
                        case h133 => exact (pq 3 (x := Str.ofString "_law_menu") (visL lk_law_book__law_menu) nd_KC__law_menu nc_KC__law_menu)
                        case h134 => exact pa_nil
                        case h135 => rfl
                      case h117 => rfl
                    case h114 => rfl
                  case h110 => rfl
                  case h111 => rfl
                case h104 => rfl
                case h105 => exact .inl rfl
              case h99 =>
                refine' pss_cons ?h136 ?h137
                case h136 =>
                  refine' ps_if ?h138 ?h139 ?h140
                  case h138 =>
                    refine' pt_cmpR ?h141 ?h142 ?h143 ?h144
                    case h141 => exact op_eq
                    case h142 =>
                      refine' pe_def (hdb := nd_KC__law_draw) ?h145 ?h146 ?h147 ?h148 ?h149 ?h150
                      case h145 => exact D_law_draw
                      case h146 => exact (hr.mono (by decide))
                      case h147 => exact lk_law_book__law_draw
                      case h148 =>
                        refine' pa_cons ?h151 ?h152 ?h153
                        case h151 => exact (pq 0 (x := Str.ofString "_law_pot_here") (visC lk_law_book__law_pot_here) nd_KC__law_pot_here nc_KC__law_pot_here)
                        case h152 =>
                          refine' pa_cons ?h154 ?h155 ?h156
                          case h154 => exact pe_int
                          case h155 => exact pa_nil
                          case h156 => rfl
                        case h153 => rfl
                      case h149 => rfl
                      case h150 => rfl
                    case h143 => exact pe_int
                    case h144 => exact (nomark _)
                  case h139 =>
                    refine' pss_one ?h157
                    case h157 =>
                      refine' ps_set (i := 5) (x := Str.ofString "_law_names") ?h158 ?h159 ?h160 ?h161 ?h162 ?h163
                      case h158 => exact SC.nd
                      case h159 => exact rfl
                      case h160 => exact (Or.inl lk_law_book__law_names)
                      case h161 =>
                        refine' pe_def (hdb := nd_KC__law_words) ?h164 ?h165 ?h166 ?h167 ?h168 ?h169
                        case h164 => exact D_law_words
                        case h165 => exact (hr.mono (by decide))
                        case h166 => exact lk_law_book__law_words
                        case h167 =>
                          refine' pa_cons ?h170 ?h171 ?h172
                          case h170 => exact (pq 0 (x := Str.ofString "_law_pot_here") (visC lk_law_book__law_pot_here) nd_KC__law_pot_here nc_KC__law_pot_here)
                          case h171 =>
                            refine' pa_cons ?h173 ?h174 ?h175
                            case h173 => exact (pq 5 (x := Str.ofString "_law_names") (visL lk_law_book__law_names) nd_KC__law_names nc_KC__law_names)
                            case h174 => exact pa_nil
                            case h175 => rfl
                          case h172 => rfl
                        case h168 => rfl
                        case h169 => rfl
                      case h162 => rfl
                      case h163 => exact .inl rfl
                  case h140 => exact pss_nil
                case h137 =>
                  refine' pss_cons ?h176 ?h177
                  case h176 =>
                    refine' ps_set (i := 6) (x := Str.ofString "_law_ties") ?h178 ?h179 ?h180 ?h181 ?h182 ?h183
                    case h178 => exact SC.nd
                    case h179 => exact rfl
                    case h180 => exact (Or.inl lk_law_book__law_ties)
                    case h181 =>
                      refine' pe_lst ?h184
                      case h184 => exact pa_nil
                    case h182 => rfl
                    case h183 => exact .inl rfl
                  case h177 =>
                    refine' pss_cons ?h185 ?h186
                    case h185 =>
                      refine' ps_set (i := 7) (x := Str.ofString "_law_functions") ?h187 ?h188 ?h189 ?h190 ?h191 ?h192
                      case h187 => exact SC.nd
                      case h188 => exact rfl
                      case h189 => exact (Or.inl lk_law_book__law_functions)
                      case h190 =>
                        refine' pe_lst ?h193
                        case h193 => exact pa_nil
                      case h191 => rfl
                      case h192 => exact .inl rfl
                    case h186 =>
                      refine' pss_cons ?h194 ?h195
                      case h194 =>
                        refine' ps_for ?h196 ?h197 ?h198 ?h199 ?h200 ?h201
                        case h196 => exact PassesOwn.never
                        case h197 => exact rfl
                        case h198 =>
                          refine' pi_list ?h202
                          case h202 => exact (pq 5 (x := Str.ofString "_law_names") (visL lk_law_book__law_names) nd_KC__law_names nc_KC__law_names)
                        case h199 =>
                          refine' pg_name (i := 8) (x := Str.ofString "_law_name") ?h203 ?h204 ?h205 ?h206
                          case h203 => exact SC.nd
                          case h204 => exact rfl
                          case h205 => exact (Or.inl lk_law_book__law_name)
                          case h206 => exact (.inl rfl)
                        case h200 =>
                          refine' pss_cons ?h207 ?h208
                          case h207 =>
                            refine' ps_setComp (i := 9) (x := Str.ofString "_law_places") ?h209 ?h210 ?h211 ?h212 ?h213 ?h214 ?h215 ?h216 ?h217 ?h218 ?h219 ?h220
                            case h209 => exact SC.nd
                            case h210 => exact rfl
                            case h211 => exact (Or.inl lk_law_book__law_places)
                            case h212 => exact rfl
                            case h213 => exact noxe
                            case h214 => exact rfl
                            case h215 => exact sp_law_book_1.at
                            case h216 =>
                              refine' pi_range1 ?h221 ?h222 ?h223 ?h224
                              case h221 => exact lk_law_book_range
                              case h222 => exact Z.n_range
                              case h223 =>
                                refine' pa_cons ?h225 ?h226 ?h227
                                case h225 =>
                                  refine' pe_ix ?h228 ?h229 ?h230 ?h231
                                  case h228 => exact ix_list
                                  case h229 =>
                                    refine' pe_lst ?h232
                                    case h232 =>
                                      refine' pa_cons ?h233 ?h234 ?h235
                                      case h233 => exact pe_int
                                      case h234 =>
                                        refine' pa_cons ?h236 ?h237 ?h238
                                        case h236 => exact pe_int
                                        case h237 =>
                                          refine' pa_cons ?h239 ?h240 ?h241
                                          case h239 => exact pe_int
                                          case h240 =>
                                            refine' pa_cons ?h242 ?h243 ?h244
                                            case h242 => exact pe_int
                                            case h243 => exact pa_nil
                                            case h244 => rfl
                                          case h241 => rfl
                                        case h238 => rfl
                                      case h235 => rfl
                                  case h230 =>
                                    refine' pe_def (hdb := nd_KC__law_draw) ?h245 ?h246 ?h247 ?h248 ?h249 ?h250
                                    case h245 => exact D_law_draw
                                    case h246 => exact (hr.mono (by decide))
                                    case h247 => exact lk_law_book__law_draw
                                    case h248 =>
                                      refine' pa_cons ?h251 ?h252 ?h253
                                      case h251 => exact (pq 0 (x := Str.ofString "_law_pot_here") (visC lk_law_book__law_pot_here) nd_KC__law_pot_here nc_KC__law_pot_here)
                                      case h252 =>
                                        refine' pa_cons ?h254 ?h255 ?h256
                                        case h254 => exact pe_int
                                        case h255 => exact pa_nil
                                        case h256 => rfl
                                      case h253 => rfl
                                    case h249 => rfl
                                    case h250 => rfl
                                  case h231 =>
                                    intro _ _
                                    exact rfl
                                case h226 => exact pa_nil
                                case h227 => rfl
                              case h224 => rfl
                            case h217 =>
                              intro _ _ _ _ _
                              refine' pg_name (i := 0) ?h257 ?h258 ?h259 ?h260
                              case h257 => exact sp_law_book_1.nd
                              case h258 => exact rfl
                              case h259 => exact (locO lk_law_book_c1__law_k)
                              case h260 => exact (.inr (lookup_relabel_local lk_law_book_c1__law_k))
                            case h218 =>
                              intro _ _ _ _ _
                              refine' pe_ix ?h261 ?h262 ?h263 ?h264
                              case h261 => exact ix_list
                              case h262 => exact (pq 5 (x := Str.ofString "_law_kinds") (visF lk_law_book_c1__law_kinds) nd_KC__law_kinds nc_KC__law_kinds)
                              case h263 =>
                                refine' pe_def (hdb := nd_KC__law_draw) ?h265 ?h266 ?h267 ?h268 ?h269 ?h270
                                case h265 => exact D_law_draw
                                case h266 => exact (hr.mono (by decide))
                                case h267 => exact (glO lk_law_book_c1__law_draw)
                                case h268 =>
                                  refine' pa_cons ?h271 ?h272 ?h273
                                  case h271 => exact (pq 1 (x := Str.ofString "_law_pot_here") (visF lk_law_book_c1__law_pot_here) nd_KC__law_pot_here nc_KC__law_pot_here)
                                  case h272 =>
                                    refine' pa_cons ?h274 ?h275 ?h276
                                    case h274 =>
                                      refine' pe_callB (hn := nn_KC_len) (hdb := nd_KC_len) ?h277 ?h278 ?h279 ?h280 ?h281 ?h282 ?h283
                                      case h277 => exact call_len_seq
                                      case h278 => exact (glO lk_law_book_c1_len)
                                      case h279 => exact Z.n_len
                                      case h280 => exact bt_len
                                      case h281 =>
                                        refine' pa_cons ?h284 ?h285 ?h286
                                        case h284 => exact (pq 5 (x := Str.ofString "_law_kinds") (visF lk_law_book_c1__law_kinds) nd_KC__law_kinds nc_KC__law_kinds)
                                        case h285 => exact pa_nil
                                        case h286 => rfl
                                      case h282 => rfl
                                      case h283 => rfl
                                    case h275 => exact pa_nil
                                    case h276 => rfl
                                  case h273 => rfl
                                case h269 => rfl
                                case h270 => rfl
                              case h264 =>
                                intro _ _
                                exact rfl
                            case h219 => intro _; rfl
                            case h220 => exact .inl rfl
                          case h208 =>
                            refine' pss_one ?h287
                            case h287 =>
                              refine' ps_if ?h288 ?h289 ?h290
                              case h288 =>
                                refine' pt_cmpR ?h291 ?h292 ?h293 ?h294
                                case h291 => exact op_lt
                                case h292 =>
                                  refine' pe_def (hdb := nd_KC__law_draw) ?h295 ?h296 ?h297 ?h298 ?h299 ?h300
                                  case h295 => exact D_law_draw
                                  case h296 => exact (hr.mono (by decide))
                                  case h297 => exact lk_law_book__law_draw
                                  case h298 =>
                                    refine' pa_cons ?h301 ?h302 ?h303
                                    case h301 => exact (pq 0 (x := Str.ofString "_law_pot_here") (visC lk_law_book__law_pot_here) nd_KC__law_pot_here nc_KC__law_pot_here)
                                    case h302 =>
                                      refine' pa_cons ?h304 ?h305 ?h306
                                      case h304 => exact pe_int
                                      case h305 => exact pa_nil
                                      case h306 => rfl
                                    case h303 => rfl
                                  case h299 => rfl
                                  case h300 => rfl
                                case h293 => exact pe_int
                                case h294 => exact (nomark _)
                              case h289 =>
                                refine' pss_one ?h307
                                case h307 =>
                                  refine' ps_expr ?h308 ?h309
                                  case h308 =>
                                    refine' pe_bm ?h310 ?h311 ?h312 ?h313 ?h314 ?h315 ?h316 ?h317 ?h318 ?h319 ?h320
                                    case h310 => exact PySem.F.plainAttrs_list
                                    case h311 => exact PySem.F.slot_list_append
                                    case h312 => exact PySem.F.type_list_append
                                    case h313 => exact mt_append
                                    case h314 => exact (pq 6 (x := Str.ofString "_law_ties") (visL lk_law_book__law_ties) nd_KC__law_ties nc_KC__law_ties)
                                    case h315 =>
                                      refine' pa_cons ?h321 ?h322 ?h323
                                      case h321 =>
                                        refine' pe_tup ?h324
                                        case h324 =>
                                          refine' pa_cons ?h325 ?h326 ?h327
                                          case h325 => exact (pq 8 (x := Str.ofString "_law_name") (visL lk_law_book__law_name) nd_KC__law_name nc_KC__law_name)
                                          case h326 =>
                                            refine' pa_cons ?h328 ?h329 ?h330
                                            case h328 => exact (pq 9 (x := Str.ofString "_law_places") (visL lk_law_book__law_places) nd_KC__law_places nc_KC__law_places)
                                            case h329 => exact pa_nil
                                            case h330 => rfl
                                          case h327 => rfl
                                      case h322 => exact pa_nil
                                      case h323 => rfl
                                    case h316 => rfl
                                    case h317 => rfl
                                    case h318 => rfl
                                    case h319 => rfl
                                    case h320 => rfl
                                  case h309 => rfl
                              case h290 =>
                                refine' pss_one ?h331
                                case h331 =>
                                  refine' ps_expr ?h332 ?h333
                                  case h332 =>
                                    refine' pe_bm ?h334 ?h335 ?h336 ?h337 ?h338 ?h339 ?h340 ?h341 ?h342 ?h343 ?h344
                                    case h334 => exact PySem.F.plainAttrs_list
                                    case h335 => exact PySem.F.slot_list_append
                                    case h336 => exact PySem.F.type_list_append
                                    case h337 => exact mt_append
                                    case h338 => exact (pq 7 (x := Str.ofString "_law_functions") (visL lk_law_book__law_functions) nd_KC__law_functions nc_KC__law_functions)
                                    case h339 =>
                                      refine' pa_cons ?h345 ?h346 ?h347
                                      case h345 =>
                                        refine' pe_tup ?h348
                                        case h348 =>
                                          refine' pa_cons ?h349 ?h350 ?h351
                                          case h349 => exact (pq 8 (x := Str.ofString "_law_name") (visL lk_law_book__law_name) nd_KC__law_name nc_KC__law_name)
                                          case h350 =>
                                            refine' pa_cons ?h352 ?h353 ?h354
                                            case h352 => exact (pq 9 (x := Str.ofString "_law_places") (visL lk_law_book__law_places) nd_KC__law_places nc_KC__law_places)
                                            case h353 =>
                                              refine' pa_cons ?h355 ?h356 ?h357
                                              case h355 =>
                                                refine' pe_ix ?h358 ?h359 ?h360 ?h361
                                                case h358 => exact ix_list
                                                case h359 => exact (pq 4 (x := Str.ofString "_law_kinds") (visC lk_law_book__law_kinds) nd_KC__law_kinds nc_KC__law_kinds)
                                                case h360 =>
                                                  refine' pe_def (hdb := nd_KC__law_draw) ?h362 ?h363 ?h364 ?h365 ?h366 ?h367
                                                  case h362 => exact D_law_draw
                                                  case h363 => exact (hr.mono (by decide))
                                                  case h364 => exact lk_law_book__law_draw
                                                  case h365 =>
                                                    refine' pa_cons ?h368 ?h369 ?h370
                                                    case h368 => exact (pq 0 (x := Str.ofString "_law_pot_here") (visC lk_law_book__law_pot_here) nd_KC__law_pot_here nc_KC__law_pot_here)
                                                    case h369 =>
                                                      refine' pa_cons ?h371 ?h372 ?h373
                                                      case h371 =>
                                                        refine' pe_callB (hn := nn_KC_len) (hdb := nd_KC_len) ?h374 ?h375 ?h376 ?h377 ?h378 ?h379 ?h380
                                                        case h374 => exact call_len_seq
                                                        case h375 => exact lk_law_book_len
                                                        case h376 => exact Z.n_len
                                                        case h377 => exact bt_len
                                                        case h378 =>
                                                          refine' pa_cons ?h381 ?h382 ?h383
                                                          case h381 => exact (pq 4 (x := Str.ofString "_law_kinds") (visC lk_law_book__law_kinds) nd_KC__law_kinds nc_KC__law_kinds)
                                                          case h382 => exact pa_nil
                                                          case h383 => rfl
                                                        case h379 => rfl
                                                        case h380 => rfl
                                                      case h372 => exact pa_nil
                                                      case h373 => rfl
                                                    case h370 => rfl
                                                  case h366 => rfl
                                                  case h367 => rfl
                                                case h361 =>
                                                  intro _ _
                                                  exact rfl
                                              case h356 => exact pa_nil
                                              case h357 => rfl
                                            case h354 => rfl
                                          case h351 => rfl
                                      case h346 => exact pa_nil
                                      case h347 => rfl
                                    case h340 => rfl
                                    case h341 => rfl
                                    case h342 => rfl
                                    case h343 => rfl
                                    case h344 => rfl
                                  case h333 => rfl
                        case h201 => intro _; rfl
                      case h195 =>
                        refine' pss_one ?h384
                        case h384 =>
                          refine' ps_ret ?h385
                          case h385 =>
                            refine' pe_tup ?h386
                            case h386 =>
                              refine' pa_cons ?h387 ?h388 ?h389
                              case h387 => exact (pq 4 (x := Str.ofString "_law_kinds") (visC lk_law_book__law_kinds) nd_KC__law_kinds nc_KC__law_kinds)
                              case h388 =>
                                refine' pa_cons ?h390 ?h391 ?h392
                                case h390 => exact (pq 6 (x := Str.ofString "_law_ties") (visL lk_law_book__law_ties) nd_KC__law_ties nc_KC__law_ties)
                                case h391 =>
                                  refine' pa_cons ?h393 ?h394 ?h395
                                  case h393 => exact (pq 7 (x := Str.ofString "_law_functions") (visL lk_law_book__law_functions) nd_KC__law_functions nc_KC__law_functions)
                                  case h394 => exact pa_nil
                                  case h395 => rfl
                                case h392 => rfl
                              case h389 => rfl
    -- the kinds
    refine ⟨by show 11 ≤ sizeLine; decide, fun M1 hM1 => ?_⟩
    have W1 := (Went.refl hp).new hM1 (.lst (menuK.map V.str))
    refine ⟨_, rfl, _, rfl, _, rfl, p, _, rfl, W1.pot, by omega, by omega, fun r1 H1 a0 a1 hp1 s1 => ?_⟩
    have W2 := W1.mk1 hp1 s1
    have hM1' : H1 M1 = some (.lst (menuK.map V.str)) := s1 M1 _ (Ne.symm ((Went.refl hp).ne hM1)) upd_same
    refine ⟨_, _, rfl, rfl, _, rfl, p, M1, (1 + r1).toNat, menuK, ?_, hp1, SqL.of hM1', ?_, by decide, menuK_nd, fun kA ks H2 hkA hkA2 hkl hknd hkin W3 => ?_⟩
    · show [V.ref p, V.int (1 + r1), V.ref M1] = _
      rw [Int.toNat_of_nonneg (by omega)]
    · show (1 + r1).toNat ≤ 11
      omega
    have W4 := W2.trans W3
    have kfree : H kA = none := W2.free hkA
    refine ⟨_, rfl, p, _, rfl, W4.pot, by decide, by decide, fun r2 H3 b0 b1 hp3 s3 => ?_⟩
    refine ⟨rfl, _, rfl, ?_⟩
    have W5 := W4.mk1 hp3 s3
    have npk : kA ≠ p := by rintro rfl; obtain ⟨o, e⟩ := hp.some; rw [kfree] at e; cases e
    have hk3 : H3 kA = some (.lst (ks.map V.str)) := s3 _ _ npk hkA2
    -- behind the test: some list of kinds
    have key : ∀ (D : Ends) (c : Bool), (∀ (kA : Addr) (ks : List Str) (H3 : Hp), H kA = none → H3 kA = some (.lst (ks.map V.str)) → ks.length = (1 + r1).toNat → ks.Nodup → (∀ k ∈ ks, isNm k) → Went p H H3 →
          D.nx [some (.ref p), some (.int mk), some (.int ms), some (.ref M1), some (.ref kA), none, none, none, none, none] H3) →
        if c = true then tAsg (tCall (spWords (K := K)) [] E0 (tCons (tVar 0) (tCons (tVar 4) tNil))) (gName 4) D [some (.ref p), some (.int mk), some (.int ms), some (.ref M1), some (.ref kA), none, none, none, none, none] H3
        else tNext D [some (.ref p), some (.int mk), some (.int ms), some (.ref M1), some (.ref kA), none, none, none, none, none] H3 := by
      intro D c k
      cases c
      · rw [if_neg Bool.false_ne_true]
        exact k kA ks H3 kfree hk3 hkl hknd (fun k hk => menuK_nm k (hkin k hk)) W5
      · rw [if_pos rfl]
        refine ⟨_, rfl, _, rfl, p, kA, _, rfl, hp3, SqL.of hk3, Ne.symm npk, by rw [List.length_map]; omega, fun kB kt H4 hkB hkB2 hl4 hnd4 hsg4 W6 => ?_⟩
        exact k kB kt H4 (W5.free hkB) hkB2 (by rw [hl4, List.length_map]; exact hkl) hnd4 (fun k hk => (hsg4 k hk).1) (W5.trans W6)
    refine key _ _ ?_
    clear key hk3 npk W5 hp3 s3 b0 b1 W4 W3 hkin hknd hkl hkA2 hkA kfree kA ks H3 r2
    intro kA ks H3 kfree hk3 hkl hknd hknm W5
    have npk : kA ≠ p := by rintro rfl; obtain ⟨o, e⟩ := hp.some; rw [kfree] at e; cases e
    -- the names
    refine ⟨by show 13 ≤ sizeLine; decide, fun M2 hM2 => ?_⟩
    have W6 := W5.new hM2 (.lst (menuS.map V.str))
    have hk6 : (upd H3 M2 (.lst (menuS.map V.str))) kA = some (.lst (ks.map V.str)) := by rw [upd_ne (ne_of_none hk3 hM2)]; exact hk3
    refine ⟨_, rfl, _, rfl, _, rfl, _, _, rfl, rfl, p, _, rfl, W6.pot, by omega, by omega, fun r3 H7 c0 c1 hp7 s7 => ?_⟩
    have W7 := W6.mk1 hp7 s7
    have hM7 : H7 M2 = some (.lst (menuS.map V.str)) := s7 M2 _ (Ne.symm (W5.ne hM2)) upd_same
    have hk7 : H7 kA = some (.lst (ks.map V.str)) := s7 kA _ npk hk6
    refine ⟨_, rfl, p, M2, r3.toNat, menuS, ?_, hp7, SqL.of hM7, ?_, by decide, menuS_nd, fun nA ns H8 hnA hnA2 hnl hnnd hnin W8 => ?_⟩
    · show [V.ref p, V.int r3, V.ref M2] = _
      rw [Int.toNat_of_nonneg c0]
    · show r3.toNat ≤ 13
      omega
    have W9 := W7.trans W8
    have nfree : H nA = none := W7.free hnA
    have npn : nA ≠ p := by rintro rfl; obtain ⟨o, e⟩ := hp.some; rw [nfree] at e; cases e
    have hk8 : H8 kA = some (.lst (ks.map V.str)) := W8.at npk hk7
    refine ⟨_, rfl, p, _, rfl, W9.pot, by decide, by decide, fun r4 H9 d0 d1 hp9 s9 => ?_⟩
    refine ⟨rfl, _, rfl, ?_⟩
    have W10 := W9.mk1 hp9 s9
    have hn9 : H9 nA = some (.lst (ns.map V.str)) := s9 _ _ npn hnA2
    have hk9 : H9 kA = some (.lst (ks.map V.str)) := s9 _ _ npk hk8
    have key : ∀ (D : Ends) (c : Bool), (∀ (nA : Addr) (ns : List Str) (H3 : Hp), H nA = none → H3 nA = some (.lst (ns.map V.str)) → H3 kA = some (.lst (ks.map V.str)) → ns.length = r3.toNat → ns.Nodup → (∀ k ∈ ns, isSg k) → Went p H H3 →
          D.nx [some (.ref p), some (.int mk), some (.int ms), some (.ref M2), some (.ref kA), some (.ref nA), none, none, none, none] H3) →
        if c = true then tAsg (tCall (spWords (K := K)) [] E0 (tCons (tVar 0) (tCons (tVar 5) tNil))) (gName 5) D [some (.ref p), some (.int mk), some (.int ms), some (.ref M2), some (.ref kA), some (.ref nA), none, none, none, none] H9
        else tNext D [some (.ref p), some (.int mk), some (.int ms), some (.ref M2), some (.ref kA), some (.ref nA), none, none, none, none] H9 := by
      intro D c k
      cases c
      · rw [if_neg Bool.false_ne_true]
        exact k nA ns H9 nfree hn9 hk9 hnl hnnd (fun k hk => menuS_sg k (hnin k hk)) W10
      · rw [if_pos rfl]
        refine ⟨_, rfl, _, rfl, p, nA, _, rfl, hp9, SqL.of hn9, Ne.symm npn, by rw [List.length_map]; omega, fun kB kt H4 hkB hkB2 hl4 hnd4 hsg4 W6 => ?_⟩
        exact k kB kt H4 (W10.free hkB) hkB2 (W6.at npk hk9) (by rw [hl4, List.length_map]; exact hnl) hnd4 hsg4 (W10.trans W6)
    refine key _ _ ?_
    clear key hk9 hn9 npn W10 hp9 s9 d0 d1 W9 W8 hnin hnnd hnl hnA2 hnA nfree nA ns H9 r4 hk8 H8
    intro nA ns H9 nfree hn9 hk9 hnl hnnd hnsg W10
    have npn : nA ≠ p := by rintro rfl; obtain ⟨o, e⟩ := hp.some; rw [nfree] at e; cases e
    -- ties = []; functions = []
    refine ⟨by show 0 ≤ sizeLine; decide, fun tA htA => ?_⟩
    have W11 := W10.new htA (.lst [])
    refine ⟨by show 0 ≤ sizeLine; decide, fun fA hfA => ?_⟩
    have W12 := W11.new hfA (.lst [])
    have tfree : H tA = none := W10.free htA
    have ffree : H fA = none := W11.free hfA
    have ntf : tA ≠ fA := ne_of_none upd_same hfA
    have hpt : p ≠ tA := W10.ne htA
    have hpf : p ≠ fA := W11.ne hfA
    have nkt : kA ≠ tA := ne_of_none hk9 htA
    have nkf : kA ≠ fA := ne_of_none (by rw [upd_ne nkt]; exact hk9) hfA
    have nnt : nA ≠ tA := ne_of_none hn9 htA
    have nnf : nA ≠ fA := ne_of_none (by rw [upd_ne nnt]; exact hn9) hfA
    have pne : ∀ a, H a = none → a ≠ p := fun a e => by rintro rfl; obtain ⟨o, e2⟩ := hp.some; rw [e] at e2; cases e2
    have keepR : ∀ {H2 H3 : Hp} {xs : List V} {ds : List PyData}, SameX p H2 H3 → RdA (fun a => H a = none ∧ a ≠ tA ∧ a ≠ fA) H2 xs ds → RdA (fun a => H a = none ∧ a ≠ tA ∧ a ≠ fA) H3 xs ds := fun s r => r.mono (fun _ z => z) fun a o z e => s a o (pne a z.1) e
    refine ⟨_, rfl, nA, rfl, ⟨_, SqL.of (by rw [upd_ne nnf, upd_ne nnt]; exact hn9)⟩, for_list (K := K) (a := nA) (xs := ns.map V.str) (fun i σ H2 => ∃ (ts : List TieR) (fs : List FunR) (tv fv : List V) (v8 v9 : Option V), σ = [some (.ref p), some (.int mk), some (.int ms), some (.ref M2), some (.ref kA), some (.ref nA), some (.ref tA), some (.ref fA), v8, v9] ∧
        H2 tA = some (.lst tv) ∧ RdA (fun a => H a = none ∧ a ≠ tA ∧ a ≠ fA) H2 tv (ts.map tieL) ∧ H2 fA = some (.lst fv) ∧ RdA (fun a => H a = none ∧ a ≠ tA ∧ a ≠ fA) H2 fv (fs.map funL) ∧
        (ts.map (·.nm) ++ fs.map (·.nm)).Perm (ns.take i) ∧ (∀ t ∈ ts, isSg t.nm ∧ t.ps.length ≤ 2 ∧ ∀ k ∈ t.ps, k ∈ ks) ∧ (∀ t ∈ fs, isSg t.nm ∧ t.ps.length ≤ 2 ∧ (∀ k ∈ t.ps, k ∈ ks) ∧ t.kd ∈ ks) ∧ H2 kA = some (.lst (ks.map V.str)) ∧ H2 nA = some (.lst (ns.map V.str)) ∧ Went p H H2)
      ⟨[], [], [], [], none, none, rfl, (by rw [upd_ne ntf]; exact upd_same), .nil, upd_same, .nil, (by simp), (fun _ h => nomatch h), (fun _ h => nomatch h), (by rw [upd_ne nkf, upd_ne nkt]; exact hk9), (by rw [upd_ne nnf, upd_ne nnt]; exact hn9), W12⟩
      (fun i σ H2 _ ⟨_, _, _, _, _, _, _, _, _, _, _, _, _, _, _, z, _⟩ => SqL.of z) ?_ ?_⟩
    · rintro i y σ H2 hi ⟨ts, fs, tv, fv, v8, v9, rfl, hT, rT, hF, rF, hperm, okT, okF, hK, hN, W⟩
      have hil : i < ns.length := by have := (List.getElem?_eq_some_iff.mp hi).1; simpa using this
      obtain rfl : y = V.str ns[i] := by
        have : (ns.map V.str)[i]? = some (V.str ns[i]) := by simp [hil]
        rw [this] at hi; exact (Option.some.inj hi).symm
      have lenT : ts.length + fs.length = i := by
        have := hperm.length_eq
        simp only [List.length_append, List.length_map, List.length_take] at this
        omega
      have tvl : tv.length = ts.length := by rw [rT.length, List.length_map]
      have fvl : fv.length = fs.length := by rw [rF.length, List.length_map]
      have n8 : ns.length ≤ 8 := by omega
      -- the number of places
      refine ⟨by show 4 ≤ sizeLine; decide, fun L hL => ?_⟩
      have V1 := (Went.refl W.pot).new hL (.lst [.int 0, .int 1, .int 1, .int 2])
      refine ⟨_, rfl, p, _, rfl, V1.pot, by decide, by decide, fun r5 H10 e0 e1 hp10 s10 => ?_⟩
      have V2 := V1.mk1 hp10 s10
      have hL10 : H10 L = some (.lst [.int 0, .int 1, .int 1, .int 2]) := s10 L _ (Ne.symm ((Went.refl W.pot).ne hL)) upd_same
      obtain ⟨c, hc, hc0, hc2⟩ : ∃ c : Int, atI [V.int 0, V.int 1, V.int 1, V.int 2] r5 = some (V.int c) ∧ 0 ≤ c ∧ c ≤ 2 := by
        have h4 : r5 = 0 ∨ r5 = 1 ∨ r5 = 2 ∨ r5 = 3 := by omega
        rcases h4 with rfl | rfl | rfl | rfl
        · exact ⟨0, rfl, by decide, by decide⟩
        · exact ⟨1, rfl, by decide, by decide⟩
        · exact ⟨1, rfl, by decide, by decide⟩
        · exact ⟨2, rfl, by decide, by decide⟩
      refine ⟨L, _, r5, _, rfl, rfl, SqL.of hL10, hc, c, rfl, by omega, by omega, ?_⟩
      intro cl C ex sc Hc
      refine comp_it1 c.toNat (fun j ys H11 => ∃ us : List Str, ys = us.map V.str ∧ (∀ u ∈ us, u ∈ ks) ∧ Went p H2 H11) (fun _ _ => True)
        ⟨[], rfl, (fun _ h => nomatch h), V2⟩ (Nat.le_trans (show c.toNat ≤ 100 by omega) (show 100 ≤ sizeLine by decide)) (fun i ys H1 hi _ _ => ⟨hi, fun x H' y => ⟨y.1, trivial⟩⟩) (fun _ _ _ _ => Nat.le_refl _) ?_ ?_
      · rintro j x ys H11 hj _ hy ⟨us, rfl, hus, V3⟩
        have hK11 : H11 kA = some (.lst (ks.map V.str)) := V3.at npk hK
        refine ⟨_, rfl, _, rfl, _, rfl, kA, _, rfl, .inl (SqL.of hK11), p, _, rfl, V3.pot, by rw [List.length_map]; omega, by rw [List.length_map]; omega, fun r6 H12 g0 g1 hp12 s12 => ?_⟩
        rw [List.length_map] at g1
        have hr6 : r6.toNat < ks.length := by omega
        refine ⟨kA, _, r6, V.str ks[r6.toNat], rfl, rfl, SqL.of (s12 kA _ npk hK11), atI_int g0 (by simp [hr6]), us ++ [ks[r6.toNat]], by simp, fun u hu => ?_, V3.mk1 hp12 s12⟩
        rcases List.mem_append.mp hu with hu | hu
        · exact hus u hu
        · rw [List.mem_singleton.mp hu]; exact List.getElem_mem hr6
      rintro ys H11 hy ⟨us, rfl, hus, V3⟩ D hD
      have hul : us.length ≤ 2 := by
        have : us.length = c.toNat := by simpa using hy
        omega
      have V4 := V3.new hD (.lst (us.map V.str))
      have W4 : Went p H (upd H11 D (.lst (us.map V.str))) := ⟨V4.pot, W.same.trans V4.same⟩
      refine ⟨_, rfl, p, _, rfl, V4.pot, by decide, by decide, fun r7 H13 k0 k1 hp13 s13 => ?_⟩
      refine ⟨_, _, rfl, rfl, _, rfl, ?_⟩
      have V5 := V4.mk1 hp13 s13
      have W5 : Went p H H13 := ⟨hp13, W4.same.trans s13⟩
      have hT13 : H13 tA = some (.lst tv) := V5.at (Ne.symm hpt) hT
      have hF13 : H13 fA = some (.lst fv) := V5.at (Ne.symm hpf) hF
      have hK13 : H13 kA = some (.lst (ks.map V.str)) := V5.at npk hK
      have hN13 : H13 nA = some (.lst (ns.map V.str)) := V5.at npn hN
      have rT13 := keepR V5.same rT
      have rF13 := keepR V5.same rF
      have nDp : D ≠ p := Ne.symm (V3.ne hD)
      have hD13 : H13 D = some (.lst (us.map V.str)) := s13 D _ nDp upd_same
      have hDfree : H D = none := (show Went p H H11 from ⟨V3.pot, W.same.trans V3.same⟩).free hD
      have nDt : D ≠ tA := by rintro rfl; rw [V3.at (Ne.symm hpt) hT] at hD; cases hD
      have nDf : D ≠ fA := by rintro rfl; rw [V3.at (Ne.symm hpf) hF] at hD; cases hD
      have ptake : ns.take (i + 1) = ns.take i ++ [ns[i]] := by rw [List.take_succ]; simp [hil]
      refine ite2 (fun _ => ?_) (fun _ => ?_)
      · -- ties.append((name, places))
        refine ⟨_, rfl, .inl ⟨rfl, _, SqL.of hT13⟩, _, rfl, _, rfl, by show 2 ≤ sizeLine; decide, fun T hTn => ?_⟩
        have nTp := W5.ne hTn
        have nTt : T ≠ tA := by rintro rfl; rw [hT13] at hTn; cases hTn
        have nTf : T ≠ fA := by rintro rfl; rw [hF13] at hTn; cases hTn
        have W6 := W5.new hTn (.tup [.str ns[i], .ref D])
        refine ⟨tA, tv, _, rfl, rfl, by rw [upd_ne (Ne.symm nTt)]; exact hT13, Nat.lt_of_lt_of_le (show tv.length < 100 by omega) (by decide), ?_⟩
        have W7 := W6.put hpt tfree (.lst (tv ++ [.ref T]))
        have st : ∀ a o, (H a = none ∧ a ≠ tA ∧ a ≠ fA) → H13 a = some o → (upd (upd H13 T (.tup [.str ns[i], .ref D])) tA (.lst (tv ++ [.ref T]))) a = some o := fun a o z e => by rw [upd_ne z.2.1, upd_ne (ne_of_none e hTn)]; exact e
        refine ⟨ts ++ [⟨ns[i], us⟩], fs, tv ++ [.ref T], fv, _, _, rfl, upd_same, ?_, ?_, ?_, ?_, ?_, okF, ?_, ?_, W7⟩
        · rw [List.map_append]
          refine (rT13.mono (fun _ z => z) st).snoc (.tup ⟨W5.free hTn, nTt, nTf⟩ (by rw [upd_ne nTt]; exact upd_same) (.cons (.str _) (.cons (.lst ⟨hDfree, nDt, nDf⟩ (st D _ ⟨hDfree, nDt, nDf⟩ hD13) (RdA.strs us)) .nil)))
        · rw [upd_ne (Ne.symm ntf), upd_ne (Ne.symm nTf)]; exact hF13
        · exact rF13.mono (fun _ z => z) st
        · rw [List.map_append, List.map_cons, List.map_nil, ptake, List.append_assoc]
          refine (List.Perm.append_left _ List.perm_append_comm).trans ?_
          rw [← List.append_assoc]
          exact List.Perm.append_right _ hperm
        · intro t ht
          rcases List.mem_append.mp ht with ht | ht
          · exact okT t ht
          · rw [List.mem_singleton.mp ht]; exact ⟨hnsg _ (List.getElem_mem hil), hul, hus⟩
        · rw [upd_ne nkt, upd_ne (ne_of_none hK13 hTn)]; exact hK13
        · rw [upd_ne nnt, upd_ne (ne_of_none hN13 hTn)]; exact hN13
      · -- functions.append((name, places, kinds[..]))
        refine ⟨_, rfl, .inl ⟨rfl, _, SqL.of hF13⟩, _, rfl, _, rfl, _, rfl, _, rfl, _, rfl, kA, _, rfl, .inl (SqL.of hK13), p, _, rfl, hp13, by rw [List.length_map]; omega, by rw [List.length_map]; omega, fun r8 H14 m0 m1 hp14 s14 => ?_⟩
        rw [List.length_map] at m1
        have hr8 : r8.toNat < ks.length := by omega
        have hK14 := s14 kA _ npk hK13
        have hT14 := s14 tA _ (Ne.symm hpt) hT13
        have hF14 := s14 fA _ (Ne.symm hpf) hF13
        have hN14 := s14 nA _ npn hN13
        have rT14 := keepR s14 rT13
        have rF14 := keepR s14 rF13
        have hD14 := s14 D _ nDp hD13
        have W6 := W5.mk1 hp14 s14
        refine ⟨kA, _, r8, V.str ks[r8.toNat], rfl, rfl, SqL.of hK14, atI_int m0 (by simp [hr8]), by show 3 ≤ sizeLine; decide, fun T hTn => ?_⟩
        have nTt : T ≠ tA := by rintro rfl; rw [hT14] at hTn; cases hTn
        have nTf : T ≠ fA := by rintro rfl; rw [hF14] at hTn; cases hTn
        have W7 := W6.new hTn (.tup [.str ns[i], .ref D, .str ks[r8.toNat]])
        refine ⟨fA, fv, _, rfl, rfl, by rw [upd_ne (Ne.symm nTf)]; exact hF14, Nat.lt_of_lt_of_le (show fv.length < 100 by omega) (by decide), ?_⟩
        have W8 := W7.put hpf ffree (.lst (fv ++ [.ref T]))
        have st : ∀ a o, (H a = none ∧ a ≠ tA ∧ a ≠ fA) → H14 a = some o → (upd (upd H14 T (.tup [.str ns[i], .ref D, .str ks[r8.toNat]])) fA (.lst (fv ++ [.ref T]))) a = some o := fun a o z e => by rw [upd_ne z.2.2, upd_ne (ne_of_none e hTn)]; exact e
        refine ⟨ts, fs ++ [⟨ns[i], us, ks[r8.toNat]⟩], tv, fv ++ [.ref T], _, _, rfl, ?_, ?_, upd_same, ?_, ?_, okT, ?_, ?_, ?_, W8⟩
        · rw [upd_ne ntf, upd_ne (Ne.symm nTt)]; exact hT14
        · exact rT14.mono (fun _ z => z) st
        · rw [List.map_append]
          refine (rF14.mono (fun _ z => z) st).snoc (.tup ⟨W6.free hTn, nTt, nTf⟩ (by rw [upd_ne nTf]; exact upd_same) (.cons (.str _) (.cons (.lst ⟨hDfree, nDt, nDf⟩ (st D _ ⟨hDfree, nDt, nDf⟩ hD14) (RdA.strs us)) (.cons (.str _) .nil))))
        · rw [List.map_append, List.map_cons, List.map_nil, ptake, ← List.append_assoc]
          exact List.Perm.append_right _ hperm
        · intro t ht
          rcases List.mem_append.mp ht with ht | ht
          · exact okF t ht
          · rw [List.mem_singleton.mp ht]; exact ⟨hnsg _ (List.getElem_mem hil), hul, hus, List.getElem_mem hr8⟩
        · rw [upd_ne nkf, upd_ne (ne_of_none hK14 hTn)]; exact hK14
        · rw [upd_ne nnf, upd_ne (ne_of_none hN14 hTn)]; exact hN14
    · rintro σ H2 ⟨ts, fs, tv, fv, v8, v9, rfl, hT, rT, hF, rF, hperm, okT, okF, hK, hN, W⟩
      rw [List.length_map, List.take_length] at hperm
      have lenT : ts.length + fs.length = ns.length := by
        have := hperm.length_eq
        simpa using this
      refine ⟨_, rfl, _, rfl, _, rfl, by show 3 ≤ sizeLine; decide, fun B hB => ?_⟩
      have hs := same_new hB (.tup [.ref kA, .ref tA, .ref fA])
      refine q _ _ ks ts fs (.tup (W.free hB) upd_same (.cons (.lst kfree (hs _ _ hK) (RdA.strs ks)) (.cons (.lst tfree (hs _ _ hT) (rT.mono (fun _ z => z.1) fun a o _ e => hs a o e)) (.cons (.lst ffree (hs _ _ hF) (rF.mono (fun _ z => z.1) fun a o _ e => hs a o e)) .nil))))
        ⟨hknd, by omega, by omega, hknm, (List.Perm.nodup_iff hperm).mpr hnnd, by omega, okT, okF⟩ (by omega) (by omega) (W.new hB _)
end
end Few

set_option Elab.async false
set_option linter.all false
set_option maxRecDepth 100000
set_option maxHeartbeats 1000000
namespace Few
open PySem L2
inductive AsD (ds : List PyData) : PyData → Prop where
  | l : AsD ds (.list ds)
  | t : AsD ds (.tuple ds)
/-- a sign: name, places, and the kind of values where it is a function -/
structure RowR where
  nm : Str
  ps : List Str
  rest : List Str
def rowL (r : RowR) : PyData := .tuple (.str r.nm :: .list (strsD r.ps) :: strsD r.rest)
def tieRow (t : TieR) : RowR := ⟨t.nm, t.ps, []⟩
def funRow (t : FunR) : RowR := ⟨t.nm, t.ps, [t.kd]⟩
def AsRow (r : RowR) (e : PyData) : Prop := ∃ pd, AsD (strsD r.ps) pd ∧ AsD (.str r.nm :: pd :: strsD r.rest) e
inductive AsRows : List RowR → List PyData → Prop where
  | nil : AsRows [] []
  | cons {r : RowR} {e : PyData} {rs : List RowR} {es : List PyData} : AsRow r e → AsRows rs es → AsRows (r :: rs) (e :: es)
theorem AsRows.snoc {r : RowR} {e : PyData} : ∀ {rs : List RowR} {es : List PyData}, AsRows rs es → AsRow r e → AsRows (rs ++ [r]) (es ++ [e])
  | _, _, .nil, h => .cons h .nil
  | _, _, .cons a t, h => .cons a (AsRows.snoc t h)
theorem AsRows.length : ∀ {rs : List RowR} {es : List PyData}, AsRows rs es → rs.length = es.length
  | _, _, .nil => rfl
  | _, _, .cons _ t => by rw [List.length_cons, List.length_cons, AsRows.length t]
theorem nd_KD__law_book_here : ((Str.ofString "_law_book_here" : Str) == ("__debug__" : Str)) = false := by decide +kernel
theorem nc_KD__law_book_here : ((Str.ofString "_law_book_here" : Str) == ("__classdict__" : Str)) = false := by decide +kernel
theorem nn_KD__law_book_here : (Str.ofString "_law_book_here" : Str) ≠ "__name__" := by decide +kernel
theorem nd_KD__law_draw : ((Str.ofString "_law_draw" : Str) == ("__debug__" : Str)) = false := by decide +kernel
theorem nc_KD__law_draw : ((Str.ofString "_law_draw" : Str) == ("__classdict__" : Str)) = false := by decide +kernel
theorem nn_KD__law_draw : (Str.ofString "_law_draw" : Str) ≠ "__name__" := by decide +kernel
theorem nd_KD__law_kind : ((Str.ofString "_law_kind" : Str) == ("__debug__" : Str)) = false := by decide +kernel
theorem nc_KD__law_kind : ((Str.ofString "_law_kind" : Str) == ("__classdict__" : Str)) = false := by decide +kernel
theorem nn_KD__law_kind : (Str.ofString "_law_kind" : Str) ≠ "__name__" := by decide +kernel
theorem nd_KD__law_name : ((Str.ofString "_law_name" : Str) == ("__debug__" : Str)) = false := by decide +kernel
theorem nc_KD__law_name : ((Str.ofString "_law_name" : Str) == ("__classdict__" : Str)) = false := by decide +kernel
theorem nn_KD__law_name : (Str.ofString "_law_name" : Str) ≠ "__name__" := by decide +kernel
theorem nd_KD__law_places : ((Str.ofString "_law_places" : Str) == ("__debug__" : Str)) = false := by decide +kernel
theorem nc_KD__law_places : ((Str.ofString "_law_places" : Str) == ("__classdict__" : Str)) = false := by decide +kernel
theorem nn_KD__law_places : (Str.ofString "_law_places" : Str) ≠ "__name__" := by decide +kernel
theorem nd_KD__law_pot_here : ((Str.ofString "_law_pot_here" : Str) == ("__debug__" : Str)) = false := by decide +kernel
theorem nc_KD__law_pot_here : ((Str.ofString "_law_pot_here" : Str) == ("__classdict__" : Str)) = false := by decide +kernel
theorem nn_KD__law_pot_here : (Str.ofString "_law_pot_here" : Str) ≠ "__name__" := by decide +kernel
theorem nd_KD__law_row : ((Str.ofString "_law_row" : Str) == ("__debug__" : Str)) = false := by decide +kernel
theorem nc_KD__law_row : ((Str.ofString "_law_row" : Str) == ("__classdict__" : Str)) = false := by decide +kernel
theorem nn_KD__law_row : (Str.ofString "_law_row" : Str) ≠ "__name__" := by decide +kernel
theorem nd_KD__law_ties : ((Str.ofString "_law_ties" : Str) == ("__debug__" : Str)) = false := by decide +kernel
theorem nc_KD__law_ties : ((Str.ofString "_law_ties" : Str) == ("__classdict__" : Str)) = false := by decide +kernel
theorem nn_KD__law_ties : (Str.ofString "_law_ties" : Str) ≠ "__name__" := by decide +kernel
theorem nd_KD_list : ((Str.ofString "list" : Str) == ("__debug__" : Str)) = false := by decide +kernel
theorem nc_KD_list : ((Str.ofString "list" : Str) == ("__classdict__" : Str)) = false := by decide +kernel
theorem nn_KD_list : (Str.ofString "list" : Str) ≠ "__name__" := by decide +kernel
theorem nd_KD_tuple : ((Str.ofString "tuple" : Str) == ("__debug__" : Str)) = false := by decide +kernel
theorem nc_KD_tuple : ((Str.ofString "tuple" : Str) == ("__classdict__" : Str)) = false := by decide +kernel
theorem nn_KD_tuple : (Str.ofString "tuple" : Str) ≠ "__name__" := by decide +kernel
section
variable {P : Program} {w : World} {K : PySem.W.Frag} {mg : Str → Option Value} {base : Heap}
abbrev s_law_as : Stmt := top 28
theorem sc_law_as : FnScope ["_law_pot_here", "_law_row"] ["_law_pot_here", "_law_row"] (defScope s_law_as) := ⟨rfl, rfl, rfl, by decide +kernel, rfl, by decide +kernel, by decide +kernel⟩
theorem lk_law_as__law_draw : (defScope s_law_as).names.lookup (Str.ofString "_law_draw") = some NameKind.globalImplicit := by decide +kernel
theorem lk_law_as__law_pot_here : (defScope s_law_as).names.lookup (Str.ofString "_law_pot_here") = some NameKind.local := by decide +kernel
theorem lk_law_as__law_row : (defScope s_law_as).names.lookup (Str.ofString "_law_row") = some NameKind.local := by decide +kernel
theorem lk_law_as_list : (defScope s_law_as).names.lookup (Str.ofString "list") = some NameKind.globalImplicit := by decide +kernel
theorem lk_law_as_tuple : (defScope s_law_as).names.lookup (Str.ofString "tuple") = some NameKind.globalImplicit := by decide +kernel
/-- a list handed on as a list or a tuple -/
def spAs : Sp := fun vs H Q _ => ∃ (p r : Addr) (xs : List V), vs = [.ref p, .ref r] ∧ PotAt H p ∧ H r = some (.lst xs) ∧
  ∀ l H', H l = none → (H' l = some (.lst xs) ∨ H' l = some (.tup xs)) → Went p H H' → Q (.ref l) H'
theorem ok_as (F : FunAt K mg "_law_as" s_law_as ["_law_pot_here", "_law_row"]) (Z : Bl mg) (D_law_draw : Def P w K mg base "_law_draw" 1 ["_law_pot_here", "_law_many"] spDraw) : Def P w K mg base "_law_as" 2 ["_law_pot_here", "_law_row"] spAs := by
  have SC := sc_law_as
  refine F.mk' (k := 1) sc_law_as (fun vs H Q E h => ?_) (fun f cdv A outer s H vs Q E hr h => ?_)
  · obtain ⟨p, r, xs, rfl, _⟩ := h
    rfl
  · obtain ⟨p, r, xs, rfl, hp, hR, q⟩ := h
    refine' ⟨_, ?derivation, ?_⟩
    case derivation =>
      refine' pss_one ?h0
      case h0 =>
        refine' ps_ret ?h1
        case h1 =>
          refine' pe_ix ?h2 ?h3 ?h4 ?h5
          case h2 => exact ix_list
          case h3 =>
            refine' pe_lst ?h6
            case h6 =>
              refine' pa_cons ?h7 ?h8 ?h9
              case h7 =>
                refine' pe_callTy (hn := nn_KD_list) (hdb := nd_KD_list) ?h10 ?h11 ?h12 ?h13 ?h14 ?h15 ?h16
                case h10 => exact call_list_of
                case h11 => exact lk_law_as_list
                case h12 => exact Z.n_list
                case h13 => exact bt_list
                case h14 =>
                  refine' pa_cons ?h17 ?h18 ?h19
                  case h17 => exact (pq 1 (x := Str.ofString "_law_row") (visL lk_law_as__law_row) nd_KD__law_row nc_KD__law_row)
                  case h18 => exact pa_nil
                  case h19 => rfl
                case h15 => rfl
                case h16 => rfl
              case h8 =>
                refine' pa_cons ?h20 ?h21 ?h22
                case h20 =>
                  refine' pe_callTy (hn := nn_KD_tuple) (hdb := nd_KD_tuple) ?h23 ?h24 ?h25 ?h26 ?h27 ?h28 ?h29
                  case h23 => exact call_tuple_of
                  case h24 => exact lk_law_as_tuple
                  case h25 => exact Z.n_tuple
                  case h26 => exact bt_tuple
                  case h27 =>
                    refine' pa_cons ?h30 ?h31 ?h32
                    case h30 => exact (pq 1 (x := Str.ofString "_law_row") (visL lk_law_as__law_row) nd_KD__law_row nc_KD__law_row)
                    case h31 => exact pa_nil
                    case h32 => rfl
                  case h28 => rfl
                  case h29 => rfl
                case h21 => exact pa_nil
                case h22 => rfl
              case h9 => rfl
          case h4 =>
            refine' pe_def (hdb := nd_KD__law_draw) ?h33 ?h34 ?h35 ?h36 ?h37 ?h38
            case h33 => exact D_law_draw
            case h34 => exact (hr.mono (by decide))
            case h35 => exact lk_law_as__law_draw
            case h36 =>
              refine' pa_cons ?h39 ?h40 ?h41
              case h39 => exact (pq 0 (x := Str.ofString "_law_pot_here") (visL lk_law_as__law_pot_here) nd_KD__law_pot_here nc_KD__law_pot_here)
              case h40 =>
                refine' pa_cons ?h42 ?h43 ?h44
                case h42 => exact pe_int
                case h43 => exact pa_nil
                case h44 => rfl
              case h41 => rfl
            case h37 => rfl
            case h38 => rfl
          case h5 =>
            intro _ _
            exact rfl
    refine ⟨_, rfl, r, xs, rfl, .inl (SqL.of hR), fun l hl => ?_⟩
    have W1 := (Went.refl hp).new hl (.lst xs)
    have hR1 : (upd H l (.lst xs)) r = some (.lst xs) := by rw [upd_ne (ne_of_none hR hl)]; exact hR
    refine ⟨_, rfl, r, xs, rfl, .inl ⟨SqL.of hR1, fun t ht => ?_⟩⟩
    have W2 := W1.new ht (.tup xs)
    have nlt : l ≠ t := ne_of_none upd_same ht
    refine ⟨by show 2 ≤ sizeLine; decide, fun M hM => ?_⟩
    have W3 := W2.new hM (.lst [.ref l, .ref t])
    refine ⟨_, rfl, p, _, rfl, W3.pot, by decide, by decide, fun r0 H' h0 h1 hp' s' => ?_⟩
    have W4 := W3.mk1 hp' s'
    have npM : M ≠ p := Ne.symm (W2.ne hM)
    have npl : l ≠ p := Ne.symm ((Went.refl hp).ne hl)
    have npt : t ≠ p := Ne.symm (W1.ne ht)
    have hM' := s' M _ npM upd_same
    have ht3 : (upd (upd (upd H l (.lst xs)) t (.tup xs)) M (.lst [.ref l, .ref t])) t = some (.tup xs) := by rw [upd_ne (ne_of_none upd_same hM)]; exact upd_same
    have hl2 : (upd (upd H l (.lst xs)) t (.tup xs)) l = some (.lst xs) := by rw [upd_ne nlt]; exact upd_same
    have hl3 : (upd (upd (upd H l (.lst xs)) t (.tup xs)) M (.lst [.ref l, .ref t])) l = some (.lst xs) := by rw [upd_ne (ne_of_none hl2 hM)]; exact hl2
    have h2 : r0 = 0 ∨ r0 = 1 := by omega
    rcases h2 with rfl | rfl
    · exact ⟨M, _, 0, _, rfl, rfl, SqL.of hM', rfl, q l H' hl (.inl (s' l _ npl hl3)) W4⟩
    · exact ⟨M, _, 1, _, rfl, rfl, SqL.of hM', rfl, q t H' (W1.free ht) (.inr (s' t _ npt ht3)) W4⟩
abbrev s_law_due : Stmt := top 31
theorem sc_law_due : FnScope ["_law_book_here", "_law_ties"] ["_law_book_here"] (defScope s_law_due) := ⟨rfl, rfl, rfl, by decide +kernel, rfl, by decide +kernel, by decide +kernel⟩
theorem lk_law_due__law_book_here : (defScope s_law_due).names.lookup (Str.ofString "_law_book_here") = some NameKind.local := by decide +kernel
theorem lk_law_due__law_ties : (defScope s_law_due).names.lookup (Str.ofString "_law_ties") = some NameKind.local := by decide +kernel
theorem lk_law_due_list : (defScope s_law_due).names.lookup (Str.ofString "list") = some NameKind.globalImplicit := by decide +kernel
theorem sp_law_due_1 : CompSc 3 ["_law_name", "_law_places", "_law_kind", "_law_book_here", "_law_ties"] ["_law_book_here", "_law_ties"] (defScope s_law_due) { kind := PySem.ScopeKind.function, names := [ (PySem.Str.ofString ".0", PySem.NameKind.local), (PySem.Str.ofString "_law_name", PySem.NameKind.local), (PySem.Str.ofString "_law_places", PySem.NameKind.local), (PySem.Str.ofString "_law_kind", PySem.NameKind.local), (PySem.Str.ofString "tuple", PySem.NameKind.globalImplicit)], isGenerator := false, isCoroutine := false, more := [] : PySem.Scope } := ⟨rfl, by decide +kernel, by decide +kernel, by decide +kernel, by decide +kernel, rfl, by decide +kernel⟩
theorem lk_law_due_c1__law_kind : ({ kind := PySem.ScopeKind.function, names := [ (PySem.Str.ofString ".0", PySem.NameKind.local), (PySem.Str.ofString "_law_name", PySem.NameKind.local), (PySem.Str.ofString "_law_places", PySem.NameKind.local), (PySem.Str.ofString "_law_kind", PySem.NameKind.local), (PySem.Str.ofString "tuple", PySem.NameKind.globalImplicit)], isGenerator := false, isCoroutine := false, more := [] : PySem.Scope } : Scope).names.lookup (Str.ofString "_law_kind") = some NameKind.local := by decide +kernel
theorem lk_law_due_c1__law_name : ({ kind := PySem.ScopeKind.function, names := [ (PySem.Str.ofString ".0", PySem.NameKind.local), (PySem.Str.ofString "_law_name", PySem.NameKind.local), (PySem.Str.ofString "_law_places", PySem.NameKind.local), (PySem.Str.ofString "_law_kind", PySem.NameKind.local), (PySem.Str.ofString "tuple", PySem.NameKind.globalImplicit)], isGenerator := false, isCoroutine := false, more := [] : PySem.Scope } : Scope).names.lookup (Str.ofString "_law_name") = some NameKind.local := by decide +kernel
theorem lk_law_due_c1__law_places : ({ kind := PySem.ScopeKind.function, names := [ (PySem.Str.ofString ".0", PySem.NameKind.local), (PySem.Str.ofString "_law_name", PySem.NameKind.local), (PySem.Str.ofString "_law_places", PySem.NameKind.local), (PySem.Str.ofString "_law_kind", PySem.NameKind.local), (PySem.Str.ofString "tuple", PySem.NameKind.globalImplicit)], isGenerator := false, isCoroutine := false, more := [] : PySem.Scope } : Scope).names.lookup (Str.ofString "_law_places") = some NameKind.local := by decide +kernel
theorem lk_law_due_c1_tuple : ({ kind := PySem.ScopeKind.function, names := [ (PySem.Str.ofString ".0", PySem.NameKind.local), (PySem.Str.ofString "_law_name", PySem.NameKind.local), (PySem.Str.ofString "_law_places", PySem.NameKind.local), (PySem.Str.ofString "_law_kind", PySem.NameKind.local), (PySem.Str.ofString "tuple", PySem.NameKind.globalImplicit)], isGenerator := false, isCoroutine := false, more := [] : PySem.Scope } : Scope).names.lookup (Str.ofString "tuple") = some NameKind.globalImplicit := by decide +kernel
theorem sp_law_due_2 : CompSc 2 ["_law_name", "_law_places", "_law_book_here", "_law_ties"] ["_law_book_here", "_law_ties"] (defScope s_law_due) { kind := PySem.ScopeKind.function, names := [ (PySem.Str.ofString ".0", PySem.NameKind.local), (PySem.Str.ofString "_law_name", PySem.NameKind.local), (PySem.Str.ofString "_law_places", PySem.NameKind.local), (PySem.Str.ofString "tuple", PySem.NameKind.globalImplicit)], isGenerator := false, isCoroutine := false, more := [] : PySem.Scope } := ⟨rfl, by decide +kernel, by decide +kernel, by decide +kernel, by decide +kernel, rfl, by decide +kernel⟩
theorem lk_law_due_c2__law_name : ({ kind := PySem.ScopeKind.function, names := [ (PySem.Str.ofString ".0", PySem.NameKind.local), (PySem.Str.ofString "_law_name", PySem.NameKind.local), (PySem.Str.ofString "_law_places", PySem.NameKind.local), (PySem.Str.ofString "tuple", PySem.NameKind.globalImplicit)], isGenerator := false, isCoroutine := false, more := [] : PySem.Scope } : Scope).names.lookup (Str.ofString "_law_name") = some NameKind.local := by decide +kernel
theorem lk_law_due_c2__law_places : ({ kind := PySem.ScopeKind.function, names := [ (PySem.Str.ofString ".0", PySem.NameKind.local), (PySem.Str.ofString "_law_name", PySem.NameKind.local), (PySem.Str.ofString "_law_places", PySem.NameKind.local), (PySem.Str.ofString "tuple", PySem.NameKind.globalImplicit)], isGenerator := false, isCoroutine := false, more := [] : PySem.Scope } : Scope).names.lookup (Str.ofString "_law_places") = some NameKind.local := by decide +kernel
theorem lk_law_due_c2_tuple : ({ kind := PySem.ScopeKind.function, names := [ (PySem.Str.ofString ".0", PySem.NameKind.local), (PySem.Str.ofString "_law_name", PySem.NameKind.local), (PySem.Str.ofString "_law_places", PySem.NameKind.local), (PySem.Str.ofString "tuple", PySem.NameKind.globalImplicit)], isGenerator := false, isCoroutine := false, more := [] : PySem.Scope } : Scope).names.lookup (Str.ofString "tuple") = some NameKind.globalImplicit := by decide +kernel
def tieT (t : TieR) : PyData := .tuple [.str t.nm, .tuple (strsD t.ps)]
def funT (t : FunR) : PyData := .tuple [.str t.nm, .tuple (strsD t.ps), .str t.kd]
def dueD (ks : List Str) (ts : List TieR) (fs : List FunR) : PyData := .tuple [.list (strsD ks), .list (ts.map tieT), .list (fs.map funT)]
def spDue : Sp := fun vs H Q _ => ∃ (v : V) (R : Addr → Prop) (ks : List Str) (ts : List TieR) (fs : List FunR), vs = [v] ∧ RdV R H v (bookL ks ts fs) ∧ ts.length ≤ 100 ∧ fs.length ≤ 100 ∧
  ∀ v' H', RdV (fun a => H a = none) H' v' (dueD ks ts fs) → Same H H' → Q v' H'
theorem ok_due (F : FunAt K mg "_law_due" s_law_due ["_law_book_here"]) (Z : Bl mg) : Def P w K mg base "_law_due" 1 ["_law_book_here"] spDue := by
  have SC := sc_law_due
  refine F.mk' (k := 0) sc_law_due (fun vs H Q E h => ?_) (fun f cdv A outer s H vs Q E hr h => ?_)
  · obtain ⟨v, R, ks, ts, fs, rfl, _⟩ := h
    rfl
  · obtain ⟨v, R, ks, ts, fs, rfl, hv, htl, hfl, q⟩ := h
    obtain ⟨b, bs, rfl, _, hb, hbs⟩ := hv.tuple_inv
    obtain ⟨kv, tv, fv, rfl, hk, ht, hf⟩ := hbs.three
    obtain ⟨kA, kx, rfl, _, hkA, hkx⟩ := hk.list_inv
    obtain ⟨tA, tx, rfl, _, htA, htx⟩ := ht.list_inv
    obtain ⟨fA, fx, rfl, _, hfA, hfx⟩ := hf.list_inv
    obtain rfl := hkx.strs_inv
    have txl : tx.length = ts.length := by rw [htx.length, List.length_map]
    have fxl : fx.length = fs.length := by rw [hfx.length, List.length_map]
    refine' ⟨_, ?derivation, ?_⟩
    case derivation =>
      refine' pss_cons ?h45 ?h46
      case h45 =>
        refine' ps_setComp (i := 1) (x := Str.ofString "_law_ties") ?h47 ?h48 ?h49 ?h50 ?h51 ?h52 ?h53 ?h54 ?h55 ?h56 ?h57 ?h58
        case h47 => exact SC.nd
        case h48 => exact rfl
        case h49 => exact (Or.inl lk_law_due__law_ties)
        case h50 => exact rfl
        case h51 => exact noxe
        case h52 => exact rfl
        case h53 => exact sp_law_due_2.at
        case h54 =>
          refine' pi_list ?h59
          case h59 =>
            refine' pe_ix ?h60 ?h61 ?h62 ?h63
            case h60 => exact ix_tup
            case h61 => exact (pq 0 (x := Str.ofString "_law_book_here") (visL lk_law_due__law_book_here) nd_KD__law_book_here nc_KD__law_book_here)
            case h62 => exact pe_int
            case h63 =>
              intro _ _
              exact rfl
        case h55 =>
          intro _ _ _ _ _
          refine' pg_tup ?h64 ?h65 ?h66 ?h67
          case h64 => exact rfl
          case h65 =>
            refine' pgs_cons ?h68 ?h69 ?h70
            case h68 =>
              refine' pg_name (i := 0) ?h71 ?h72 ?h73 ?h74
              case h71 => exact sp_law_due_2.nd
              case h72 => exact rfl
              case h73 => exact (locO lk_law_due_c2__law_name)
              case h74 => exact (.inr (lookup_relabel_local lk_law_due_c2__law_name))
            case h69 =>
              refine' pgs_cons ?h75 ?h76 ?h77
              case h75 =>
                refine' pg_name (i := 1) ?h78 ?h79 ?h80 ?h81
                case h78 => exact sp_law_due_2.nd
                case h79 => exact rfl
                case h80 => exact (locO lk_law_due_c2__law_places)
                case h81 => exact (.inr (lookup_relabel_local lk_law_due_c2__law_places))
              case h76 => exact pgs_nil
              case h77 => rfl
            case h70 => rfl
          case h66 => rfl
          case h67 => rfl
        case h56 =>
          intro _ _ _ _ _
          refine' pe_tup ?h82
          case h82 =>
            refine' pa_cons ?h83 ?h84 ?h85
            case h83 => exact (pq 0 (x := Str.ofString "_law_name") (visO lk_law_due_c2__law_name) nd_KD__law_name nc_KD__law_name)
            case h84 =>
              refine' pa_cons ?h86 ?h87 ?h88
              case h86 =>
                refine' pe_callTy (hn := nn_KD_tuple) (hdb := nd_KD_tuple) ?h89 ?h90 ?h91 ?h92 ?h93 ?h94 ?h95
                case h89 => exact call_tuple_of
                case h90 => exact (glO lk_law_due_c2_tuple)
                case h91 => exact Z.n_tuple
                case h92 => exact bt_tuple
                case h93 =>
                  refine' pa_cons ?h96 ?h97 ?h98
                  case h96 => exact (pq 1 (x := Str.ofString "_law_places") (visO lk_law_due_c2__law_places) nd_KD__law_places nc_KD__law_places)
                  case h97 => exact pa_nil
                  case h98 => rfl
                case h94 => rfl
                case h95 => rfl
              case h87 => exact pa_nil
              case h88 => rfl
            case h85 => rfl
        case h57 => intro _; rfl
        case h58 => exact .inl rfl
      case h46 =>
        refine' pss_one ?h99
        case h99 =>
          refine' ps_ret ?h100
          case h100 =>
            refine' pe_tup ?h101
            case h101 =>
              refine' pa_cons ?h102 ?h103 ?h104
              case h102 =>
                refine' pe_callTy (hn := nn_KD_list) (hdb := nd_KD_list) ?h105 ?h106 ?h107 ?h108 ?h109 ?h110 ?h111
                case h105 => exact call_list_of
                case h106 => exact lk_law_due_list
                case h107 => exact Z.n_list
                case h108 => exact bt_list
                case h109 =>
                  refine' pa_cons ?h112 ?h113 ?h114
                  case h112 =>
                    refine' pe_ix ?h115 ?h116 ?h117 ?h118
                    case h115 => exact ix_tup
                    case h116 => exact (pq 0 (x := Str.ofString "_law_book_here") (visL lk_law_due__law_book_here) nd_KD__law_book_here nc_KD__law_book_here)
                    case h117 => exact pe_int
                    case h118 =>
                      intro _ _
                      exact rfl
                  case h113 => exact pa_nil
                  case h114 => rfl
                case h110 => rfl
                case h111 => rfl
              case h103 =>
                refine' pa_cons ?h119 ?h120 ?h121
                case h119 => exact (pq 1 (x := Str.ofString "_law_ties") (visL lk_law_due__law_ties) nd_KD__law_ties nc_KD__law_ties)
                case h120 =>
                  refine' pa_cons ?h122 ?h123 ?h124
                  case h122 =>
                    refine' pe_comp ?h125 ?h126 ?h127 ?h128 ?h129 ?h130 ?h131
                    case h125 => exact noxe
                    case h126 => exact rfl
                    case h127 => exact sp_law_due_1.at
                    case h128 =>
                      refine' pi_list ?h132
                      case h132 =>
                        refine' pe_ix ?h133 ?h134 ?h135 ?h136
                        case h133 => exact ix_tup
                        case h134 => exact (pq 0 (x := Str.ofString "_law_book_here") (visL lk_law_due__law_book_here) nd_KD__law_book_here nc_KD__law_book_here)
                        case h135 => exact pe_int
                        case h136 =>
                          intro _ _
                          exact rfl
                    case h129 =>
                      intro _ _ _ _ _
                      refine' pg_tup ?h137 ?h138 ?h139 ?h140
                      case h137 => exact rfl
                      case h138 =>
                        refine' pgs_cons ?h141 ?h142 ?h143
                        case h141 =>
                          refine' pg_name (i := 0) ?h144 ?h145 ?h146 ?h147
                          case h144 => exact sp_law_due_1.nd
                          case h145 => exact rfl
                          case h146 => exact (locO lk_law_due_c1__law_name)
                          case h147 => exact (.inr (lookup_relabel_local lk_law_due_c1__law_name))
                        case h142 =>
                          refine' pgs_cons ?h148 ?h149 ?h150
                          case h148 =>
                            refine' pg_name (i := 1) ?h151 ?h152 ?h153 ?h154
                            case h151 => exact sp_law_due_1.nd
                            case h152 => exact rfl
                            case h153 => exact (locO lk_law_due_c1__law_places)
                            case h154 => exact (.inr (lookup_relabel_local lk_law_due_c1__law_places))
                          case h149 =>
                            refine' pgs_cons ?h155 ?h156 ?h157
                            case h155 =>
                              refine' pg_name (i := 2) ?h158 ?h159 ?h160 ?h161
                              case h158 => exact sp_law_due_1.nd
                              case h159 => exact rfl
                              case h160 => exact (locO lk_law_due_c1__law_kind)
                              case h161 => exact (.inr (lookup_relabel_local lk_law_due_c1__law_kind))
                            case h156 => exact pgs_nil
                            case h157 => rfl
                          case h150 => rfl
                        case h143 => rfl
                      case h139 => rfl
                      case h140 => rfl
                    case h130 =>
                      intro _ _ _ _ _
                      refine' pe_tup ?h162
                      case h162 =>
                        refine' pa_cons ?h163 ?h164 ?h165
                        case h163 => exact (pq 0 (x := Str.ofString "_law_name") (visO lk_law_due_c1__law_name) nd_KD__law_name nc_KD__law_name)
                        case h164 =>
                          refine' pa_cons ?h166 ?h167 ?h168
                          case h166 =>
                            refine' pe_callTy (hn := nn_KD_tuple) (hdb := nd_KD_tuple) ?h169 ?h170 ?h171 ?h172 ?h173 ?h174 ?h175
                            case h169 => exact call_tuple_of
                            case h170 => exact (glO lk_law_due_c1_tuple)
                            case h171 => exact Z.n_tuple
                            case h172 => exact bt_tuple
                            case h173 =>
                              refine' pa_cons ?h176 ?h177 ?h178
                              case h176 => exact (pq 1 (x := Str.ofString "_law_places") (visO lk_law_due_c1__law_places) nd_KD__law_places nc_KD__law_places)
                              case h177 => exact pa_nil
                              case h178 => rfl
                            case h174 => rfl
                            case h175 => rfl
                          case h167 =>
                            refine' pa_cons ?h179 ?h180 ?h181
                            case h179 => exact (pq 2 (x := Str.ofString "_law_kind") (visO lk_law_due_c1__law_kind) nd_KD__law_kind nc_KD__law_kind)
                            case h180 => exact pa_nil
                            case h181 => rfl
                          case h168 => rfl
                        case h165 => rfl
                    case h131 => intro _; rfl
                  case h123 => exact pa_nil
                  case h124 => rfl
                case h121 => rfl
              case h104 => rfl
    refine ⟨_, rfl, b, _, _, _, rfl, rfl, SqT.of hb, rfl, tA, rfl, ⟨_, SqL.of htA⟩, ?_⟩
    intro cl C ex sc Hc
    refine comp_it2 (K := K) tx.length (fun i ys H1 => RdA (fun a => H a = none) H1 ys ((ts.take i).map tieT) ∧ Same H H1) (fun i u v => ∃ t, ts[i]? = some t ∧ u = .str t.nm ∧ ∃ pa, v = .ref pa ∧ H pa = some (.lst (t.ps.map V.str))) ⟨.nil, Same.refl _⟩
      (Nat.le_trans (show tx.length ≤ 100 by omega) (by decide)) ?_ (fun ys H1 _ ⟨_, z⟩ => stop_list (SqL.of (z _ _ htA))) ?_ ?_
    · rintro i ys H1 hi hy ⟨_, z⟩
      obtain ⟨g1, g2⟩ := go_list (K := K) (SqL.of (z _ _ htA)) hi
      refine ⟨g1, fun x H' y => ?_⟩
      obtain ⟨e, hx⟩ := g2 x H' y
      obtain ⟨d, hd, rx⟩ := htx.getV hx
      rw [List.getElem?_map] at hd
      obtain ⟨t, ht', rfl⟩ := Option.map_eq_some_iff.mp hd
      obtain ⟨pt, px, rfl, _, hpt, hpx⟩ := rx.tuple_inv
      obtain ⟨u, v, rfl, hu, hv'⟩ := hpx.two
      obtain rfl := hu.str_inv
      obtain ⟨pa, pax, rfl, _, hpa, hpax⟩ := hv'.list_inv
      obtain rfl := hpax.strs_inv
      exact ⟨e, pt, _, _, rfl, SqT.of (z _ _ hpt), t, ht', rfl, pa, rfl, hpa⟩
    · rintro i u v ys H1 hi ⟨t, ht', rfl, pa, rfl, hpa⟩ hy ⟨hr1, z⟩
      refine ⟨_, rfl, _, rfl, pa, _, rfl, .inl ⟨SqL.of (z _ _ hpa), fun T hT => ?_⟩⟩
      have z1 := z.trans (same_new hT (.tup (t.ps.map V.str)))
      refine ⟨by show 2 ≤ sizeLine; decide, fun U hU => ?_⟩
      have z2 := z1.trans (same_new hU (.tup [.str t.nm, .ref T]))
      refine ⟨?_, z2⟩
      have e : ts.take (i + 1) = ts.take i ++ [t] := by rw [List.take_succ, ht']; rfl
      rw [e, List.map_append]
      refine ((hr1.same (same_new hT _)).same (same_new hU _)).snoc ?_
      exact .tup (z1.free hU) upd_same (.cons (.str _) (.cons (.tup (z.free hT) (by rw [upd_ne (ne_of_none upd_same hU)]; exact upd_same) (RdA.strs t.ps)) .nil))
    rintro ys H1 hy ⟨hr1, z⟩ D1 hD1
    rw [txl, List.take_length] at hr1
    have z1 := z.trans (same_new hD1 (.lst ys))
    have rD1 : RdV (fun a => H a = none) (upd H1 D1 (.lst ys)) (.ref D1) (.list (ts.map tieT)) := .lst (z.free hD1) upd_same (hr1.same (same_new hD1 _))
    -- list(book[0])
    refine ⟨_, rfl, b, _, _, _, rfl, rfl, SqT.of (z1 _ _ hb), rfl, kA, _, rfl, .inl (SqL.of (z1 _ _ hkA)), fun L hL => ?_⟩
    have z2 := z1.trans (same_new hL (.lst (ks.map V.str)))
    have rL : RdV (fun a => H a = none) (upd (upd H1 D1 (.lst ys)) L (.lst (ks.map V.str))) (.ref L) (.list (strsD ks)) := .lst (z1.free hL) upd_same (RdA.strs ks)
    have rD2 := rD1.same (same_new hL (.lst (ks.map V.str)))
    refine ⟨_, rfl, _, rfl, b, _, _, _, rfl, rfl, SqT.of (z2 _ _ hb), rfl, fA, rfl, ⟨_, SqL.of (z2 _ _ hfA)⟩, ?_⟩
    intro cl C ex sc Hc
    generalize hG : (upd (upd H1 D1 (.lst ys)) L (.lst (ks.map V.str))) = G at *
    refine comp_it3 (K := K) fx.length (fun i ys H3 => RdA (fun a => H a = none) H3 ys ((fs.take i).map funT) ∧ Same G H3) (fun i u v w => ∃ t, fs[i]? = some t ∧ u = .str t.nm ∧ w = .str t.kd ∧ ∃ pa, v = .ref pa ∧ H pa = some (.lst (t.ps.map V.str))) ⟨.nil, Same.refl _⟩
      (Nat.le_trans (show fx.length ≤ 100 by omega) (by decide)) ?_ (fun ys H1 _ ⟨_, z⟩ => stop_list (SqL.of (z _ _ (z2 _ _ hfA)))) ?_ ?_
    · rintro i ys H3 hi hy ⟨_, z⟩
      obtain ⟨g1, g2⟩ := go_list (K := K) (SqL.of (z _ _ (z2 _ _ hfA))) hi
      refine ⟨g1, fun x H' y => ?_⟩
      obtain ⟨e, hx⟩ := g2 x H' y
      obtain ⟨d, hd, rx⟩ := hfx.getV hx
      rw [List.getElem?_map] at hd
      obtain ⟨t, ht', rfl⟩ := Option.map_eq_some_iff.mp hd
      obtain ⟨pt, px, rfl, _, hpt, hpx⟩ := rx.tuple_inv
      obtain ⟨u, v, w, rfl, hu, hv', hw⟩ := hpx.three
      obtain rfl := hu.str_inv
      obtain rfl := hw.str_inv
      obtain ⟨pa, pax, rfl, _, hpa, hpax⟩ := hv'.list_inv
      obtain rfl := hpax.strs_inv
      exact ⟨e, pt, _, _, _, rfl, SqT.of (z _ _ (z2 _ _ hpt)), t, ht', rfl, rfl, pa, rfl, hpa⟩
    · rintro i u v w ys H3 hi ⟨t, ht', rfl, rfl, pa, rfl, hpa⟩ hy ⟨hr3, z⟩
      refine ⟨_, rfl, _, rfl, pa, _, rfl, .inl ⟨SqL.of (z _ _ (z2 _ _ hpa)), fun T hT => ?_⟩⟩
      have z3 := z.trans (same_new hT (.tup (t.ps.map V.str)))
      refine ⟨_, rfl, by show 3 ≤ sizeLine; decide, fun U hU => ?_⟩
      have z4 := z3.trans (same_new hU (.tup [.str t.nm, .ref T, .str t.kd]))
      refine ⟨?_, z4⟩
      have e : fs.take (i + 1) = fs.take i ++ [t] := by rw [List.take_succ, ht']; rfl
      rw [e, List.map_append]
      refine ((hr3.same (same_new hT _)).same (same_new hU _)).snoc ?_
      exact .tup ((z2.trans z3).free hU) upd_same (.cons (.str _) (.cons (.tup ((z2.trans z).free hT) (by rw [upd_ne (ne_of_none upd_same hU)]; exact upd_same) (RdA.strs t.ps)) (.cons (.str _) .nil)))
    rintro ys2 H3 hy2 ⟨hr3, z⟩ D2 hD2
    rw [fxl, List.take_length] at hr3
    have z3 := z.trans (same_new hD2 (.lst ys2))
    refine ⟨by show 3 ≤ sizeLine; decide, fun U hU => ?_⟩
    have z4 := z3.trans (same_new hU (.tup [.ref L, .ref D1, .ref D2]))
    refine q _ _ (.tup ((z2.trans z3).free hU) upd_same (.cons (rL.same z4) (.cons (rD2.same z4) (.cons (.lst ((z2.trans z).free hD2) (by rw [upd_ne (ne_of_none upd_same hU)]; exact upd_same) ((hr3.same (same_new hD2 _)).same (same_new hU _))) .nil)))) (z2.trans z4)
end
end Few

set_option Elab.async false
set_option linter.all false
set_option maxRecDepth 100000
set_option maxHeartbeats 1000000
namespace Few
open PySem L2
theorem nd_FE__law_as : ((Str.ofString "_law_as" : Str) == ("__debug__" : Str)) = false := by decide +kernel
theorem nc_FE__law_as : ((Str.ofString "_law_as" : Str) == ("__classdict__" : Str)) = false := by decide +kernel
theorem nn_FE__law_as : (Str.ofString "_law_as" : Str) ≠ "__name__" := by decide +kernel
theorem nd_FE__law_inner : ((Str.ofString "_law_inner" : Str) == ("__debug__" : Str)) = false := by decide +kernel
theorem nc_FE__law_inner : ((Str.ofString "_law_inner" : Str) == ("__classdict__" : Str)) = false := by decide +kernel
theorem nn_FE__law_inner : (Str.ofString "_law_inner" : Str) ≠ "__name__" := by decide +kernel
theorem nd_FE__law_made : ((Str.ofString "_law_made" : Str) == ("__debug__" : Str)) = false := by decide +kernel
theorem nc_FE__law_made : ((Str.ofString "_law_made" : Str) == ("__classdict__" : Str)) = false := by decide +kernel
theorem nn_FE__law_made : (Str.ofString "_law_made" : Str) ≠ "__name__" := by decide +kernel
theorem nd_FE__law_pot_here : ((Str.ofString "_law_pot_here" : Str) == ("__debug__" : Str)) = false := by decide +kernel
theorem nc_FE__law_pot_here : ((Str.ofString "_law_pot_here" : Str) == ("__classdict__" : Str)) = false := by decide +kernel
theorem nn_FE__law_pot_here : (Str.ofString "_law_pot_here" : Str) ≠ "__name__" := by decide +kernel
theorem nd_FE__law_sign : ((Str.ofString "_law_sign" : Str) == ("__debug__" : Str)) = false := by decide +kernel
theorem nc_FE__law_sign : ((Str.ofString "_law_sign" : Str) == ("__classdict__" : Str)) = false := by decide +kernel
theorem nn_FE__law_sign : (Str.ofString "_law_sign" : Str) ≠ "__name__" := by decide +kernel
theorem nd_FE__law_signs : ((Str.ofString "_law_signs" : Str) == ("__debug__" : Str)) = false := by decide +kernel
theorem nc_FE__law_signs : ((Str.ofString "_law_signs" : Str) == ("__classdict__" : Str)) = false := by decide +kernel
theorem nn_FE__law_signs : (Str.ofString "_law_signs" : Str) ≠ "__name__" := by decide +kernel
theorem nd_FE_list : ((Str.ofString "list" : Str) == ("__debug__" : Str)) = false := by decide +kernel
theorem nc_FE_list : ((Str.ofString "list" : Str) == ("__classdict__" : Str)) = false := by decide +kernel
theorem nn_FE_list : (Str.ofString "list" : Str) ≠ "__name__" := by decide +kernel
section
variable {P : Program} {w : World} {K : PySem.W.Frag} {mg : Str → Option Value} {base : Heap}
abbrev s_law_signs_as : Stmt := top 29
theorem sc_law_signs_as : FnScope ["_law_pot_here", "_law_signs", "_law_made", "_law_sign", "_law_inner"] ["_law_pot_here", "_law_signs"] (defScope s_law_signs_as) := ⟨rfl, rfl, rfl, by decide +kernel, rfl, by decide +kernel, by decide +kernel⟩
theorem lk_law_signs_as__law_as : (defScope s_law_signs_as).names.lookup (Str.ofString "_law_as") = some NameKind.globalImplicit := by decide +kernel
theorem lk_law_signs_as__law_inner : (defScope s_law_signs_as).names.lookup (Str.ofString "_law_inner") = some NameKind.local := by decide +kernel
theorem lk_law_signs_as__law_made : (defScope s_law_signs_as).names.lookup (Str.ofString "_law_made") = some NameKind.local := by decide +kernel
theorem lk_law_signs_as__law_pot_here : (defScope s_law_signs_as).names.lookup (Str.ofString "_law_pot_here") = some NameKind.local := by decide +kernel
theorem lk_law_signs_as__law_sign : (defScope s_law_signs_as).names.lookup (Str.ofString "_law_sign") = some NameKind.local := by decide +kernel
theorem lk_law_signs_as__law_signs : (defScope s_law_signs_as).names.lookup (Str.ofString "_law_signs") = some NameKind.local := by decide +kernel
theorem lk_law_signs_as_list : (defScope s_law_signs_as).names.lookup (Str.ofString "list") = some NameKind.globalImplicit := by decide +kernel
/-- a list or a tuple -/
def LT (H : Hp) (a : Addr) (xs : List V) : Prop := H a = some (.lst xs) ∨ H a = some (.tup xs)
theorem LT.mono {H H' : Hp} {a : Addr} {xs : List V} (h : LT H a xs) (k : ∀ o, H a = some o → H' a = some o) : LT H' a xs := h.elim (fun e => .inl (k _ e)) fun e => .inr (k _ e)
theorem LT.some {H : Hp} {a : Addr} {xs : List V} (h : LT H a xs) : ∃ o, H a = some o := h.elim (fun e => ⟨_, e⟩) fun e => ⟨_, e⟩
theorem LT.rd {R : Addr → Prop} {H : Hp} {l : Addr} {xs : List V} {ds : List PyData} (h : LT H l xs) (hR : R l) (r : RdA R H xs ds) : ∃ d, AsD ds d ∧ RdV R H (.ref l) d := by
  rcases h with h | h
  · exact ⟨_, .l, .lst hR h r⟩
  · exact ⟨_, .t, .tup hR h r⟩
/-- the sign r stands at q.1, its places at q.2 -/
structure SgAt (H : Hp) (q : Addr × Addr) (r : RowR) : Prop where
  row : LT H q.1 (.str r.nm :: .ref q.2 :: r.rest.map V.str)
  plc : LT H q.2 (r.ps.map V.str)
inductive Sgs (H : Hp) : List (Addr × Addr) → List RowR → Prop where
  | nil : Sgs H [] []
  | cons {q : Addr × Addr} {r : RowR} {ab : List (Addr × Addr)} {rs : List RowR} : SgAt H q r → Sgs H ab rs → Sgs H (q :: ab) (r :: rs)
theorem Sgs.length {H : Hp} : ∀ {ab : List (Addr × Addr)} {rs : List RowR}, Sgs H ab rs → ab.length = rs.length
  | _, _, .nil => rfl
  | _, _, .cons _ t => by rw [List.length_cons, List.length_cons, Sgs.length t]
theorem SgAt.mono {H H' : Hp} {q : Addr × Addr} {r : RowR} (h : SgAt H q r) (k1 : ∀ o, H q.1 = some o → H' q.1 = some o) (k2 : ∀ o, H q.2 = some o → H' q.2 = some o) : SgAt H' q r := ⟨h.row.mono k1, h.plc.mono k2⟩
theorem Sgs.mono {H H' : Hp} : ∀ {ab : List (Addr × Addr)} {rs : List RowR}, Sgs H ab rs → (∀ q ∈ ab, ∀ o, (H q.1 = some o → H' q.1 = some o) ∧ (H q.2 = some o → H' q.2 = some o)) → Sgs H' ab rs
  | _, _, .nil, _ => .nil
  | _, _, .cons a t, k => .cons (a.mono (fun o => (k _ List.mem_cons_self o).1) fun o => (k _ List.mem_cons_self o).2) (Sgs.mono t fun q hq => k q (List.mem_cons_of_mem _ hq))
theorem Sgs.snoc {H : Hp} {q : Addr × Addr} {r : RowR} : ∀ {ab : List (Addr × Addr)} {rs : List RowR}, Sgs H ab rs → SgAt H q r → Sgs H (ab ++ [q]) (rs ++ [r])
  | _, _, .nil, h => .cons h .nil
  | _, _, .cons a t, h => .cons a (Sgs.snoc t h)
theorem Sgs.get {H : Hp} : ∀ {ab : List (Addr × Addr)} {rs : List RowR} {i : Nat} {q : Addr × Addr}, Sgs H ab rs → ab[i]? = some q → ∃ r, rs[i]? = some r ∧ SgAt H q r
  | _, _, _, _, .nil, h => by simp at h
  | _, _, 0, _, .cons a t, h => by simp at h; subst h; exact ⟨_, rfl, a⟩
  | _, _, i + 1, _, .cons a t, h => by simpa using Sgs.get (i := i) t (by simpa using h)
theorem Sgs.has {H : Hp} : ∀ {ab : List (Addr × Addr)} {rs : List RowR}, Sgs H ab rs → ∀ q ∈ ab, (∃ o, H q.1 = some o) ∧ ∃ o, H q.2 = some o
  | _, _, .cons a t, q, hq => by
    rcases List.mem_cons.mp hq with rfl | hq
    · exact ⟨a.row.some, a.plc.some⟩
    · exact Sgs.has t q hq
theorem Sgs.rd {R : Addr → Prop} {H : Hp} : ∀ {ab : List (Addr × Addr)} {rs : List RowR}, Sgs H ab rs → (∀ q ∈ ab, R q.1 ∧ R q.2) → ∃ es, RdA R H (ab.map fun q => V.ref q.1) es ∧ AsRows rs es
  | _, _, .nil, _ => ⟨[], .nil, .nil⟩
  | _, _, .cons (q := q) (r := r) a t, k => by
    obtain ⟨es, h1, h2⟩ := Sgs.rd t fun q hq => k q (List.mem_cons_of_mem _ hq)
    obtain ⟨r1, r2⟩ := k q List.mem_cons_self
    obtain ⟨pd, hpd, rpd⟩ := a.plc.rd (R := R) (ds := strsD r.ps) r2 (RdA.strs r.ps)
    obtain ⟨e, he, re⟩ := a.row.rd (R := R) (ds := .str r.nm :: pd :: strsD r.rest) r1 (.cons (.str _) (.cons rpd (RdA.strs r.rest)))
    exact ⟨e :: es, .cons re h1, .cons ⟨pd, hpd, he⟩ h2⟩
/-- their addresses -/
def flat (ab : List (Addr × Addr)) : List Addr := ab.flatMap fun q => [q.1, q.2]
theorem mem_flat {ab : List (Addr × Addr)} {a : Addr} : a ∈ flat ab ↔ ∃ q ∈ ab, a = q.1 ∨ a = q.2 := by
  unfold flat
  rw [List.mem_flatMap]
  simp
def spSignsAs : Sp := fun vs H Q _ => ∃ (p : Addr) (v : V) (rows : List RowR), vs = [.ref p, v] ∧ PotAt H p ∧ RdV (fun a => a ≠ p) H v (.list (rows.map rowL)) ∧ rows.length ≤ 100 ∧ (∀ r ∈ rows, r.rest.length ≤ 1) ∧
  ∀ l H' ab, H l = none → H' l = some (.lst (ab.map fun q => V.ref q.1)) → Sgs H' ab rows → (l :: flat ab).Nodup → (∀ a ∈ flat ab, H a = none) → Went p H H' → Q (.ref l) H'
theorem ok_signs_as (F : FunAt K mg "_law_signs_as" s_law_signs_as ["_law_pot_here", "_law_signs"]) (Z : Bl mg) (D_law_as : Def P w K mg base "_law_as" 2 ["_law_pot_here", "_law_row"] spAs) : Def P w K mg base "_law_signs_as" 3 ["_law_pot_here", "_law_signs"] spSignsAs := by
  have SC := sc_law_signs_as
  refine F.mk' (k := 2) sc_law_signs_as (fun vs H Q E h => ?_) (fun f cdv A outer s H vs Q E hr h => ?_)
  · obtain ⟨p, v, rows, rfl, _⟩ := h
    rfl
  · obtain ⟨p, v, rows, rfl, hp, hv, hrl, hrest, q⟩ := h
    obtain ⟨sA, sx, rfl, nsp, hsA, hsx⟩ := hv.list_inv
    have sxl : sx.length = rows.length := by rw [hsx.length, List.length_map]
    refine' ⟨_, ?derivation, ?_⟩
    case derivation =>
      refine' pss_cons ?h0 ?h1
      case h0 =>
        refine' ps_set (i := 2) (x := Str.ofString "_law_made") ?h2 ?h3 ?h4 ?h5 ?h6 ?h7
        case h2 => exact SC.nd
        case h3 => exact rfl
        case h4 => exact (Or.inl lk_law_signs_as__law_made)
        case h5 =>
          refine' pe_lst ?h8
          case h8 => exact pa_nil
        case h6 => rfl
        case h7 => exact .inl rfl
      case h1 =>
        refine' pss_cons ?h9 ?h10
        case h9 =>
          refine' ps_for ?h11 ?h12 ?h13 ?h14 ?h15 ?h16
          case h11 => exact PassesOwn.never
          case h12 => exact rfl
          case h13 =>
            refine' pi_list ?h17
            case h17 => exact (pq 1 (x := Str.ofString "_law_signs") (visL lk_law_signs_as__law_signs) nd_FE__law_signs nc_FE__law_signs)
          case h14 =>
            refine' pg_name (i := 3) (x := Str.ofString "_law_sign") ?h18 ?h19 ?h20 ?h21
            case h18 => exact SC.nd
            case h19 => exact rfl
            case h20 => exact (Or.inl lk_law_signs_as__law_sign)
            case h21 => exact (.inl rfl)
          case h15 =>
            refine' pss_cons ?h22 ?h23
            case h22 =>
              refine' ps_set (i := 4) (x := Str.ofString "_law_inner") ?h24 ?h25 ?h26 ?h27 ?h28 ?h29
              case h24 => exact SC.nd
              case h25 => exact rfl
              case h26 => exact (Or.inl lk_law_signs_as__law_inner)
              case h27 =>
                refine' pe_op ?h30 ?h31 ?h32
                case h30 => exact op_cat
                case h31 =>
                  refine' pe_lst ?h33
                  case h33 =>
                    refine' pa_cons ?h34 ?h35 ?h36
                    case h34 =>
                      refine' pe_ix ?h37 ?h38 ?h39 ?h40
                      case h37 => exact ix_tup
                      case h38 => exact (pq 3 (x := Str.ofString "_law_sign") (visL lk_law_signs_as__law_sign) nd_FE__law_sign nc_FE__law_sign)
                      case h39 => exact pe_int
                      case h40 =>
                        intro _ _
                        exact rfl
                    case h35 =>
                      refine' pa_cons ?h41 ?h42 ?h43
                      case h41 =>
                        refine' pe_def (hdb := nd_FE__law_as) ?h44 ?h45 ?h46 ?h47 ?h48 ?h49
                        case h44 => exact D_law_as
                        case h45 => exact (hr.mono (by decide))
                        case h46 => exact lk_law_signs_as__law_as
                        case h47 =>
                          refine' pa_cons ?h50 ?h51 ?h52
                          case h50 => exact (pq 0 (x := Str.ofString "_law_pot_here") (visL lk_law_signs_as__law_pot_here) nd_FE__law_pot_here nc_FE__law_pot_here)
                          case h51 =>
                            refine' pa_cons ?h53 ?h54 ?h55
                            case h53 =>
                              refine' pe_ix ?h56 ?h57 ?h58 ?h59
                              case h56 => exact ix_tup
                              case h57 => exact (pq 3 (x := Str.ofString "_law_sign") (visL lk_law_signs_as__law_sign) nd_FE__law_sign nc_FE__law_sign)
                              case h58 => exact pe_int
                              case h59 =>
                                intro _ _
                                exact rfl
                            case h54 => exact pa_nil
                            case h55 => rfl
                          case h52 => rfl
                        case h48 => rfl
                        case h49 => rfl
                      case h42 => exact pa_nil
                      case h43 => rfl
                    case h36 => rfl
                case h32 =>
                  refine' pe_callTy (hn := nn_FE_list) (hdb := nd_FE_list) ?h60 ?h61 ?h62 ?h63 ?h64 ?h65 ?h66
                  case h60 => exact call_list_of
                  case h61 => exact lk_law_signs_as_list
                  case h62 => exact Z.n_list
                  case h63 => exact bt_list
                  case h64 =>
                    refine' pa_cons ?h67 ?h68 ?h69
                    case h67 =>
                      refine' pe_slice ?h70 ?h71 ?h72 ?h73
                      case h70 => exact sl_tup
                      case h71 => exact (pq 3 (x := Str.ofString "_law_sign") (visL lk_law_signs_as__law_sign) nd_FE__law_sign nc_FE__law_sign)
                      case h72 =>
                        refine' po_some ?h74
                        case h74 => exact pe_int
                      case h73 => exact po_none
                    case h68 => exact pa_nil
                    case h69 => rfl
                  case h65 => rfl
                  case h66 => rfl
              case h28 => rfl
              case h29 => exact .inl rfl
            case h23 =>
              refine' pss_one ?h75
              case h75 =>
                refine' ps_expr ?h76 ?h77
                case h76 =>
                  refine' pe_bm ?h78 ?h79 ?h80 ?h81 ?h82 ?h83 ?h84 ?h85 ?h86 ?h87 ?h88
                  case h78 => exact PySem.F.plainAttrs_list
                  case h79 => exact PySem.F.slot_list_append
                  case h80 => exact PySem.F.type_list_append
                  case h81 => exact mt_append
                  case h82 => exact (pq 2 (x := Str.ofString "_law_made") (visL lk_law_signs_as__law_made) nd_FE__law_made nc_FE__law_made)
                  case h83 =>
                    refine' pa_cons ?h89 ?h90 ?h91
                    case h89 =>
                      refine' pe_def (hdb := nd_FE__law_as) ?h92 ?h93 ?h94 ?h95 ?h96 ?h97
                      case h92 => exact D_law_as
                      case h93 => exact (hr.mono (by decide))
                      case h94 => exact lk_law_signs_as__law_as
                      case h95 =>
                        refine' pa_cons ?h98 ?h99 ?h100
                        case h98 => exact (pq 0 (x := Str.ofString "_law_pot_here") (visL lk_law_signs_as__law_pot_here) nd_FE__law_pot_here nc_FE__law_pot_here)
                        case h99 =>
                          refine' pa_cons ?h101 ?h102 ?h103
                          case h101 => exact (pq 4 (x := Str.ofString "_law_inner") (visL lk_law_signs_as__law_inner) nd_FE__law_inner nc_FE__law_inner)
                          case h102 => exact pa_nil
                          case h103 => rfl
                        case h100 => rfl
                      case h96 => rfl
                      case h97 => rfl
                    case h90 => exact pa_nil
                    case h91 => rfl
                  case h84 => rfl
                  case h85 => rfl
                  case h86 => rfl
                  case h87 => rfl
                  case h88 => rfl
                case h77 => rfl
          case h16 => intro _; rfl
        case h10 =>
          refine' pss_one ?h104
          case h104 =>
            refine' ps_ret ?h105
            case h105 => exact (pq 2 (x := Str.ofString "_law_made") (visL lk_law_signs_as__law_made) nd_FE__law_made nc_FE__law_made)
    refine ⟨by show 0 ≤ sizeLine; decide, fun M hM => ?_⟩
    have W0 := (Went.refl hp).new hM (.lst [])
    have npM : M ≠ p := Ne.symm ((Went.refl hp).ne hM)
    have pne : ∀ a, H a = none → a ≠ p := fun a e => by rintro rfl; obtain ⟨o, e2⟩ := hp.some; rw [e] at e2; cases e2
    refine ⟨_, rfl, sA, rfl, ⟨_, SqL.of (W0.at nsp hsA)⟩, for_list (K := K) (a := sA) (xs := sx) (fun i σ H2 => ∃ (ab : List (Addr × Addr)) (v3 v4 : Option V), σ = [some (.ref p), some (.ref sA), some (.ref M), v3, v4] ∧ H2 M = some (.lst (ab.map fun q => V.ref q.1)) ∧ Sgs H2 ab (rows.take i) ∧ (M :: flat ab).Nodup ∧ (∀ a ∈ flat ab, H a = none) ∧ Went p H H2)
      ⟨[], none, none, rfl, upd_same, .nil, (by simp [flat]), (by simp [flat]), W0⟩ (fun i σ H2 _ ⟨_, _, _, _, _, _, _, _, z⟩ => SqL.of (z.at nsp hsA)) ?_ ?_⟩
    · rintro i y σ H2 hi ⟨ab, v3, v4, rfl, hM2, hE, hnd, hfr, W⟩
      obtain ⟨d, hd, rx⟩ := hsx.getV hi
      rw [List.getElem?_map] at hd
      obtain ⟨r, hr', rfl⟩ := Option.map_eq_some_iff.mp hd
      have hil : i < rows.length := (List.getElem?_eq_some_iff.mp hr').1
      have hr1 : r.rest.length ≤ 1 := hrest r (List.mem_of_getElem? hr')
      obtain ⟨pt, px, rfl, npt, hpt, hpx⟩ := rx.tuple_inv
      cases hpx with | cons a1 t1 => cases t1 with | cons a2 t2 =>
      obtain rfl := a1.str_inv
      obtain ⟨pa, pax, rfl, npa, hpa, hpax⟩ := a2.list_inv
      obtain rfl := hpax.strs_inv
      obtain rfl := RdA.strs_inv t2
      have evl : ab.length = i := by
        have := hE.length
        rw [List.length_take] at this
        omega
      refine ⟨_, rfl, pt, _, _, _, rfl, rfl, SqT.of (W.at npt hpt), atI_int (x := V.str r.nm) (by decide) rfl, _, rfl, _, rfl, pt, _, _, _, rfl, rfl, SqT.of (W.at npt hpt), atI_int (x := V.ref pa) (by decide) rfl, p, pa, _, rfl, W.pot, W.at npa hpa, fun l H3 hl hor W3 => ?_⟩
      have V3 : Went p H H3 := W.trans W3
      refine ⟨by show 2 ≤ sizeLine; decide, fun I1 hI1 => ?_⟩
      have V4 := V3.new hI1 (.lst [.str r.nm, .ref l])
      refine ⟨_, rfl, _, rfl, pt, _, rfl, SqT.of (V4.at npt hpt), ?_, fun T hT => ?_⟩
      · intro z
        have z1 := z.1
        have : HT.sIx (V.str r.nm :: V.ref pa :: r.rest.map V.str).length 0 (some 2) = 2 := by
          simp only [List.length_cons, List.length_map]
          have h01 : r.rest.length = 0 ∨ r.rest.length = 1 := by omega
          rcases h01 with h | h <;> rw [h] <;> decide
        rw [this] at z1
        omega
      have hcut : cutV (V.str r.nm :: V.ref pa :: r.rest.map V.str) (some 2) none = r.rest.map V.str := by
        have h01 : r.rest = [] ∨ ∃ x, r.rest = [x] := by
          match hh : r.rest with
          | [] => exact .inl rfl
          | [x] => exact .inr ⟨x, rfl⟩
          | x :: y :: z => rw [hh] at hr1; simp at hr1
        rcases h01 with h | ⟨x, h⟩ <;> rw [h] <;> rfl
      rw [hcut]
      have V5 := V4.new hT (.tup (r.rest.map V.str))
      refine ⟨T, _, rfl, .inr (SqT.of upd_same), fun l2 hl2 => ?_⟩
      have V6 := V5.new hl2 (.lst (r.rest.map V.str))
      have nI1T : I1 ≠ T := ne_of_none upd_same hT
      have hI1' : (upd (upd (upd H3 I1 (.lst [.str r.nm, .ref l])) T (.tup (r.rest.map V.str))) l2 (.lst (r.rest.map V.str))) I1 = some (.lst [.str r.nm, .ref l]) := by
        have e5 : (upd (upd H3 I1 (.lst [.str r.nm, .ref l])) T (.tup (r.rest.map V.str))) I1 = some (.lst [.str r.nm, .ref l]) := by rw [upd_ne nI1T]; exact upd_same
        rw [upd_ne (ne_of_none e5 hl2)]; exact e5
      refine ⟨I1, l2, _, _, rfl, rfl, hI1', upd_same, ?_, fun I2 hI2 => ?_⟩
      · rw [List.length_map]; exact Nat.le_trans (show 2 + r.rest.length ≤ 100 by omega) (by decide)
      have V7 := V6.new hI2 (.lst ([.str r.nm, .ref l] ++ r.rest.map V.str))
      have sm : Same H3 (upd (upd (upd (upd H3 I1 (.lst [.str r.nm, .ref l])) T (.tup (r.rest.map V.str))) l2 (.lst (r.rest.map V.str))) I2 (.lst ([.str r.nm, .ref l] ++ r.rest.map V.str))) := (((same_new hI1 _).trans (same_new hT _)).trans (same_new hl2 _)).trans (same_new hI2 _)
      have hM3 : H3 M = some (.lst (ab.map fun q => V.ref q.1)) := W3.at npM hM2
      refine ⟨_, rfl, .inl ⟨rfl, _, SqL.of (sm _ _ hM3)⟩, _, rfl, _, rfl, p, I2, _, rfl, V7.pot, upd_same, fun l3 H8 hl3 hor3 W8 => ?_⟩
      have V8 := V7.trans W8
      have hM8 : H8 M = some (.lst (ab.map fun q => V.ref q.1)) := W8.at npM (sm _ _ hM3)
      refine ⟨M, _, _, rfl, rfl, hM8, Nat.lt_of_lt_of_le (show _ < 101 by rw [List.length_map]; omega) (by decide), ?_⟩
      have nl3M : l3 ≠ M := by rintro rfl; rw [sm _ _ hM3] at hl3; cases hl3
      have nlM : l ≠ M := by rintro rfl; rw [hM2] at hl; cases hl
      have lfree : H l = none := W.free hl
      have l3free : H l3 = none := V7.free hl3
      obtain ⟨ol, hol⟩ := LT.some (H := H3) hor
      have nl3l : l3 ≠ l := by rintro rfl; rw [sm _ _ hol] at hl3; cases hl3
      have hMab : ∀ a ∈ flat ab, a ≠ M := fun a ha z => by rw [z] at ha; exact (List.nodup_cons.mp hnd).1 ha
      have st : ∀ a o, H a = none → a ≠ M → H3 a = some o → (upd H8 M (.lst (ab.map (fun q => V.ref q.1) ++ [.ref l3]))) a = some o := fun a o z1 z2 e => by rw [upd_ne z2]; exact W8.at (pne a z1) (sm a o e)
      have hE3 : Sgs H3 ab (rows.take i) := hE.mono fun q hq o => ⟨fun e => W3.at (pne _ (hfr _ (mem_flat.mpr ⟨q, hq, .inl rfl⟩))) e, fun e => W3.at (pne _ (hfr _ (mem_flat.mpr ⟨q, hq, .inr rfl⟩))) e⟩
      have hE8 := hE3.mono (H' := upd H8 M (.lst (ab.map (fun q => V.ref q.1) ++ [.ref l3]))) fun q hq o => ⟨fun e => st _ _ (hfr _ (mem_flat.mpr ⟨q, hq, .inl rfl⟩)) (hMab _ (mem_flat.mpr ⟨q, hq, .inl rfl⟩)) e, fun e => st _ _ (hfr _ (mem_flat.mpr ⟨q, hq, .inr rfl⟩)) (hMab _ (mem_flat.mpr ⟨q, hq, .inr rfl⟩)) e⟩
      have hnew : SgAt (upd H8 M (.lst (ab.map (fun q => V.ref q.1) ++ [.ref l3]))) (l3, l) r := ⟨LT.mono (H := H8) hor3 fun o e => by show upd H8 M _ l3 = some o; rw [upd_ne nl3M]; exact e, LT.mono (H := H3) hor fun o e => st l o lfree nlM e⟩
      have inH3 : ∀ a ∈ flat ab, ∃ o, H3 a = some o := fun a ha => by
        obtain ⟨q, hq, rfl | rfl⟩ := mem_flat.mp ha
        · exact (hE3.has q hq).1
        · exact (hE3.has q hq).2
      have inH2 : ∀ a ∈ flat ab, ∃ o, H2 a = some o := fun a ha => by
        obtain ⟨q, hq, rfl | rfl⟩ := mem_flat.mp ha
        · exact (hE.has q hq).1
        · exact (hE.has q hq).2
      have hfl : flat (ab ++ [(l3, l)]) = flat ab ++ [l3, l] := by unfold flat; rw [List.flatMap_append]; rfl
      have e' : rows.take (i + 1) = rows.take i ++ [r] := by rw [List.take_succ, hr']; rfl
      refine ⟨ab ++ [(l3, l)], _, _, rfl, by rw [upd_same]; simp, by rw [e']; exact hE8.snoc hnew, ?_, ?_, V8.put (Ne.symm npM) hM _⟩
      · rw [hfl]
        obtain ⟨n1, n2⟩ := List.nodup_cons.mp hnd
        refine List.nodup_cons.mpr ⟨fun z => ?_, ?_⟩
        · rcases List.mem_append.mp z with z | z
          · exact n1 z
          · rcases List.mem_cons.mp z with z | z
            · exact nl3M z.symm
            · exact nlM (List.mem_singleton.mp z).symm
        · refine List.nodup_append.mpr ⟨n2, ?_, ?_⟩
          · exact List.nodup_cons.mpr ⟨fun z => nl3l (List.mem_singleton.mp z), List.nodup_cons.mpr ⟨(fun z => nomatch z), List.nodup_nil⟩⟩
          · intro a ha b hb
            rintro rfl
            rcases List.mem_cons.mp hb with rfl | hb
            · obtain ⟨o, e⟩ := inH3 _ ha
              rw [sm _ _ e] at hl3; cases hl3
            · rw [List.mem_singleton.mp hb] at ha
              obtain ⟨o, e⟩ := inH2 _ ha
              rw [e] at hl; cases hl
      · rw [hfl]
        intro a ha
        rcases List.mem_append.mp ha with ha | ha
        · exact hfr a ha
        · rcases List.mem_cons.mp ha with rfl | ha
          · exact l3free
          · rw [List.mem_singleton.mp ha]; exact lfree
    · rintro σ H2 ⟨ab, v3, v4, rfl, hM2, hE, hnd, hfr, W⟩
      rw [sxl, List.take_length] at hE
      exact ⟨_, rfl, q _ _ ab hM hM2 hE hnd hfr W⟩
end
end Few

set_option Elab.async false
set_option linter.all false
set_option maxRecDepth 100000
set_option maxHeartbeats 1000000
namespace L2
open PySem PySem.Spec PyProof.Rows
section
variable {X : Cx} {tg : Expr}
theorem PI.or {l : Expr} {wi wi' : TI} (h : PI X tg l wi) (h' : PI X tg l wi') : PI X tg l (fun σ H R => wi σ H R ∨ wi' σ H R) := by
  intro pins s σ H R I q
  rcases q with q | q
  · exact h pins s σ H R I q
  · exact h' pins s σ H R I q
def iSeq (K : PySem.W.Frag) (tl : TE) : TI := fun σ H R => iList K tl σ H R ∨ iTup K tl σ H R
theorem pi_seq {l : Expr} {tl : TE} (hl : PE X l tl) : PI X tg l (iSeq X.K tl) := (pi_list hl).or (pi_tup hl)
theorem kit_str2 (K : PySem.W.Frag) : PySem.W.kitAny K (.type "str") [.type "list", .type "tuple"] = some false := rfl
theorem kit_list2 (K : PySem.W.Frag) : PySem.W.kitAny K (.type "list") [.type "list", .type "tuple"] = some true := rfl
theorem kit_tuple2 (K : PySem.W.Frag) : PySem.W.kitAny K (.type "tuple") [.type "list", .type "tuple"] = some true := rfl
theorem kit_list1 (K : PySem.W.Frag) : PySem.W.kitOne K (.type "list") (.type "list") = some true := rfl
theorem kit_tuple1 (K : PySem.W.Frag) : PySem.W.kitOne K (.type "tuple") (.type "list") = some false := rfl
theorem kit_str1 (K : PySem.W.Frag) : PySem.W.kitOne K (.type "str") (.type "str") = some true := rfl
/-- a word between two statements -/
theorem seq_mid {t u : TS} {D : Ends} {σ : St} {H : Hp} (Mid : St → Hp → Prop) (hu : ∀ σ' H', Mid σ' H' → u D σ' H') (h : (∀ σ' H', Mid σ' H' → u D σ' H') → t { D with nx := u D } σ H) : tSeq t u D σ H := h hu
end
end L2
namespace Few
open PySem L2
theorem LT.len {H : Hp} {a : Addr} {xs ys : List V} (h : LT H a xs) (h' : LT H a ys) : xs = ys := by
  rcases h with h | h <;> rcases h' with h' | h' <;> (rw [h] at h'; first | (cases h'; rfl) | cases h')
theorem LT.sq {K : PySem.W.Frag} {H : Hp} {a : Addr} {xs : List V} (h : LT H a xs) : SqL K H a xs ∨ SqT K H a xs := h.elim (fun e => .inl (SqL.of e)) fun e => .inr (SqT.of e)
theorem LT.ix {K : PySem.W.Frag} {H : Hp} {p : Addr} {xs : List V} {i : Int} {v : V} {Q : VK} (h : LT H p xs) (e : atI xs i = Option.some v) (q : Q v H) : rIx K (.ref p) (.int i) H Q := by
  rcases h with h | h
  · exact .inl ⟨p, xs, i, v, rfl, rfl, SqL.of h, e, q⟩
  · exact .inr (.inl ⟨p, xs, i, v, rfl, rfl, SqT.of h, e, q⟩)
theorem LT.isi {K : PySem.W.Frag} {H : Hp} {p : Addr} {xs : List V} (h : LT H p xs) : ∃ (t : Value) (b : Bool), TyOf K H (.ref p) t ∧ PySem.W.kitOne K t (.type "list") = Option.some b ∧ ((b = true ∧ H p = Option.some (.lst xs)) ∨ (b = false ∧ H p = Option.some (.tup xs))) := by
  rcases h with h | h
  · exact ⟨_, _, .lst h, kit_list1 K, .inl ⟨rfl, h⟩⟩
  · exact ⟨_, _, .tup h, kit_tuple1 K, .inr ⟨rfl, h⟩⟩
theorem LT.isi2 {K : PySem.W.Frag} {H : Hp} {p : Addr} {xs : List V} (h : LT H p xs) : ∃ (t : Value), TyOf K H (.ref p) t ∧ PySem.W.kitAny K t [.type "list", .type "tuple"] = Option.some true := by
  rcases h with h | h
  · exact ⟨_, .lst h, kit_list2 K⟩
  · exact ⟨_, .tup h, kit_tuple2 K⟩
/-- how an iterator goes over xs at a, wherever a is kept -/
structure Over (H : Hp) (a : Addr) (xs : List V) (J : It) : Prop where
  go : ∀ i H', (∀ o, H a = Option.some o → H' a = Option.some o) → i < xs.length → J.go i H' ∧ ∀ x H'', J.yld i H' x H'' → H'' = H' ∧ xs[i]? = Option.some x
  stop : ∀ H', (∀ o, H a = Option.some o → H' a = Option.some o) → J.stop xs.length H'
theorem LT.over {K : PySem.W.Frag} {H : Hp} {a : Addr} {xs : List V} {i : Nat} {σ : St} {R : It → Hp → Prop} (h : LT H a xs) (hv : σ[i]? = Option.some (Option.some (.ref a))) (k : ∀ J, Over H a xs J → R J H) : iSeq K (tVar i) σ H R := by
  rcases h with h | h
  · exact .inl ⟨_, hv, a, rfl, ⟨_, SqL.of h⟩, k _ ⟨fun i H' kp hi => go_list (SqL.of (kp _ h)) hi, fun H' kp => stop_list (SqL.of (kp _ h))⟩⟩
  · exact .inr ⟨_, hv, a, rfl, ⟨_, SqT.of h⟩, k _ ⟨fun i H' kp hi => go_tup (SqT.of (kp _ h)) hi, fun H' kp => stop_tup (SqT.of (kp _ h))⟩⟩
theorem Over.loop {J : It} {H0 : Hp} {a : Addr} {xs : List V} {g : TG} {tb : TS} {D : Ends} {σ : St} {H : Hp} (O : Over H0 a xs J) (Pv : Nat → St → Hp → Prop) (h0 : Pv 0 σ H) (hl : ∀ i σ H, i ≤ xs.length → Pv i σ H → ∀ o, H0 a = Option.some o → H a = Option.some o)
    (hs : ∀ i x σ H, xs[i]? = Option.some x → Pv i σ H → g x σ H fun σ2 H2 => tb { D with nx := Pv (i + 1), ct := Pv (i + 1), bk := D.nx } σ2 H2) (hd : ∀ σ H, Pv xs.length σ H → D.nx σ H) :
    ∃ W : Nat → Nat → St → Hp → Prop, (∃ m, W 0 m σ H) ∧ ∀ i m σ H, W i m σ H →
      (J.stop i H ∧ D.nx σ H) ∨ (J.go i H ∧ ∃ N : St → Hp → Prop, (∀ σ' H', N σ' H' → ∃ m', m' < m ∧ W (i + 1) m' σ' H') ∧ ∀ x H', J.yld i H x H' → g x σ H' fun σ2 H2 => tb { D with nx := N, ct := N, bk := D.nx } σ2 H2) := by
  refine ⟨fun i m σ H => m = xs.length - i ∧ i ≤ xs.length ∧ Pv i σ H, ⟨xs.length, by simp, Nat.zero_le _, h0⟩, ?_⟩
  rintro i m σ H ⟨rfl, hi, p⟩
  have q := hl i σ H hi p
  by_cases hlt : i < xs.length
  · obtain ⟨g1, g2⟩ := O.go i H q hlt
    refine .inr ⟨g1, Pv (i + 1), fun σ' H' p' => ⟨xs.length - (i + 1), by omega, rfl, hlt, p'⟩, fun x H' y => ?_⟩
    obtain ⟨e, y'⟩ := g2 x H' y
    subst e
    exact hs i x σ _ y' p
  · have e : i = xs.length := by omega
    subst e
    exact .inl ⟨O.stop H q, hd σ H p⟩
/-- a comprehension over it -/
theorem Over.comp {J : It} {H0 : Hp} {a : Addr} {xs : List V} {te : TE} {σ : St} {H : Hp} {Q : VK} (O : Over H0 a xs J) (Pv : Nat → List V → Hp → Prop) (h0 : Pv 0 [] H) (hz : xs.length ≤ sizeLine) (hl : ∀ i ys H, i ≤ xs.length → Pv i ys H → ∀ o, H0 a = Option.some o → H a = Option.some o)
    (hs : ∀ i x ys H, xs[i]? = Option.some x → ys.length = i → Pv i ys H → te (Option.some x :: σ) H fun v H3 => Pv (i + 1) (ys ++ [v]) H3)
    (hd : ∀ ys H, ys.length = xs.length → Pv xs.length ys H → ∀ D, H D = none → Q (.ref D) (upd H D (.lst ys))) : CompOk 1 J (gName 0) te σ H Q :=
  comp_it1 xs.length Pv (fun i x => xs[i]? = Option.some x) h0 hz (fun i ys H hi hy p => O.go i H (hl i ys H (Nat.le_of_lt hi) p) hi) (fun ys H hy p => O.stop H (hl _ ys H (Nat.le_refl _) p)) (fun i x ys H hi hx hy p => hs i x ys H hx hy p) hd
end Few

set_option Elab.async false
set_option linter.all false
set_option maxRecDepth 100000
set_option maxHeartbeats 1000000
namespace Few
open PySem L2
theorem nd_FF__law_handed : ((Str.ofString "_law_handed" : Str) == ("__debug__" : Str)) = false := by decide +kernel
theorem nc_FF__law_handed : ((Str.ofString "_law_handed" : Str) == ("__classdict__" : Str)) = false := by decide +kernel
theorem nn_FF__law_handed : (Str.ofString "_law_handed" : Str) ≠ "__name__" := by decide +kernel
theorem nd_FF__law_row : ((Str.ofString "_law_row" : Str) == ("__debug__" : Str)) = false := by decide +kernel
theorem nc_FF__law_row : ((Str.ofString "_law_row" : Str) == ("__classdict__" : Str)) = false := by decide +kernel
theorem nn_FF__law_row : (Str.ofString "_law_row" : Str) ≠ "__name__" := by decide +kernel
theorem nd_FF__law_sign : ((Str.ofString "_law_sign" : Str) == ("__debug__" : Str)) = false := by decide +kernel
theorem nc_FF__law_sign : ((Str.ofString "_law_sign" : Str) == ("__classdict__" : Str)) = false := by decide +kernel
theorem nn_FF__law_sign : (Str.ofString "_law_sign" : Str) ≠ "__name__" := by decide +kernel
theorem nd_FF_isinstance : ((Str.ofString "isinstance" : Str) == ("__debug__" : Str)) = false := by decide +kernel
theorem nc_FF_isinstance : ((Str.ofString "isinstance" : Str) == ("__classdict__" : Str)) = false := by decide +kernel
theorem nn_FF_isinstance : (Str.ofString "isinstance" : Str) ≠ "__name__" := by decide +kernel
theorem nd_FF_list : ((Str.ofString "list" : Str) == ("__debug__" : Str)) = false := by decide +kernel
theorem nc_FF_list : ((Str.ofString "list" : Str) == ("__classdict__" : Str)) = false := by decide +kernel
theorem nn_FF_list : (Str.ofString "list" : Str) ≠ "__name__" := by decide +kernel
theorem nd_FF_tuple : ((Str.ofString "tuple" : Str) == ("__debug__" : Str)) = false := by decide +kernel
theorem nc_FF_tuple : ((Str.ofString "tuple" : Str) == ("__classdict__" : Str)) = false := by decide +kernel
theorem nn_FF_tuple : (Str.ofString "tuple" : Str) ≠ "__name__" := by decide +kernel
/-- a thing in a row that is handed in: a text, or a sign with its places -/
def ElOk (H : Hp) (x : V) (fp : List Addr) : Prop := (∃ k : Str, x = .str k ∧ fp = []) ∨ ∃ q r, x = .ref q.1 ∧ SgAt H q r ∧ fp = [q.1, q.2]
theorem ElOk.mono {H H' : Hp} {x : V} {fp : List Addr} (h : ElOk H x fp) (k : ∀ a ∈ fp, ∀ o, H a = some o → H' a = some o) : ElOk H' x fp := by
  rcases h with h | ⟨q, r, e, s, rfl⟩
  · exact .inl h
  · exact .inr ⟨q, r, e, s.mono (k _ (by simp)) (k _ (by simp)), rfl⟩
/-- a row of what is handed in -/
def RowOk (H : Hp) (r : Addr) (fp : List Addr) : Prop := ∃ els : List (V × List Addr), LT H r (els.map (·.1)) ∧ (∀ e ∈ els, ElOk H e.1 e.2) ∧ fp = els.flatMap (·.2)
theorem RowOk.mono {H H' : Hp} {r : Addr} {fp : List Addr} (h : RowOk H r fp) (k : ∀ a ∈ r :: fp, ∀ o, H a = some o → H' a = some o) : RowOk H' r fp := by
  obtain ⟨els, h1, h2, rfl⟩ := h
  exact ⟨els, h1.mono (k r List.mem_cons_self), fun e he => (h2 e he).mono fun a ha => k a (List.mem_cons_of_mem _ (List.mem_flatMap.mpr ⟨e, he, ha⟩)), rfl⟩
/-- only at fp something has changed, and no tuple -/
structure But (fp : List Addr) (H H' : Hp) : Prop where
  keep : ∀ b o, ¬ b ∈ fp → H b = some o → H' b = some o
  tups : ∀ b xs, H b = some (.tup xs) → H' b = some (.tup xs)
theorem But.refl (fp : List Addr) (H : Hp) : But fp H H := ⟨fun _ _ _ e => e, fun _ _ e => e⟩
theorem But.same {fp : List Addr} {H H1 H2 : Hp} (a : But fp H H1) (b : Same H1 H2) : But fp H H2 := ⟨fun c o n e => b _ _ (a.keep c o n e), fun c xs e => b _ _ (a.tups c xs e)⟩
theorem But.trans {fp fq : List Addr} {H H1 H2 : Hp} (a : But fp H H1) (b : But fq H1 H2) (hs : ∀ x ∈ fq, x ∈ fp) : But fp H H2 := ⟨fun c o n e => b.keep c o (fun z => n (hs c z)) (a.keep c o n e), fun c xs e => b.tups _ _ (a.tups c xs e)⟩
theorem But.clear {fp : List Addr} {H H1 : Hp} {l : Addr} {xs : List V} (a : But fp H H1) (h : H1 l = some (.lst xs)) (hl : l ∈ fp) : But fp H (upd H1 l (.lst [])) :=
  ⟨fun c o n e => by rw [upd_ne (fun z => n (by rw [z]; exact hl))]; exact a.keep c o n e, fun c ys e => by
    have e1 := a.tups c ys e
    rw [upd_ne (fun z => by rw [z, h] at e1; cases e1)]; exact e1⟩
theorem But.mono {fp fq : List Addr} {H H1 : Hp} (a : But fp H H1) (hs : ∀ x ∈ fp, x ∈ fq) : But fq H H1 := ⟨fun c o n e => a.keep c o (fun z => n (hs c z)) e, a.tups⟩
/-- parts of a list of lists without repetition -/
theorem flat_at {α β : Type} (f : α → List β) {l : List α} {i : Nat} {x : α} (hx : l[i]? = some x) (hn : (l.flatMap f).Nodup) : (f x).Nodup ∧ ∀ y ∈ l.drop (i + 1), ∀ b ∈ f y, ¬ b ∈ f x := by
  have hil : i < l.length := (List.getElem?_eq_some_iff.mp hx).1
  have e : l = l.take i ++ x :: l.drop (i + 1) := by
    have h1 : l.drop i = x :: l.drop (i + 1) := by
      rw [List.drop_eq_getElem_cons hil, (List.getElem?_eq_some_iff.mp hx).2]
    rw [← h1, List.take_append_drop]
  rw [e, List.flatMap_append, List.flatMap_cons] at hn
  obtain ⟨_, h2, _⟩ := List.nodup_append.mp hn
  obtain ⟨h3, _, h5⟩ := List.nodup_append.mp h2
  refine ⟨h3, fun y hy b hb z => ?_⟩
  exact h5 b z b (List.mem_flatMap.mpr ⟨y, hy, hb⟩) rfl
section
variable {P : Program} {w : World} {K : PySem.W.Frag} {mg : Str → Option Value} {base : Heap}
abbrev s_law_empty : Stmt := top 30
theorem sc_law_empty : FnScope ["_law_handed", "_law_row", "_law_sign"] ["_law_handed"] (defScope s_law_empty) := ⟨rfl, rfl, rfl, by decide +kernel, rfl, by decide +kernel, by decide +kernel⟩
theorem lk_law_empty__law_handed : (defScope s_law_empty).names.lookup (Str.ofString "_law_handed") = some NameKind.local := by decide +kernel
theorem lk_law_empty__law_row : (defScope s_law_empty).names.lookup (Str.ofString "_law_row") = some NameKind.local := by decide +kernel
theorem lk_law_empty__law_sign : (defScope s_law_empty).names.lookup (Str.ofString "_law_sign") = some NameKind.local := by decide +kernel
theorem lk_law_empty_isinstance : (defScope s_law_empty).names.lookup (Str.ofString "isinstance") = some NameKind.globalImplicit := by decide +kernel
theorem lk_law_empty_list : (defScope s_law_empty).names.lookup (Str.ofString "list") = some NameKind.globalImplicit := by decide +kernel
theorem lk_law_empty_tuple : (defScope s_law_empty).names.lookup (Str.ofString "tuple") = some NameKind.globalImplicit := by decide +kernel
def spEmpty : Sp := fun vs H Q _ => ∃ (h : Addr) (regs : List (Addr × List Addr)), vs = [.ref h] ∧ H h = some (.lst (regs.map fun q => V.ref q.1)) ∧ (∀ q ∈ regs, RowOk H q.1 q.2) ∧ (h :: regs.flatMap fun q => q.1 :: q.2).Nodup ∧
  ∀ H', But (regs.flatMap fun q => q.1 :: q.2) H H' → Q .non H'
theorem ok_empty (F : FunAt K mg "_law_empty" s_law_empty ["_law_handed"]) (Z : Bl mg) : Def P w K mg base "_law_empty" 1 ["_law_handed"] spEmpty := by
  have SC := sc_law_empty
  refine F.mk' (k := 0) sc_law_empty (fun vs H Q E h => ?_) (fun f cdv A outer s H vs Q E hr h => ?_)
  · obtain ⟨h, regs, rfl, _⟩ := h
    rfl
  · obtain ⟨h, regs, rfl, hh, hok, hnd, q⟩ := h
    obtain ⟨hn1, hn2⟩ := List.nodup_cons.mp hnd
    refine' ⟨_, ?derivation, ?_⟩
    case derivation =>
      refine' pss_one ?h0
      case h0 =>
        refine' ps_for ?h1 ?h2 ?h3 ?h4 ?h5 ?h6
        case h1 => exact PassesOwn.never
        case h2 => exact rfl
        case h3 =>
          refine' pi_list ?h7
          case h7 => exact (pq 0 (x := Str.ofString "_law_handed") (visL lk_law_empty__law_handed) nd_FF__law_handed nc_FF__law_handed)
        case h4 =>
          refine' pg_name (i := 1) (x := Str.ofString "_law_row") ?h8 ?h9 ?h10 ?h11
          case h8 => exact SC.nd
          case h9 => exact rfl
          case h10 => exact (Or.inl lk_law_empty__law_row)
          case h11 => exact (.inl rfl)
        case h5 =>
          refine' pss_cons ?h12 ?h13
          case h12 =>
            refine' ps_for ?h14 ?h15 ?h16 ?h17 ?h18 ?h19
            case h14 => exact PassesOwn.never
            case h15 => exact rfl
            case h16 =>
              refine' pi_seq ?h20
              case h20 => exact (pq 1 (x := Str.ofString "_law_row") (visL lk_law_empty__law_row) nd_FF__law_row nc_FF__law_row)
            case h17 =>
              refine' pg_name (i := 2) (x := Str.ofString "_law_sign") ?h21 ?h22 ?h23 ?h24
              case h21 => exact SC.nd
              case h22 => exact rfl
              case h23 => exact (Or.inl lk_law_empty__law_sign)
              case h24 => exact (.inl rfl)
            case h18 =>
              refine' pss_one ?h25
              case h25 =>
                refine' ps_if ?h26 ?h27 ?h28
                case h26 =>
                  refine' pt_val ?h29 ?h30
                  case h29 =>
                    refine' pe_callB (hn := nn_FF_isinstance) (hdb := nd_FF_isinstance) ?h31 ?h32 ?h33 ?h34 ?h35 ?h36 ?h37
                    case h31 => exact (call_isi2 (T := "list") (U := "tuple"))
                    case h32 => exact lk_law_empty_isinstance
                    case h33 => exact Z.n_isinstance
                    case h34 => exact bt_isinstance
                    case h35 =>
                      refine' pa_cons ?h38 ?h39 ?h40
                      case h38 => exact (pq 2 (x := Str.ofString "_law_sign") (visL lk_law_empty__law_sign) nd_FF__law_sign nc_FF__law_sign)
                      case h39 =>
                        refine' pa_cons ?h41 ?h42 ?h43
                        case h41 =>
                          refine' pe_tup ?h44
                          case h44 =>
                            refine' pa_cons ?h45 ?h46 ?h47
                            case h45 =>
                              refine' pe_bltn (v := V.ty "list") (hn := nn_FF_list) (hd := nd_FF_list) ?h48 ?h49 ?h50 ?h51
                              case h48 => exact lk_law_empty_list
                              case h49 => exact Z.n_list
                              case h50 => exact bt_list
                              case h51 => exact rfl
                            case h46 =>
                              refine' pa_cons ?h52 ?h53 ?h54
                              case h52 =>
                                refine' pe_bltn (v := V.ty "tuple") (hn := nn_FF_tuple) (hd := nd_FF_tuple) ?h55 ?h56 ?h57 ?h58
                                case h55 => exact lk_law_empty_tuple
                                case h56 => exact Z.n_tuple
                                case h57 => exact bt_tuple
                                case h58 => exact rfl
                              case h53 => exact pa_nil
                              case h54 => rfl
                            case h47 => rfl
                        case h42 => exact pa_nil
                        case h43 => rfl
                      case h40 => rfl
                    case h36 => rfl
                    case h37 => rfl
                  case h30 => intro _; rfl
                case h27 =>
                  refine' pss_cons ?h59 ?h60
                  case h59 =>
                    refine' ps_if ?h61 ?h62 ?h63
                    case h61 =>
                      refine' pt_val ?h64 ?h65
                      case h64 =>
                        refine' pe_callB (hn := nn_FF_isinstance) (hdb := nd_FF_isinstance) ?h66 ?h67 ?h68 ?h69 ?h70 ?h71 ?h72
                        case h66 => exact (call_isiT (T := "list"))
                        case h67 => exact lk_law_empty_isinstance
                        case h68 => exact Z.n_isinstance
                        case h69 => exact bt_isinstance
                        case h70 =>
                          refine' pa_cons ?h73 ?h74 ?h75
                          case h73 =>
                            refine' pe_ix ?h76 ?h77 ?h78 ?h79
                            case h76 => exact ix_seq
                            case h77 => exact (pq 2 (x := Str.ofString "_law_sign") (visL lk_law_empty__law_sign) nd_FF__law_sign nc_FF__law_sign)
                            case h78 => exact pe_int
                            case h79 =>
                              intro _ _
                              exact rfl
                          case h74 =>
                            refine' pa_cons ?h80 ?h81 ?h82
                            case h80 =>
                              refine' pe_bltn (v := V.ty "list") (hn := nn_FF_list) (hd := nd_FF_list) ?h83 ?h84 ?h85 ?h86
                              case h83 => exact lk_law_empty_list
                              case h84 => exact Z.n_list
                              case h85 => exact bt_list
                              case h86 => exact rfl
                            case h81 => exact pa_nil
                            case h82 => rfl
                          case h75 => rfl
                        case h71 => rfl
                        case h72 => rfl
                      case h65 => intro _; rfl
                    case h62 =>
                      refine' pss_one ?h87
                      case h87 =>
                        refine' ps_expr ?h88 ?h89
                        case h88 =>
                          refine' pe_bm0 ?h90 ?h91 ?h92 ?h93 ?h94 ?h95 ?h96
                          case h90 => exact PySem.F.plainAttrs_list
                          case h91 => exact PySem.F.slot_list_clear
                          case h92 => exact PySem.F.type_list_clear
                          case h93 => exact mt_clear
                          case h94 =>
                            refine' pe_ix ?h97 ?h98 ?h99 ?h100
                            case h97 => exact ix_seq
                            case h98 => exact (pq 2 (x := Str.ofString "_law_sign") (visL lk_law_empty__law_sign) nd_FF__law_sign nc_FF__law_sign)
                            case h99 => exact pe_int
                            case h100 =>
                              intro _ _
                              exact rfl
                          case h95 => rfl
                          case h96 => rfl
                        case h89 => rfl
                    case h63 => exact pss_nil
                  case h60 =>
                    refine' pss_one ?h101
                    case h101 =>
                      refine' ps_if ?h102 ?h103 ?h104
                      case h102 =>
                        refine' pt_val ?h105 ?h106
                        case h105 =>
                          refine' pe_callB (hn := nn_FF_isinstance) (hdb := nd_FF_isinstance) ?h107 ?h108 ?h109 ?h110 ?h111 ?h112 ?h113
                          case h107 => exact (call_isiT (T := "list"))
                          case h108 => exact lk_law_empty_isinstance
                          case h109 => exact Z.n_isinstance
                          case h110 => exact bt_isinstance
                          case h111 =>
                            refine' pa_cons ?h114 ?h115 ?h116
                            case h114 => exact (pq 2 (x := Str.ofString "_law_sign") (visL lk_law_empty__law_sign) nd_FF__law_sign nc_FF__law_sign)
                            case h115 =>
                              refine' pa_cons ?h117 ?h118 ?h119
                              case h117 =>
                                refine' pe_bltn (v := V.ty "list") (hn := nn_FF_list) (hd := nd_FF_list) ?h120 ?h121 ?h122 ?h123
                                case h120 => exact lk_law_empty_list
                                case h121 => exact Z.n_list
                                case h122 => exact bt_list
                                case h123 => exact rfl
                              case h118 => exact pa_nil
                              case h119 => rfl
                            case h116 => rfl
                          case h112 => rfl
                          case h113 => rfl
                        case h106 => intro _; rfl
                      case h103 =>
                        refine' pss_one ?h124
                        case h124 =>
                          refine' ps_expr ?h125 ?h126
                          case h125 =>
                            refine' pe_bm0 ?h127 ?h128 ?h129 ?h130 ?h131 ?h132 ?h133
                            case h127 => exact PySem.F.plainAttrs_list
                            case h128 => exact PySem.F.slot_list_clear
                            case h129 => exact PySem.F.type_list_clear
                            case h130 => exact mt_clear
                            case h131 => exact (pq 2 (x := Str.ofString "_law_sign") (visL lk_law_empty__law_sign) nd_FF__law_sign nc_FF__law_sign)
                            case h132 => rfl
                            case h133 => rfl
                          case h126 => rfl
                      case h104 => exact pss_nil
                case h28 => exact pss_nil
            case h19 => intro _; rfl
          case h13 =>
            refine' pss_one ?h134
            case h134 =>
              refine' ps_if ?h135 ?h136 ?h137
              case h135 =>
                refine' pt_val ?h138 ?h139
                case h138 =>
                  refine' pe_callB (hn := nn_FF_isinstance) (hdb := nd_FF_isinstance) ?h140 ?h141 ?h142 ?h143 ?h144 ?h145 ?h146
                  case h140 => exact (call_isiT (T := "list"))
                  case h141 => exact lk_law_empty_isinstance
                  case h142 => exact Z.n_isinstance
                  case h143 => exact bt_isinstance
                  case h144 =>
                    refine' pa_cons ?h147 ?h148 ?h149
                    case h147 => exact (pq 1 (x := Str.ofString "_law_row") (visL lk_law_empty__law_row) nd_FF__law_row nc_FF__law_row)
                    case h148 =>
                      refine' pa_cons ?h150 ?h151 ?h152
                      case h150 =>
                        refine' pe_bltn (v := V.ty "list") (hn := nn_FF_list) (hd := nd_FF_list) ?h153 ?h154 ?h155 ?h156
                        case h153 => exact lk_law_empty_list
                        case h154 => exact Z.n_list
                        case h155 => exact bt_list
                        case h156 => exact rfl
                      case h151 => exact pa_nil
                      case h152 => rfl
                    case h149 => rfl
                  case h145 => rfl
                  case h146 => rfl
                case h139 => intro _; rfl
              case h136 =>
                refine' pss_one ?h157
                case h157 =>
                  refine' ps_expr ?h158 ?h159
                  case h158 =>
                    refine' pe_bm0 ?h160 ?h161 ?h162 ?h163 ?h164 ?h165 ?h166
                    case h160 => exact PySem.F.plainAttrs_list
                    case h161 => exact PySem.F.slot_list_clear
                    case h162 => exact PySem.F.type_list_clear
                    case h163 => exact mt_clear
                    case h164 => exact (pq 1 (x := Str.ofString "_law_row") (visL lk_law_empty__law_row) nd_FF__law_row nc_FF__law_row)
                    case h165 => rfl
                    case h166 => rfl
                  case h159 => rfl
              case h137 => exact pss_nil
        case h6 => intro _; rfl
    refine ⟨_, rfl, h, rfl, ⟨_, SqL.of hh⟩, for_list (K := K) (a := h) (xs := regs.map fun q => V.ref q.1) (fun i σ H2 => ∃ (v1 v2 : Option V), σ = [some (.ref h), v1, v2] ∧ H2 h = some (.lst (regs.map fun q => V.ref q.1)) ∧ (∀ q ∈ regs.drop i, RowOk H2 q.1 q.2) ∧ But (regs.flatMap fun q => q.1 :: q.2) H H2)
      ⟨none, none, rfl, hh, hok, But.refl _ _⟩ (fun i σ H2 _ ⟨_, _, _, z, _⟩ => SqL.of z) ?_ ?_⟩
    · rintro i y σ H2 hi ⟨v1, v2, rfl, hh2, hok2, B⟩
      have hil : i < regs.length := by have := (List.getElem?_eq_some_iff.mp hi).1; simpa using this
      obtain ⟨r, fp, hq⟩ : ∃ r fp, regs[i]? = some (r, fp) := ⟨regs[i].1, regs[i].2, by simp [hil]⟩
      obtain rfl : y = V.ref r := by
        have : (regs.map fun q => V.ref q.1)[i]? = some (V.ref r) := by rw [List.getElem?_map, hq]; rfl
        rw [this] at hi; exact (Option.some.inj hi).symm
      have hdrop : regs.drop i = (r, fp) :: regs.drop (i + 1) := by rw [List.drop_eq_getElem_cons hil, (List.getElem?_eq_some_iff.mp hq).2]
      have hmem : (r, fp) ∈ regs := List.mem_of_getElem? hq
      have hsub : ∀ x ∈ r :: fp, x ∈ regs.flatMap fun q => q.1 :: q.2 := fun x hx => List.mem_flatMap.mpr ⟨(r, fp), hmem, hx⟩
      obtain ⟨hndr, happ⟩ := flat_at (fun q : Addr × List Addr => q.1 :: q.2) hq hn2
      obtain ⟨hr1, hr2⟩ := List.nodup_cons.mp hndr
      have hhn : ¬ h ∈ r :: fp := fun z => hn1 (hsub h z)
      obtain ⟨els, hL, hE, hfp⟩ := hok2 (r, fp) (by rw [hdrop]; exact List.mem_cons_self)
      simp only at hL hE hfp
      rw [hfp] at hr2
      -- behind the row's own loop
      refine seq_mid (fun σ H3 => ∃ v2, σ = [some (.ref h), some (.ref r), v2] ∧ But fp H2 H3) ?_ fun key => ?_
      · rintro σ H3 ⟨v2, rfl, B3⟩
        have hL3 : LT H3 r (els.map (·.1)) := hL.mono fun o e => B3.keep r o hr1 e
        have fin : ∀ H4, But (r :: fp) H2 H4 → ∃ (v1 v2' : Option V), [some (V.ref h), some (V.ref r), v2] = [some (.ref h), v1, v2'] ∧ H4 h = some (.lst (regs.map fun q => V.ref q.1)) ∧ (∀ q ∈ regs.drop (i + 1), RowOk H4 q.1 q.2) ∧ But (regs.flatMap fun q => q.1 :: q.2) H H4 := fun H4 B4 =>
          ⟨_, _, rfl, B4.keep _ _ hhn hh2, fun q hq => (hok2 q (by rw [hdrop]; exact List.mem_cons_of_mem _ hq)).mono fun a ha o e => B4.keep a o (happ q hq a ha) e, B.trans B4 hsub⟩
        obtain ⟨ty, b, hty, hk, hb⟩ := hL3.isi (K := K)
        refine ⟨_, rfl, _, ty, b, rfl, hty, hk, b, rfl, ?_⟩
        rcases hb with ⟨rfl, e⟩ | ⟨rfl, e⟩
        · refine iteT ?_
          refine ⟨_, rfl, .inl ⟨rfl, _, SqL.of e⟩, r, _, rfl, rfl, e, fin _ ?_⟩
          exact (B3.mono fun x hx => List.mem_cons_of_mem _ hx).clear e List.mem_cons_self
        · exact iteF (fin _ (B3.mono fun x hx => List.mem_cons_of_mem _ hx))
      · -- the row's own loop
        refine hL.over rfl fun J O => O.loop (fun j σ H3 => ∃ v2, σ = [some (.ref h), some (.ref r), v2] ∧ But fp H2 H3 ∧ ∀ e ∈ els.drop j, ElOk H3 e.1 e.2) ⟨_, rfl, But.refl _ _, fun e he => hE e he⟩
          (fun j σ H3 _ ⟨_, _, z, _⟩ o e => z.keep r o hr1 e) ?_ (fun σ H3 ⟨v2, e, z, _⟩ => key σ H3 ⟨v2, e, z⟩)
        rintro j y σ H3 hj ⟨v2, rfl, B3, hE3⟩
        have hjl : j < els.length := by have := (List.getElem?_eq_some_iff.mp hj).1; simpa using this
        obtain ⟨x, fx, hx⟩ : ∃ x fx, els[j]? = some (x, fx) := ⟨els[j].1, els[j].2, by simp [hjl]⟩
        obtain rfl : y = x := by
          have : (els.map (·.1))[j]? = some x := by rw [List.getElem?_map, hx]; rfl
          rw [this] at hj; exact (Option.some.inj hj).symm
        have hdropj : els.drop j = (y, fx) :: els.drop (j + 1) := by rw [List.drop_eq_getElem_cons hjl, (List.getElem?_eq_some_iff.mp hx).2]
        obtain ⟨hndx, happx⟩ := flat_at (fun q : V × List Addr => q.2) hx hr2
        simp only at hndx happx
        have hsubx : ∀ a ∈ fx, a ∈ fp := fun a ha => by rw [hfp]; exact List.mem_flatMap.mpr ⟨(y, fx), List.mem_of_getElem? hx, ha⟩
        have fin : ∀ H4, But fx H3 H4 → ∃ v2', [some (V.ref h), some (V.ref r), some y] = [some (.ref h), some (.ref r), v2'] ∧ But fp H2 H4 ∧ ∀ e ∈ els.drop (j + 1), ElOk H4 e.1 e.2 := fun H4 B4 =>
          ⟨_, rfl, B3.trans B4 hsubx, fun e he => (hE3 e (by rw [hdropj]; exact List.mem_cons_of_mem _ he)).mono fun a ha o z => B4.keep a o (happx e he a ha) z⟩
        refine ⟨_, rfl, by show 2 ≤ sizeLine; decide, fun t ht => ?_⟩
        have st := same_new ht (.tup [.ty "list", .ty "tuple"])
        have B4 : But fx H3 (upd H3 t (.tup [.ty "list", .ty "tuple"])) := (But.refl fx H3).same st
        rcases hE3 (y, fx) (by rw [hdropj]; exact List.mem_cons_self) with ⟨k, e, _⟩ | ⟨q, rr, e, sg, e2⟩
        · simp only at e
          subst e
          exact ⟨_, t, _, false, rfl, upd_same, .str _, kit_str2 K, false, rfl, iteF (fin _ B4)⟩
        · simp only at e e2
          subst e e2
          have sg4 := sg.mono (st _) (st _)
          have n12 : q.2 ≠ q.1 := fun z => (List.nodup_cons.mp hndx).1 (by rw [z]; exact List.mem_cons_self)
          obtain ⟨ty, hty, hk⟩ := sg4.row.isi2 (K := K)
          refine ⟨_, t, ty, true, rfl, upd_same, hty, hk, true, rfl, iteT ?_⟩
          refine seq_mid (fun σ H5 => σ = [some (.ref h), some (.ref r), some (.ref q.1)] ∧ But [q.1, q.2] H3 H5 ∧ LT H5 q.1 (.str rr.nm :: .ref q.2 :: rr.rest.map V.str)) ?_ fun key2 => ?_
          · rintro σ H5 ⟨rfl, B5, hL5⟩
            obtain ⟨ty, b, hty, hk, hb⟩ := hL5.isi (K := K)
            refine ⟨_, rfl, _, ty, b, rfl, hty, hk, b, rfl, ?_⟩
            rcases hb with ⟨rfl, e⟩ | ⟨rfl, e⟩
            case inr => exact iteF (fin _ B5)
            refine iteT ?_
            exact ⟨_, rfl, .inl ⟨rfl, _, SqL.of e⟩, q.1, _, rfl, rfl, e, fin _ (B5.clear e List.mem_cons_self)⟩
          · refine ⟨_, rfl, sg4.row.ix (v := .ref q.2) (atI_int (x := V.ref q.2) (by decide) rfl) ?_⟩
            obtain ⟨ty, b, hty, hk, hb⟩ := sg4.plc.isi (K := K)
            refine ⟨_, ty, b, rfl, hty, hk, b, rfl, ?_⟩
            rcases hb with ⟨rfl, e⟩ | ⟨rfl, e⟩
            case inr => exact iteF (key2 _ _ ⟨rfl, B4, sg4.row⟩)
            refine iteT ?_
            refine ⟨_, rfl, sg4.row.ix (v := .ref q.2) (atI_int (x := V.ref q.2) (by decide) rfl) ⟨.inl ⟨rfl, _, SqL.of e⟩, q.2, _, rfl, rfl, e, key2 _ _ ⟨rfl, B4.clear e (by simp), sg4.row.mono fun o z => ?_⟩⟩⟩
            rw [upd_ne (Ne.symm n12)]; exact z
    · rintro σ H2 ⟨v1, v2, rfl, hh2, hok2, B⟩
      exact q H2 B
end
end Few

set_option Elab.async false
set_option linter.all false
set_option maxRecDepth 100000
set_option maxHeartbeats 4000000
namespace L2
open PySem PySem.Spec PyProof.Rows
/-! ### a list taken apart -/
section
variable {P : Program} {w : World} {A : Around} {E : Value → Shared → Prop}
theorem draw_lst {it l : Addr} {its : Array Value} (ne : l ≠ it) (n : Nat) : ∀ (i : Nat) (s : Shared) (Q : List Value → Shared → Prop), s.heap.IsListIter it l i → s.heap.IsList l its → i + n ≤ its.size →
    (∀ h', h'.IsListIter it l (i + n) → Heap.SameBut it s.heap h' → Q ((its.toList.drop i).take n) { s with heap := h' }) → wpAny (model P w) A (draw (.ref it) n) Q E s := by
  induction n with
  | zero =>
    intro i s Q a _ _ q
    have q0 := q s.heap a (Heap.SameBut.refl ..)
    rw [List.take_zero] at q0
    exact wpAny_pure q0
  | succ n ih =>
    intro i s Q a b le q
    have lt : i < its.size := by omega
    refine wpAny_bind (m := pyNext (.ref it)) (wpAny_pyNext_list_item a b (x := its[i]) (by simp [lt]) fun h1 a1 s1 => ?_)
    refine wpAny_bind (wpAny_holding (ih (i + 1) _ _ a1 (b.extBut s1.extBut ne) (by omega) fun h2 a2 s2 => ?_))
    refine wpAny_pure ?_
    have q2 := q h2 (by rw [Nat.add_comm n 1, ← Nat.add_assoc]; exact a2) (s1.trans s2)
    have e : its.toList.drop i = its[i] :: its.toList.drop (i + 1) := by simp [List.drop_eq_getElem_cons, lt]
    rwa [e, List.take_succ_cons] at q2
theorem unpack_lst {s : Shared} {l : Addr} {its : Array Value} {ts : List (Bool × (Value → Sem Unit))} {Q : Unit → Shared → Prop} (hh : A.handled = none) (hl : s.heap.IsList l its) (hn : ts.length = its.size) (hs : ts.findIdx? (·.1) = none)
    (q : ∀ h', Heap.ExtBut s.heap.objs.size s.heap h' → wpAny (model P w) A (assignInOrder (ts.map (·.2)) its.toList) Q E { s with heap := h' }) : wpAny (model P w) A (unpack (.ref l) ts) Q E s := by
  have ne : l ≠ s.heap.objs.size := by
    obtain ⟨o, e, _⟩ := hl
    exact Nat.ne_of_lt (Heap.lt_size e)
  unfold unpack
  rw [hs, hn]
  refine wpAny_bind (wpAny_holding ?_)
  unfold unpackItems notIterableAtAll
  refine wpAny_bind (wpAny_bind (wpAny_specialOf hl.typeIs slot_list_iter.lookup (wpAny_pure ?_)))
  simp only [Bool.false_eq_true, if_false]
  refine wpAny_bind (wpAny_holding (wpAny_pyIter_list hl ?_))
  refine wpAny_bind (wpAny_holding (draw_lst ne its.size 0 _ _ ⟨_, Heap.get?_push_size _ rfl, rfl, rfl⟩ (hl.push _) (by omega) fun h1 a1 s1 => ?_))
  have all : (its.toList.drop 0).take its.size = its.toList := by simp [List.take_of_length_le]
  rw [all, if_neg (by simp)]
  refine wpAny_bind (wpAny_holding (wpAny_pyNext_list_end hh a1 ((hl.push _).extBut s1.extBut ne) (by simp) fun h2 e2 => ?_))
  simp only [Option.isSome_none, Bool.false_eq_true, if_false]
  exact wpAny_pure (q h2 fun b o nb e => e2 b o nb (s1.extBut b o nb (Heap.get?_push_of_some _ e)))
end
section
variable {X : Cx} {pos : Pos}
/-- (a, b, ..) = a list or a tuple -/
def gSeq (K : PySem.W.Frag) (n : Nat) (t : TGs) : TG := fun v σ H Q => ∃ a xs, v = .ref a ∧ (SqL K H a xs ∨ SqT K H a xs) ∧ xs.length = n ∧ t xs σ H Q
theorem pg_seq {es : List Expr} {k : Nat} {t : TGs} {n : Nat} (hc : X.calm = true) (h : PGs X es t) (hn : (assignEach es X.env).length = n := by rfl) (hst : (assignEach es X.env).findIdx? (·.1) = none := by rfl) : PG X (.Tuple es k pos) (gSeq X.K n t) := by
  intro pins s σ H v u Q I r hw
  obtain ⟨a, xs, rfl, hq | hq, hl, hw⟩ := hw
  · cases r
    obtain ⟨its, rv, pl, hz⟩ := I.list hq
    rw [assign_Tuple]
    refine wpAny_bind (wpAny_standAt (unpack_lst (I.ok.hd hc) pl.isList (by simp [hn, ← hl, rv.length]) hst fun h' hx => ?_))
    have I1 : Inv X pins σ H { s with heap := h' } := I.kept (t' := s.toks) fun b o e => hx b o (Nat.ne_of_lt (Heap.lt_size e)) e
    exact h pins _ σ H xs _ Q I1 (by simpa using rv) hw
  · exact pg_tup hc h hn hst pins s σ H _ u Q I r ⟨a, xs, rfl, hq, hl, hw⟩
end
end L2

set_option Elab.async false
set_option linter.all false
set_option maxRecDepth 100000
set_option maxHeartbeats 1000000
namespace Few
open PySem L2
theorem nd_FG_LETTERS : ((Str.ofString "LETTERS" : Str) == ("__debug__" : Str)) = false := by decide +kernel
theorem nc_FG_LETTERS : ((Str.ofString "LETTERS" : Str) == ("__classdict__" : Str)) = false := by decide +kernel
theorem nn_FG_LETTERS : (Str.ofString "LETTERS" : Str) ≠ "__name__" := by decide +kernel
theorem nd_FG_LONGEST_NAME : ((Str.ofString "LONGEST_NAME" : Str) == ("__debug__" : Str)) = false := by decide +kernel
theorem nc_FG_LONGEST_NAME : ((Str.ofString "LONGEST_NAME" : Str) == ("__classdict__" : Str)) = false := by decide +kernel
theorem nn_FG_LONGEST_NAME : (Str.ofString "LONGEST_NAME" : Str) ≠ "__name__" := by decide +kernel
theorem nd_FG_MOST_KINDS : ((Str.ofString "MOST_KINDS" : Str) == ("__debug__" : Str)) = false := by decide +kernel
theorem nc_FG_MOST_KINDS : ((Str.ofString "MOST_KINDS" : Str) == ("__classdict__" : Str)) = false := by decide +kernel
theorem nn_FG_MOST_KINDS : (Str.ofString "MOST_KINDS" : Str) ≠ "__name__" := by decide +kernel
theorem nd_FG_MOST_PLACES : ((Str.ofString "MOST_PLACES" : Str) == ("__debug__" : Str)) = false := by decide +kernel
theorem nc_FG_MOST_PLACES : ((Str.ofString "MOST_PLACES" : Str) == ("__classdict__" : Str)) = false := by decide +kernel
theorem nn_FG_MOST_PLACES : (Str.ofString "MOST_PLACES" : Str) ≠ "__name__" := by decide +kernel
theorem nd_FG_WORDS_OF_SAYINGS : ((Str.ofString "WORDS_OF_SAYINGS" : Str) == ("__debug__" : Str)) = false := by decide +kernel
theorem nc_FG_WORDS_OF_SAYINGS : ((Str.ofString "WORDS_OF_SAYINGS" : Str) == ("__classdict__" : Str)) = false := by decide +kernel
theorem nn_FG_WORDS_OF_SAYINGS : (Str.ofString "WORDS_OF_SAYINGS" : Str) ≠ "__name__" := by decide +kernel
theorem nd_FG_all : ((Str.ofString "all" : Str) == ("__debug__" : Str)) = false := by decide +kernel
theorem nc_FG_all : ((Str.ofString "all" : Str) == ("__classdict__" : Str)) = false := by decide +kernel
theorem nn_FG_all : (Str.ofString "all" : Str) ≠ "__name__" := by decide +kernel
theorem nd_FG_check_apart : ((Str.ofString "check_apart" : Str) == ("__debug__" : Str)) = false := by decide +kernel
theorem nc_FG_check_apart : ((Str.ofString "check_apart" : Str) == ("__classdict__" : Str)) = false := by decide +kernel
theorem nn_FG_check_apart : (Str.ofString "check_apart" : Str) ≠ "__name__" := by decide +kernel
theorem nd_FG_checked_kind : ((Str.ofString "checked_kind" : Str) == ("__debug__" : Str)) = false := by decide +kernel
theorem nc_FG_checked_kind : ((Str.ofString "checked_kind" : Str) == ("__classdict__" : Str)) = false := by decide +kernel
theorem nn_FG_checked_kind : (Str.ofString "checked_kind" : Str) ≠ "__name__" := by decide +kernel
theorem nd_FG_checked_places : ((Str.ofString "checked_places" : Str) == ("__debug__" : Str)) = false := by decide +kernel
theorem nc_FG_checked_places : ((Str.ofString "checked_places" : Str) == ("__classdict__" : Str)) = false := by decide +kernel
theorem nn_FG_checked_places : (Str.ofString "checked_places" : Str) ≠ "__name__" := by decide +kernel
theorem nd_FG_checked_sign_name : ((Str.ofString "checked_sign_name" : Str) == ("__debug__" : Str)) = false := by decide +kernel
theorem nc_FG_checked_sign_name : ((Str.ofString "checked_sign_name" : Str) == ("__classdict__" : Str)) = false := by decide +kernel
theorem nn_FG_checked_sign_name : (Str.ofString "checked_sign_name" : Str) ≠ "__name__" := by decide +kernel
theorem nd_FG_function : ((Str.ofString "function" : Str) == ("__debug__" : Str)) = false := by decide +kernel
theorem nc_FG_function : ((Str.ofString "function" : Str) == ("__classdict__" : Str)) = false := by decide +kernel
theorem nn_FG_function : (Str.ofString "function" : Str) ≠ "__name__" := by decide +kernel
theorem nd_FG_is_list : ((Str.ofString "is_list" : Str) == ("__debug__" : Str)) = false := by decide +kernel
theorem nc_FG_is_list : ((Str.ofString "is_list" : Str) == ("__classdict__" : Str)) = false := by decide +kernel
theorem nn_FG_is_list : (Str.ofString "is_list" : Str) ≠ "__name__" := by decide +kernel
theorem nd_FG_is_name : ((Str.ofString "is_name" : Str) == ("__debug__" : Str)) = false := by decide +kernel
theorem nc_FG_is_name : ((Str.ofString "is_name" : Str) == ("__classdict__" : Str)) = false := by decide +kernel
theorem nn_FG_is_name : (Str.ofString "is_name" : Str) ≠ "__name__" := by decide +kernel
theorem nd_FG_isinstance : ((Str.ofString "isinstance" : Str) == ("__debug__" : Str)) = false := by decide +kernel
theorem nc_FG_isinstance : ((Str.ofString "isinstance" : Str) == ("__classdict__" : Str)) = false := by decide +kernel
theorem nn_FG_isinstance : (Str.ofString "isinstance" : Str) ≠ "__name__" := by decide +kernel
theorem nd_FG_kind : ((Str.ofString "kind" : Str) == ("__debug__" : Str)) = false := by decide +kernel
theorem nc_FG_kind : ((Str.ofString "kind" : Str) == ("__classdict__" : Str)) = false := by decide +kernel
theorem nn_FG_kind : (Str.ofString "kind" : Str) ≠ "__name__" := by decide +kernel
theorem nd_FG_kinds : ((Str.ofString "kinds" : Str) == ("__debug__" : Str)) = false := by decide +kernel
theorem nc_FG_kinds : ((Str.ofString "kinds" : Str) == ("__classdict__" : Str)) = false := by decide +kernel
theorem nn_FG_kinds : (Str.ofString "kinds" : Str) ≠ "__name__" := by decide +kernel
theorem nd_FG_len : ((Str.ofString "len" : Str) == ("__debug__" : Str)) = false := by decide +kernel
theorem nc_FG_len : ((Str.ofString "len" : Str) == ("__classdict__" : Str)) = false := by decide +kernel
theorem nn_FG_len : (Str.ofString "len" : Str) ≠ "__name__" := by decide +kernel
theorem nd_FG_list : ((Str.ofString "list" : Str) == ("__debug__" : Str)) = false := by decide +kernel
theorem nc_FG_list : ((Str.ofString "list" : Str) == ("__classdict__" : Str)) = false := by decide +kernel
theorem nn_FG_list : (Str.ofString "list" : Str) ≠ "__name__" := by decide +kernel
theorem nd_FG_name : ((Str.ofString "name" : Str) == ("__debug__" : Str)) = false := by decide +kernel
theorem nc_FG_name : ((Str.ofString "name" : Str) == ("__classdict__" : Str)) = false := by decide +kernel
theorem nn_FG_name : (Str.ofString "name" : Str) ≠ "__name__" := by decide +kernel
theorem nd_FG_names : ((Str.ofString "names" : Str) == ("__debug__" : Str)) = false := by decide +kernel
theorem nc_FG_names : ((Str.ofString "names" : Str) == ("__classdict__" : Str)) = false := by decide +kernel
theorem nn_FG_names : (Str.ofString "names" : Str) ≠ "__name__" := by decide +kernel
theorem nd_FG_places : ((Str.ofString "places" : Str) == ("__debug__" : Str)) = false := by decide +kernel
theorem nc_FG_places : ((Str.ofString "places" : Str) == ("__classdict__" : Str)) = false := by decide +kernel
theorem nn_FG_places : (Str.ofString "places" : Str) ≠ "__name__" := by decide +kernel
theorem nd_FG_set : ((Str.ofString "set" : Str) == ("__debug__" : Str)) = false := by decide +kernel
theorem nc_FG_set : ((Str.ofString "set" : Str) == ("__classdict__" : Str)) = false := by decide +kernel
theorem nn_FG_set : (Str.ofString "set" : Str) ≠ "__name__" := by decide +kernel
theorem nd_FG_sign : ((Str.ofString "sign" : Str) == ("__debug__" : Str)) = false := by decide +kernel
theorem nc_FG_sign : ((Str.ofString "sign" : Str) == ("__classdict__" : Str)) = false := by decide +kernel
theorem nn_FG_sign : (Str.ofString "sign" : Str) ≠ "__name__" := by decide +kernel
theorem nd_FG_str : ((Str.ofString "str" : Str) == ("__debug__" : Str)) = false := by decide +kernel
theorem nc_FG_str : ((Str.ofString "str" : Str) == ("__classdict__" : Str)) = false := by decide +kernel
theorem nn_FG_str : (Str.ofString "str" : Str) ≠ "__name__" := by decide +kernel
theorem nd_FG_thing : ((Str.ofString "thing" : Str) == ("__debug__" : Str)) = false := by decide +kernel
theorem nc_FG_thing : ((Str.ofString "thing" : Str) == ("__classdict__" : Str)) = false := by decide +kernel
theorem nn_FG_thing : (Str.ofString "thing" : Str) ≠ "__name__" := by decide +kernel
theorem nd_FG_tie : ((Str.ofString "tie" : Str) == ("__debug__" : Str)) = false := by decide +kernel
theorem nc_FG_tie : ((Str.ofString "tie" : Str) == ("__classdict__" : Str)) = false := by decide +kernel
theorem nn_FG_tie : (Str.ofString "tie" : Str) ≠ "__name__" := by decide +kernel
theorem nd_FG_tuple : ((Str.ofString "tuple" : Str) == ("__debug__" : Str)) = false := by decide +kernel
theorem nc_FG_tuple : ((Str.ofString "tuple" : Str) == ("__classdict__" : Str)) = false := by decide +kernel
theorem nn_FG_tuple : (Str.ofString "tuple" : Str) ≠ "__name__" := by decide +kernel
theorem ifT {c A B : Prop} [Decidable c] (hc : c) (h : A) : if c then A else B := by rw [if_pos hc]; exact h
theorem ifF {c A B : Prop} [Decidable c] (hc : ¬ c) (h : B) : if c then A else B := by rw [if_neg hc]; exact h
theorem LT.same {H H' : Hp} {a : Addr} {xs : List V} (h : LT H a xs) (s : Same H H') : LT H' a xs := h.mono fun o e => s a o e
theorem inAbc : ∀ i, i < 26 → (!(Builtin.Str.occurrences abc ⟨#[97 + i]⟩ 0 abc.length 1).isEmpty) = true := by decide +kernel
theorem inAbc' {c : Nat} (h0 : 97 ≤ c) (h1 : c ≤ 122) : (!(Builtin.Str.occurrences abc ⟨#[c]⟩ 0 abc.length 1).isEmpty) = true := by
  have := inAbc (c - 97) (by omega)
  rwa [show 97 + (c - 97) = c by omega] at this
/-- the written values of the top -/
structure Gs (K : PySem.W.Frag) (mg : Str → Option Value) : Prop where
  letters : ∃ u, mg "LETTERS" = some u ∧ RelV (.str abc) u
  longest : ∃ u, mg "LONGEST_NAME" = some u ∧ RelV (.int 12) u
  mkinds : ∃ u, mg "MOST_KINDS" = some u ∧ RelV (.int 4) u
  msigns : ∃ u, mg "MOST_SIGNS" = some u ∧ RelV (.int 8) u
  mplaces : ∃ u, mg "MOST_PLACES" = some u ∧ RelV (.int 2) u
  words : ∃ a, mg "WORDS_OF_SAYINGS" = some (.ref a) ∧ ∀ H, SqT K H a (sayWords.map V.str)
section
variable {P : Program} {w : World} {K : PySem.W.Frag} {mg : Str → Option Value} {base : Heap}
abbrev s_is_list : Stmt := top 6
theorem sc_is_list : FnScope ["thing"] ["thing"] (defScope s_is_list) := ⟨rfl, rfl, rfl, by decide +kernel, rfl, by decide +kernel, by decide +kernel⟩
theorem lk_is_list_isinstance : (defScope s_is_list).names.lookup (Str.ofString "isinstance") = some NameKind.globalImplicit := by decide +kernel
theorem lk_is_list_list : (defScope s_is_list).names.lookup (Str.ofString "list") = some NameKind.globalImplicit := by decide +kernel
theorem lk_is_list_thing : (defScope s_is_list).names.lookup (Str.ofString "thing") = some NameKind.local := by decide +kernel
theorem lk_is_list_tuple : (defScope s_is_list).names.lookup (Str.ofString "tuple") = some NameKind.globalImplicit := by decide +kernel
def spIsList : Sp := fun vs H Q _ => ∃ (a : Addr) (xs : List V), vs = [.ref a] ∧ LT H a xs ∧ ∀ H', Same H H' → Q (.bl true) H'
theorem ok_is_list (F : FunAt K mg "is_list" s_is_list ["thing"]) (Z : Bl mg) : Def P w K mg base "is_list" 1 ["thing"] spIsList := by
  have SC := sc_is_list
  refine F.mk' (k := 0) sc_is_list (fun vs H Q E h => ?_) (fun f cdv A outer s H vs Q E hr h => ?_)
  · obtain ⟨a, xs, rfl, _⟩ := h
    rfl
  · obtain ⟨a, xs, rfl, hL, q⟩ := h
    refine' ⟨_, ?derivation, ?_⟩
    case derivation =>
      refine' pss_one ?h0
      case h0 =>
        refine' ps_ret ?h1
        case h1 =>
          refine' pe_callB (hn := nn_FG_isinstance) (hdb := nd_FG_isinstance) ?h2 ?h3 ?h4 ?h5 ?h6 ?h7 ?h8
          case h2 => exact (call_isi2 (T := "list") (U := "tuple"))
          case h3 => exact lk_is_list_isinstance
          case h4 => exact Z.n_isinstance
          case h5 => exact bt_isinstance
          case h6 =>
            refine' pa_cons ?h9 ?h10 ?h11
            case h9 => exact (pq 0 (x := Str.ofString "thing") (visL lk_is_list_thing) nd_FG_thing nc_FG_thing)
            case h10 =>
              refine' pa_cons ?h12 ?h13 ?h14
              case h12 =>
                refine' pe_tup ?h15
                case h15 =>
                  refine' pa_cons ?h16 ?h17 ?h18
                  case h16 =>
                    refine' pe_bltn (v := V.ty "list") (hn := nn_FG_list) (hd := nd_FG_list) ?h19 ?h20 ?h21 ?h22
                    case h19 => exact lk_is_list_list
                    case h20 => exact Z.n_list
                    case h21 => exact bt_list
                    case h22 => exact rfl
                  case h17 =>
                    refine' pa_cons ?h23 ?h24 ?h25
                    case h23 =>
                      refine' pe_bltn (v := V.ty "tuple") (hn := nn_FG_tuple) (hd := nd_FG_tuple) ?h26 ?h27 ?h28 ?h29
                      case h26 => exact lk_is_list_tuple
                      case h27 => exact Z.n_tuple
                      case h28 => exact bt_tuple
                      case h29 => exact rfl
                    case h24 => exact pa_nil
                    case h25 => rfl
                  case h18 => rfl
              case h13 => exact pa_nil
              case h14 => rfl
            case h11 => rfl
          case h7 => rfl
          case h8 => rfl
    refine ⟨_, rfl, by show 2 ≤ sizeLine; decide, fun t ht => ?_⟩
    have st := same_new ht (.tup [.ty "list", .ty "tuple"])
    obtain ⟨ty, hty, hk⟩ := (hL.same st).isi2 (K := K)
    exact ⟨_, t, ty, true, rfl, upd_same, hty, hk, q _ st⟩
abbrev s_is_name : Stmt := top 7
theorem sc_is_name : FnScope ["thing"] ["thing"] (defScope s_is_name) := ⟨rfl, rfl, rfl, by decide +kernel, rfl, by decide +kernel, by decide +kernel⟩
theorem lk_is_name_LONGEST_NAME : (defScope s_is_name).names.lookup (Str.ofString "LONGEST_NAME") = some NameKind.globalImplicit := by decide +kernel
theorem lk_is_name_all : (defScope s_is_name).names.lookup (Str.ofString "all") = some NameKind.globalImplicit := by decide +kernel
theorem lk_is_name_isinstance : (defScope s_is_name).names.lookup (Str.ofString "isinstance") = some NameKind.globalImplicit := by decide +kernel
theorem lk_is_name_len : (defScope s_is_name).names.lookup (Str.ofString "len") = some NameKind.globalImplicit := by decide +kernel
theorem lk_is_name_str : (defScope s_is_name).names.lookup (Str.ofString "str") = some NameKind.globalImplicit := by decide +kernel
theorem lk_is_name_thing : (defScope s_is_name).names.lookup (Str.ofString "thing") = some NameKind.local := by decide +kernel
theorem sp_is_name_1 : CompSc 1 ["sign", "thing"] ["thing"] (defScope s_is_name) { kind := PySem.ScopeKind.function, names := [ (PySem.Str.ofString ".0", PySem.NameKind.local), (PySem.Str.ofString "sign", PySem.NameKind.local), (PySem.Str.ofString "LETTERS", PySem.NameKind.globalImplicit)], isGenerator := false, isCoroutine := false, more := [] : PySem.Scope } := ⟨rfl, by decide +kernel, by decide +kernel, by decide +kernel, by decide +kernel, rfl, by decide +kernel⟩
theorem lk_is_name_c1_LETTERS : ({ kind := PySem.ScopeKind.function, names := [ (PySem.Str.ofString ".0", PySem.NameKind.local), (PySem.Str.ofString "sign", PySem.NameKind.local), (PySem.Str.ofString "LETTERS", PySem.NameKind.globalImplicit)], isGenerator := false, isCoroutine := false, more := [] : PySem.Scope } : Scope).names.lookup (Str.ofString "LETTERS") = some NameKind.globalImplicit := by decide +kernel
theorem lk_is_name_c1_sign : ({ kind := PySem.ScopeKind.function, names := [ (PySem.Str.ofString ".0", PySem.NameKind.local), (PySem.Str.ofString "sign", PySem.NameKind.local), (PySem.Str.ofString "LETTERS", PySem.NameKind.globalImplicit)], isGenerator := false, isCoroutine := false, more := [] : PySem.Scope } : Scope).names.lookup (Str.ofString "sign") = some NameKind.local := by decide +kernel
def spIsName : Sp := fun vs H Q _ => ∃ z : Str, vs = [.str z] ∧ isNm z ∧ ∀ H', Same H H' → Q (.bl true) H'
theorem ok_is_name (F : FunAt K mg "is_name" s_is_name ["thing"]) (Z : Bl mg) (G : Gs K mg) : Def P w K mg base "is_name" 1 ["thing"] spIsName := by
  have SC := sc_is_name
  obtain ⟨_, g_LETTERS, r_LETTERS⟩ := G.letters
  obtain ⟨_, g_LONGEST_NAME, r_LONGEST_NAME⟩ := G.longest
  refine F.mk' (k := 0) sc_is_name (fun vs H Q E h => ?_) (fun f cdv A outer s H vs Q E hr h => ?_)
  · obtain ⟨z, rfl, _⟩ := h
    rfl
  · obtain ⟨z, rfl, ⟨h1, h2, h3⟩, q⟩ := h
    have hz := str_len z
    have hcs : z.cps.size = z.cps.toList.length := by simp
    refine' ⟨_, ?derivation, ?_⟩
    case derivation =>
      refine' pss_cons ?h30 ?h31
      case h30 =>
        refine' ps_if ?h32 ?h33 ?h34
        case h32 =>
          refine' PW.pt ?h35
          case h35 =>
            refine' pw_or ?h36 ?h37
            case h36 =>
              refine' pt_not ?h38
              case h38 =>
                refine' pt_val ?h39 ?h40
                case h39 =>
                  refine' pe_callB (hn := nn_FG_isinstance) (hdb := nd_FG_isinstance) ?h41 ?h42 ?h43 ?h44 ?h45 ?h46 ?h47
                  case h41 => exact (call_isiT (T := "str"))
                  case h42 => exact lk_is_name_isinstance
                  case h43 => exact Z.n_isinstance
                  case h44 => exact bt_isinstance
                  case h45 =>
                    refine' pa_cons ?h48 ?h49 ?h50
                    case h48 => exact (pq 0 (x := Str.ofString "thing") (visL lk_is_name_thing) nd_FG_thing nc_FG_thing)
                    case h49 =>
                      refine' pa_cons ?h51 ?h52 ?h53
                      case h51 =>
                        refine' pe_bltn (v := V.ty "str") (hn := nn_FG_str) (hd := nd_FG_str) ?h54 ?h55 ?h56 ?h57
                        case h54 => exact lk_is_name_str
                        case h55 => exact Z.n_str
                        case h56 => exact bt_str
                        case h57 => exact rfl
                      case h52 => exact pa_nil
                      case h53 => rfl
                    case h50 => rfl
                  case h46 => rfl
                  case h47 => rfl
                case h40 => intro _; rfl
            case h37 =>
              refine' pw_or1 ?h58
              case h58 =>
                refine' pt_not ?h59
                case h59 =>
                  refine' pt_chain ?h60 ?h61 ?h62 ?h63 ?h64 ?h65
                  case h60 => exact op_le
                  case h61 => exact op_le
                  case h62 => exact pe_int
                  case h63 =>
                    refine' pe_callB (hn := nn_FG_len) (hdb := nd_FG_len) ?h66 ?h67 ?h68 ?h69 ?h70 ?h71 ?h72
                    case h66 => exact call_len_str
                    case h67 => exact lk_is_name_len
                    case h68 => exact Z.n_len
                    case h69 => exact bt_len
                    case h70 =>
                      refine' pa_cons ?h73 ?h74 ?h75
                      case h73 => exact (pq 0 (x := Str.ofString "thing") (visL lk_is_name_thing) nd_FG_thing nc_FG_thing)
                      case h74 => exact pa_nil
                      case h75 => rfl
                    case h71 => rfl
                    case h72 => rfl
                  case h64 =>
                    refine' pe_glob (hd := nd_FG_LONGEST_NAME) ?h76 ?h77 ?h78
                    case h76 => exact lk_is_name_LONGEST_NAME
                    case h77 => exact g_LONGEST_NAME
                    case h78 => exact r_LONGEST_NAME
                  case h65 => with_unfolding_all rfl
        case h33 =>
          refine' pss_one ?h79
          case h79 =>
            refine' ps_ret ?h80
            case h80 => exact pe_bl
        case h34 => exact pss_nil
      case h31 =>
        refine' pss_one ?h81
        case h81 =>
          refine' ps_ret ?h82
          case h82 =>
            refine' pe_callB (hn := nn_FG_all) (hdb := nd_FG_all) ?h83 ?h84 ?h85 ?h86 ?h87 ?h88 ?h89
            case h83 => exact (call_allB rfl)
            case h84 => exact lk_is_name_all
            case h85 => exact Z.n_all
            case h86 => exact bt_all
            case h87 =>
              refine' pa_cons ?h90 ?h91 ?h92
              case h90 =>
                refine' pe_comp ?h93 ?h94 ?h95 ?h96 ?h97 ?h98 ?h99
                case h93 => exact noxe
                case h94 => exact rfl
                case h95 => exact sp_is_name_1.at
                case h96 =>
                  refine' pi_str ?h100
                  case h100 => exact (pq 0 (x := Str.ofString "thing") (visL lk_is_name_thing) nd_FG_thing nc_FG_thing)
                case h97 =>
                  intro _ _ _ _ _
                  refine' pg_name (i := 0) ?h101 ?h102 ?h103 ?h104
                  case h101 => exact sp_is_name_1.nd
                  case h102 => exact rfl
                  case h103 => exact (locO lk_is_name_c1_sign)
                  case h104 => exact (.inr (lookup_relabel_local lk_is_name_c1_sign))
                case h98 =>
                  intro _ _ _ _ _
                  refine' pe_cmpR ?h105 ?h106 ?h107 ?h108
                  case h105 => exact op_in_str
                  case h106 => exact (pq 0 (x := Str.ofString "sign") (visO lk_is_name_c1_sign) nd_FG_sign nc_FG_sign)
                  case h107 =>
                    refine' pe_glob (hd := nd_FG_LETTERS) ?h109 ?h110 ?h111
                    case h109 => exact (glO lk_is_name_c1_LETTERS)
                    case h110 => exact g_LETTERS
                    case h111 => exact r_LETTERS
                  case h108 => exact (by with_unfolding_all rfl)
                case h99 => intro _; rfl
              case h91 => exact pa_nil
              case h92 => rfl
            case h88 => rfl
            case h89 => rfl
    refine ⟨_, rfl, _, _, _, rfl, .str _, kit_str1 K, true, rfl, iteF ?_⟩
    refine ⟨_, rfl, _, rfl, Nat.le_trans (show z.length ≤ 12 by omega) (by decide), _, _, rfl, rfl, _, rfl, ifT (decide_eq_true (by omega)) ?_⟩
    refine ⟨_, _, rfl, rfl, _, rfl, ifF (by simp; omega) ?_⟩
    refine ⟨_, rfl, z, rfl, ?_⟩
    intro cl C ex s0 H0
    refine comp_it1 z.cps.size (fun i ys H1 => ys = (List.replicate i true).map V.bl ∧ H1 = H) (fun i x => ∃ c, z.cps[i]? = some c ∧ x = .str ⟨#[c]⟩) ⟨rfl, rfl⟩ (Nat.le_trans (show z.cps.size ≤ 12 by omega) (by decide)) (fun i ys H1 hi _ _ => go_str hi) (fun ys H1 _ _ => stop_str) ?_ ?_
    · rintro i x ys H1 hi ⟨c, hc, rfl⟩ hy ⟨rfl, rfl⟩
      have hm : c ∈ z.cps.toList := by
        have : z.cps.toList[i]? = some c := by simpa using hc
        exact List.mem_of_getElem? this
      obtain ⟨c0, c1⟩ := h3 c hm
      refine ⟨_, rfl, _, _, rfl, rfl, ?_, rfl⟩
      rw [inAbc' c0 c1, List.replicate_succ', List.map_append]
      rfl
    · rintro ys H1 hy ⟨rfl, rfl⟩ D hD
      refine ⟨D, List.replicate z.cps.size true, rfl, SqL.of upd_same, ?_⟩
      have e : (List.replicate z.cps.size true).all id = true := by simp
      rw [e]
      exact q _ (same_new hD _)
abbrev s_check_apart : Stmt := top 20
theorem sc_check_apart : FnScope ["names"] ["names"] (defScope s_check_apart) := ⟨rfl, rfl, rfl, by decide +kernel, rfl, by decide +kernel, by decide +kernel⟩
theorem lk_check_apart_len : (defScope s_check_apart).names.lookup (Str.ofString "len") = some NameKind.globalImplicit := by decide +kernel
theorem lk_check_apart_names : (defScope s_check_apart).names.lookup (Str.ofString "names") = some NameKind.local := by decide +kernel
theorem lk_check_apart_set : (defScope s_check_apart).names.lookup (Str.ofString "set") = some NameKind.globalImplicit := by decide +kernel
def spApart : Sp := fun vs H Q _ => ∃ (a : Addr) (ws : List Str), vs = [.ref a] ∧ LT H a (ws.map V.str) ∧ ws.Nodup ∧ ws.length ≤ 1000 ∧ ∀ H', Same H H' → Q .non H'
theorem ok_apart (F : FunAt K mg "check_apart" s_check_apart ["names"]) (Z : Bl mg) : Def P w K mg base "check_apart" 1 ["names"] spApart := by
  have SC := sc_check_apart
  refine F.mk' (k := 0) sc_check_apart (fun vs H Q E h => ?_) (fun f cdv A outer s H vs Q E hr h => ?_)
  · obtain ⟨a, ws, rfl, _⟩ := h
    rfl
  · obtain ⟨a, ws, rfl, hL, hnd, hl, q⟩ := h
    refine' ⟨_, ?derivation, ?_⟩
    case derivation =>
      refine' pss_one ?h112
      case h112 =>
        refine' ps_if ?h113 ?h114 ?h115
        case h113 =>
          refine' pt_cmpR ?h116 ?h117 ?h118 ?h119
          case h116 => exact op_ne
          case h117 =>
            refine' pe_callB (hn := nn_FG_len) (hdb := nd_FG_len) ?h120 ?h121 ?h122 ?h123 ?h124 ?h125 ?h126
            case h120 => exact call_lenT
            case h121 => exact lk_check_apart_len
            case h122 => exact Z.n_len
            case h123 => exact bt_len
            case h124 =>
              refine' pa_cons ?h127 ?h128 ?h129
              case h127 =>
                refine' pe_callTy (hn := nn_FG_set) (hdb := nd_FG_set) ?h130 ?h131 ?h132 ?h133 ?h134 ?h135 ?h136
                case h130 => exact (call_setT rfl)
                case h131 => exact lk_check_apart_set
                case h132 => exact Z.n_set
                case h133 => exact bt_set
                case h134 =>
                  refine' pa_cons ?h137 ?h138 ?h139
                  case h137 => exact (pq 0 (x := Str.ofString "names") (visL lk_check_apart_names) nd_FG_names nc_FG_names)
                  case h138 => exact pa_nil
                  case h139 => rfl
                case h135 => rfl
                case h136 => rfl
              case h128 => exact pa_nil
              case h129 => rfl
            case h125 => rfl
            case h126 => rfl
          case h118 =>
            refine' pe_callB (hn := nn_FG_len) (hdb := nd_FG_len) ?h140 ?h141 ?h142 ?h143 ?h144 ?h145 ?h146
            case h140 => exact call_len_seq
            case h141 => exact lk_check_apart_len
            case h142 => exact Z.n_len
            case h143 => exact bt_len
            case h144 =>
              refine' pa_cons ?h147 ?h148 ?h149
              case h147 => exact (pq 0 (x := Str.ofString "names") (visL lk_check_apart_names) nd_FG_names nc_FG_names)
              case h148 => exact pa_nil
              case h149 => rfl
            case h145 => rfl
            case h146 => rfl
          case h119 => exact (nomark _)
        case h114 =>
          refine' pss_one ?h150
          case h150 => exact ps_never
        case h115 => exact pss_nil
    refine ⟨_, rfl, a, ws, rfl, hL.sq, Nat.lt_of_le_of_lt (show ws.length + 1 ≤ 1001 by omega) (by decide), fun d hd => ?_⟩
    have st := same_new hd (SetT P w d ws)
    refine ⟨d, ws, rfl, upd_same, ?_⟩
    refine ⟨_, rfl, a, _, rfl, (hL.same st).sq, rfl, _, rfl, ?_⟩
    have e : (ws.foldl stepS []).length = ws.length := by rw [foldS_nodup ws [] hnd (fun _ _ z => nomatch z)]; simp
    refine ifF ?_ (q _ st)
    rw [e, List.length_map]
    simp
abbrev s_checked_kinds : Stmt := top 14
theorem sc_checked_kinds : FnScope ["kinds", "kind"] ["kinds"] (defScope s_checked_kinds) := ⟨rfl, rfl, rfl, by decide +kernel, rfl, by decide +kernel, by decide +kernel⟩
theorem lk_checked_kinds_MOST_KINDS : (defScope s_checked_kinds).names.lookup (Str.ofString "MOST_KINDS") = some NameKind.globalImplicit := by decide +kernel
theorem lk_checked_kinds_check_apart : (defScope s_checked_kinds).names.lookup (Str.ofString "check_apart") = some NameKind.globalImplicit := by decide +kernel
theorem lk_checked_kinds_is_list : (defScope s_checked_kinds).names.lookup (Str.ofString "is_list") = some NameKind.globalImplicit := by decide +kernel
theorem lk_checked_kinds_is_name : (defScope s_checked_kinds).names.lookup (Str.ofString "is_name") = some NameKind.globalImplicit := by decide +kernel
theorem lk_checked_kinds_kind : (defScope s_checked_kinds).names.lookup (Str.ofString "kind") = some NameKind.local := by decide +kernel
theorem lk_checked_kinds_kinds : (defScope s_checked_kinds).names.lookup (Str.ofString "kinds") = some NameKind.local := by decide +kernel
theorem lk_checked_kinds_len : (defScope s_checked_kinds).names.lookup (Str.ofString "len") = some NameKind.globalImplicit := by decide +kernel
theorem lk_checked_kinds_tuple : (defScope s_checked_kinds).names.lookup (Str.ofString "tuple") = some NameKind.globalImplicit := by decide +kernel
/-- kinds that are a book's -/
structure KindsOk (ks : List Str) : Prop where
  kn : ks.Nodup
  k1 : 1 ≤ ks.length
  k4 : ks.length ≤ 4
  kn2 : ∀ k ∈ ks, isNm k
def spKinds : Sp := fun vs H Q _ => ∃ (a : Addr) (ks : List Str), vs = [.ref a] ∧ LT H a (ks.map V.str) ∧ KindsOk ks ∧ ∀ t H', H' t = some (.tup (ks.map V.str)) → Same H H' → Q (.ref t) H'
theorem ok_kinds (F : FunAt K mg "checked_kinds" s_checked_kinds ["kinds"]) (Z : Bl mg) (G : Gs K mg) (D_is_list : Def P w K mg base "is_list" 1 ["thing"] spIsList) (D_is_name : Def P w K mg base "is_name" 1 ["thing"] spIsName) (D_check_apart : Def P w K mg base "check_apart" 1 ["names"] spApart) :
    Def P w K mg base "checked_kinds" 2 ["kinds"] spKinds := by
  have SC := sc_checked_kinds
  obtain ⟨_, g_MOST_KINDS, r_MOST_KINDS⟩ := G.mkinds
  refine F.mk' (k := 1) sc_checked_kinds (fun vs H Q E h => ?_) (fun f cdv A outer s H vs Q E hr h => ?_)
  · obtain ⟨a, ks, rfl, _⟩ := h
    rfl
  · obtain ⟨a, ks, rfl, hL, ok, q⟩ := h
    have k1 := ok.k1
    have k4 := ok.k4
    refine' ⟨_, ?derivation, ?_⟩
    case derivation =>
      refine' pss_cons ?h151 ?h152
      case h151 =>
        refine' ps_if ?h153 ?h154 ?h155
        case h153 =>
          refine' PW.pt ?h156
          case h156 =>
            refine' pw_or ?h157 ?h158
            case h157 =>
              refine' pt_not ?h159
              case h159 =>
                refine' pt_val ?h160 ?h161
                case h160 =>
                  refine' pe_def (hdb := nd_FG_is_list) ?h162 ?h163 ?h164 ?h165 ?h166 ?h167
                  case h162 => exact D_is_list
                  case h163 => exact (hr.mono (by decide))
                  case h164 => exact lk_checked_kinds_is_list
                  case h165 =>
                    refine' pa_cons ?h168 ?h169 ?h170
                    case h168 => exact (pq 0 (x := Str.ofString "kinds") (visL lk_checked_kinds_kinds) nd_FG_kinds nc_FG_kinds)
                    case h169 => exact pa_nil
                    case h170 => rfl
                  case h166 => rfl
                  case h167 => rfl
                case h161 => intro _; rfl
            case h158 =>
              refine' pw_or1 ?h171
              case h171 =>
                refine' pt_not ?h172
                case h172 =>
                  refine' pt_chain ?h173 ?h174 ?h175 ?h176 ?h177 ?h178
                  case h173 => exact op_le
                  case h174 => exact op_le
                  case h175 => exact pe_int
                  case h176 =>
                    refine' pe_callB (hn := nn_FG_len) (hdb := nd_FG_len) ?h179 ?h180 ?h181 ?h182 ?h183 ?h184 ?h185
                    case h179 => exact call_len_seq
                    case h180 => exact lk_checked_kinds_len
                    case h181 => exact Z.n_len
                    case h182 => exact bt_len
                    case h183 =>
                      refine' pa_cons ?h186 ?h187 ?h188
                      case h186 => exact (pq 0 (x := Str.ofString "kinds") (visL lk_checked_kinds_kinds) nd_FG_kinds nc_FG_kinds)
                      case h187 => exact pa_nil
                      case h188 => rfl
                    case h184 => rfl
                    case h185 => rfl
                  case h177 =>
                    refine' pe_glob (hd := nd_FG_MOST_KINDS) ?h189 ?h190 ?h191
                    case h189 => exact lk_checked_kinds_MOST_KINDS
                    case h190 => exact g_MOST_KINDS
                    case h191 => exact r_MOST_KINDS
                  case h178 => with_unfolding_all rfl
        case h154 =>
          refine' pss_one ?h192
          case h192 => exact ps_never
        case h155 => exact pss_nil
      case h152 =>
        refine' pss_cons ?h193 ?h194
        case h193 =>
          refine' ps_for ?h195 ?h196 ?h197 ?h198 ?h199 ?h200
          case h195 => exact PassesOwn.never
          case h196 => exact rfl
          case h197 =>
            refine' pi_seq ?h201
            case h201 => exact (pq 0 (x := Str.ofString "kinds") (visL lk_checked_kinds_kinds) nd_FG_kinds nc_FG_kinds)
          case h198 =>
            refine' pg_name (i := 1) (x := Str.ofString "kind") ?h202 ?h203 ?h204 ?h205
            case h202 => exact SC.nd
            case h203 => exact rfl
            case h204 => exact (Or.inl lk_checked_kinds_kind)
            case h205 => exact (.inl rfl)
          case h199 =>
            refine' pss_one ?h206
            case h206 =>
              refine' ps_if ?h207 ?h208 ?h209
              case h207 =>
                refine' pt_not ?h210
                case h210 =>
                  refine' pt_val ?h211 ?h212
                  case h211 =>
                    refine' pe_def (hdb := nd_FG_is_name) ?h213 ?h214 ?h215 ?h216 ?h217 ?h218
                    case h213 => exact D_is_name
                    case h214 => exact (hr.mono (by decide))
                    case h215 => exact lk_checked_kinds_is_name
                    case h216 =>
                      refine' pa_cons ?h219 ?h220 ?h221
                      case h219 => exact (pq 1 (x := Str.ofString "kind") (visL lk_checked_kinds_kind) nd_FG_kind nc_FG_kind)
                      case h220 => exact pa_nil
                      case h221 => rfl
                    case h217 => rfl
                    case h218 => rfl
                  case h212 => intro _; rfl
              case h208 =>
                refine' pss_one ?h222
                case h222 => exact ps_never
              case h209 => exact pss_nil
          case h200 => intro _; rfl
        case h194 =>
          refine' pss_cons ?h223 ?h224
          case h223 =>
            refine' ps_expr ?h225 ?h226
            case h225 =>
              refine' pe_def (hdb := nd_FG_check_apart) ?h227 ?h228 ?h229 ?h230 ?h231 ?h232
              case h227 => exact D_check_apart
              case h228 => exact (hr.mono (by decide))
              case h229 => exact lk_checked_kinds_check_apart
              case h230 =>
                refine' pa_cons ?h233 ?h234 ?h235
                case h233 => exact (pq 0 (x := Str.ofString "kinds") (visL lk_checked_kinds_kinds) nd_FG_kinds nc_FG_kinds)
                case h234 => exact pa_nil
                case h235 => rfl
              case h231 => rfl
              case h232 => rfl
            case h226 => rfl
          case h224 =>
            refine' pss_one ?h236
            case h236 =>
              refine' ps_ret ?h237
              case h237 =>
                refine' pe_callTy (hn := nn_FG_tuple) (hdb := nd_FG_tuple) ?h238 ?h239 ?h240 ?h241 ?h242 ?h243 ?h244
                case h238 => exact call_tuple_of
                case h239 => exact lk_checked_kinds_tuple
                case h240 => exact Z.n_tuple
                case h241 => exact bt_tuple
                case h242 =>
                  refine' pa_cons ?h245 ?h246 ?h247
                  case h245 => exact (pq 0 (x := Str.ofString "kinds") (visL lk_checked_kinds_kinds) nd_FG_kinds nc_FG_kinds)
                  case h246 => exact pa_nil
                  case h247 => rfl
                case h243 => rfl
                case h244 => rfl
    refine ⟨_, rfl, a, _, rfl, hL, fun H1 s1 => ⟨true, rfl, iteF ?_⟩⟩
    refine ⟨_, rfl, a, _, rfl, (hL.same s1).sq, _, _, rfl, rfl, _, rfl, ifT (decide_eq_true (by rw [List.length_map]; omega)) ?_⟩
    refine ⟨_, _, rfl, rfl, _, rfl, ifF (by rw [List.length_map]; simp; omega) ?_⟩
    refine (hL.same s1).over rfl fun J O => O.loop (fun j σ H2 => ∃ v, σ = [some (.ref a), v] ∧ Same H1 H2) ⟨_, rfl, Same.refl _⟩ (fun j σ H2 _ ⟨_, _, z⟩ o e => z a o e) ?_ ?_
    · rintro i x σ H2 hi ⟨v, rfl, s2⟩
      rw [List.getElem?_map] at hi
      obtain ⟨k, hk, rfl⟩ := Option.map_eq_some_iff.mp hi
      refine ⟨_, rfl, k, rfl, ok.kn2 k (List.mem_of_getElem? hk), fun H3 s3 => ⟨true, rfl, iteF ?_⟩⟩
      exact ⟨_, rfl, s2.trans s3⟩
    · rintro σ H2 ⟨v, rfl, s2⟩
      refine ⟨_, rfl, a, ks, rfl, (hL.same s1).same s2, ok.kn, by omega, fun H3 s3 => ?_⟩
      have s03 := (s1.trans s2).trans s3
      refine ⟨_, rfl, a, ks.map V.str, rfl, ?_⟩
      rcases hL.same s03 with e | e
      · exact .inl ⟨SqL.of e, fun l hl => q l _ upd_same (s03.trans (same_new hl _))⟩
      · exact .inr ⟨SqT.of e, q a _ e s03⟩
abbrev s_checked_kind : Stmt := top 19
theorem sc_checked_kind : FnScope ["kinds", "kind"] ["kinds", "kind"] (defScope s_checked_kind) := ⟨rfl, rfl, rfl, by decide +kernel, rfl, by decide +kernel, by decide +kernel⟩
theorem lk_checked_kind_is_name : (defScope s_checked_kind).names.lookup (Str.ofString "is_name") = some NameKind.globalImplicit := by decide +kernel
theorem lk_checked_kind_kind : (defScope s_checked_kind).names.lookup (Str.ofString "kind") = some NameKind.local := by decide +kernel
theorem lk_checked_kind_kinds : (defScope s_checked_kind).names.lookup (Str.ofString "kinds") = some NameKind.local := by decide +kernel
def spKind : Sp := fun vs H Q _ => ∃ (a : Addr) (ks : List Str) (k : Str), vs = [.ref a, .str k] ∧ LT H a (ks.map V.str) ∧ isNm k ∧ k ∈ ks ∧ ∀ H', Same H H' → Q (.str k) H'
theorem flat_strs : ∀ ws : List Str, (ws.map V.str).all flatV = true
  | [] => rfl
  | x :: r => by
    show (flatV (V.str x) && (r.map V.str).all flatV) = true
    rw [flat_strs r]; rfl
theorem ok_kind (F : FunAt K mg "checked_kind" s_checked_kind ["kinds", "kind"]) (Z : Bl mg) (D_is_name : Def P w K mg base "is_name" 1 ["thing"] spIsName) : Def P w K mg base "checked_kind" 2 ["kinds", "kind"] spKind := by
  have SC := sc_checked_kind
  refine F.mk' (k := 1) sc_checked_kind (fun vs H Q E h => ?_) (fun f cdv A outer s H vs Q E hr h => ?_)
  · obtain ⟨a, ks, k, rfl, _⟩ := h
    rfl
  · obtain ⟨a, ks, k, rfl, hL, hn, hk, q⟩ := h
    refine' ⟨_, ?derivation, ?_⟩
    case derivation =>
      refine' pss_cons ?h248 ?h249
      case h248 =>
        refine' ps_if ?h250 ?h251 ?h252
        case h250 =>
          refine' PW.pt ?h253
          case h253 =>
            refine' pw_or ?h254 ?h255
            case h254 =>
              refine' pt_not ?h256
              case h256 =>
                refine' pt_val ?h257 ?h258
                case h257 =>
                  refine' pe_def (hdb := nd_FG_is_name) ?h259 ?h260 ?h261 ?h262 ?h263 ?h264
                  case h259 => exact D_is_name
                  case h260 => exact (hr.mono (by decide))
                  case h261 => exact lk_checked_kind_is_name
                  case h262 =>
                    refine' pa_cons ?h265 ?h266 ?h267
                    case h265 => exact (pq 1 (x := Str.ofString "kind") (visL lk_checked_kind_kind) nd_FG_kind nc_FG_kind)
                    case h266 => exact pa_nil
                    case h267 => rfl
                  case h263 => rfl
                  case h264 => rfl
                case h258 => intro _; rfl
            case h255 =>
              refine' pw_or1 ?h268
              case h268 =>
                refine' pt_cmpR ?h269 ?h270 ?h271 ?h272
                case h269 => exact op_notIn_seq
                case h270 => exact (pq 1 (x := Str.ofString "kind") (visL lk_checked_kind_kind) nd_FG_kind nc_FG_kind)
                case h271 => exact (pq 0 (x := Str.ofString "kinds") (visL lk_checked_kind_kinds) nd_FG_kinds nc_FG_kinds)
                case h272 => exact (by with_unfolding_all rfl)
        case h251 =>
          refine' pss_one ?h273
          case h273 => exact ps_never
        case h252 => exact pss_nil
      case h249 =>
        refine' pss_one ?h274
        case h274 =>
          refine' ps_ret ?h275
          case h275 => exact (pq 1 (x := Str.ofString "kind") (visL lk_checked_kind_kind) nd_FG_kind nc_FG_kind)
    refine ⟨_, rfl, k, rfl, hn, fun H1 s1 => ⟨true, rfl, iteF ?_⟩⟩
    refine ⟨_, rfl, _, rfl, a, _, rfl, (hL.same s1).sq, rfl, flat_strs ks, _, rfl, ifF ?_ ⟨_, rfl, q _ s1⟩⟩
    rw [inV_strs, decide_eq_true hk]
    decide
abbrev s_checked_places : Stmt := top 18
theorem sc_checked_places : FnScope ["kinds", "places"] ["kinds", "places"] (defScope s_checked_places) := ⟨rfl, rfl, rfl, by decide +kernel, rfl, by decide +kernel, by decide +kernel⟩
theorem lk_checked_places_MOST_PLACES : (defScope s_checked_places).names.lookup (Str.ofString "MOST_PLACES") = some NameKind.globalImplicit := by decide +kernel
theorem lk_checked_places_is_list : (defScope s_checked_places).names.lookup (Str.ofString "is_list") = some NameKind.globalImplicit := by decide +kernel
theorem lk_checked_places_len : (defScope s_checked_places).names.lookup (Str.ofString "len") = some NameKind.globalImplicit := by decide +kernel
theorem lk_checked_places_places : (defScope s_checked_places).names.lookup (Str.ofString "places") = some NameKind.local := by decide +kernel
theorem lk_checked_places_tuple : (defScope s_checked_places).names.lookup (Str.ofString "tuple") = some NameKind.globalImplicit := by decide +kernel
theorem sp_checked_places_1 : CompSc 1 ["kind", "kinds", "places"] ["kinds", "places"] (defScope s_checked_places) { kind := PySem.ScopeKind.function, names := [ (PySem.Str.ofString ".0", PySem.NameKind.local), (PySem.Str.ofString "kind", PySem.NameKind.local), (PySem.Str.ofString "checked_kind", PySem.NameKind.globalImplicit), (PySem.Str.ofString "kinds", PySem.NameKind.free)], isGenerator := false, isCoroutine := false, more := [] : PySem.Scope } := ⟨rfl, by decide +kernel, by decide +kernel, by decide +kernel, by decide +kernel, rfl, by decide +kernel⟩
theorem lk_checked_places_c1_checked_kind : ({ kind := PySem.ScopeKind.function, names := [ (PySem.Str.ofString ".0", PySem.NameKind.local), (PySem.Str.ofString "kind", PySem.NameKind.local), (PySem.Str.ofString "checked_kind", PySem.NameKind.globalImplicit), (PySem.Str.ofString "kinds", PySem.NameKind.free)], isGenerator := false, isCoroutine := false, more := [] : PySem.Scope } : Scope).names.lookup (Str.ofString "checked_kind") = some NameKind.globalImplicit := by decide +kernel
theorem lk_checked_places_c1_kind : ({ kind := PySem.ScopeKind.function, names := [ (PySem.Str.ofString ".0", PySem.NameKind.local), (PySem.Str.ofString "kind", PySem.NameKind.local), (PySem.Str.ofString "checked_kind", PySem.NameKind.globalImplicit), (PySem.Str.ofString "kinds", PySem.NameKind.free)], isGenerator := false, isCoroutine := false, more := [] : PySem.Scope } : Scope).names.lookup (Str.ofString "kind") = some NameKind.local := by decide +kernel
theorem lk_checked_places_c1_kinds : ({ kind := PySem.ScopeKind.function, names := [ (PySem.Str.ofString ".0", PySem.NameKind.local), (PySem.Str.ofString "kind", PySem.NameKind.local), (PySem.Str.ofString "checked_kind", PySem.NameKind.globalImplicit), (PySem.Str.ofString "kinds", PySem.NameKind.free)], isGenerator := false, isCoroutine := false, more := [] : PySem.Scope } : Scope).names.lookup (Str.ofString "kinds") = some NameKind.free := by decide +kernel
def spPlaces : Sp := fun vs H Q _ => ∃ (a b : Addr) (ks ps : List Str), vs = [.ref a, .ref b] ∧ LT H a (ks.map V.str) ∧ (∀ k ∈ ks, isNm k) ∧ LT H b (ps.map V.str) ∧ ps.length ≤ 2 ∧ (∀ k ∈ ps, k ∈ ks) ∧ ∀ t H', H' t = some (.tup (ps.map V.str)) → Same H H' → Q (.ref t) H'
theorem ok_places (F : FunAt K mg "checked_places" s_checked_places ["kinds", "places"]) (Z : Bl mg) (G : Gs K mg) (D_is_list : Def P w K mg base "is_list" 1 ["thing"] spIsList) (D_checked_kind : Def P w K mg base "checked_kind" 2 ["kinds", "kind"] spKind) : Def P w K mg base "checked_places" 3 ["kinds", "places"] spPlaces := by
  have SC := sc_checked_places
  obtain ⟨_, g_MOST_PLACES, r_MOST_PLACES⟩ := G.mplaces
  refine F.mk' (k := 2) sc_checked_places (fun vs H Q E h => ?_) (fun f cdv A outer s H vs Q E hr h => ?_)
  · obtain ⟨a, b, ks, ps, rfl, _⟩ := h
    rfl
  · obtain ⟨a, b, ks, ps, rfl, hA, hnm, hB, h2, hin, q⟩ := h
    refine' ⟨_, ?derivation, ?_⟩
    case derivation =>
      refine' pss_cons ?h276 ?h277
      case h276 =>
        refine' ps_if ?h278 ?h279 ?h280
        case h278 =>
          refine' PW.pt ?h281
          case h281 =>
            refine' pw_or ?h282 ?h283
            case h282 =>
              refine' pt_not ?h284
              case h284 =>
                refine' pt_val ?h285 ?h286
                case h285 =>
                  refine' pe_def (hdb := nd_FG_is_list) ?h287 ?h288 ?h289 ?h290 ?h291 ?h292
                  case h287 => exact D_is_list
                  case h288 => exact (hr.mono (by decide))
                  case h289 => exact lk_checked_places_is_list
                  case h290 =>
                    refine' pa_cons ?h293 ?h294 ?h295
                    case h293 => exact (pq 1 (x := Str.ofString "places") (visL lk_checked_places_places) nd_FG_places nc_FG_places)
                    case h294 => exact pa_nil
                    case h295 => rfl
                  case h291 => rfl
                  case h292 => rfl
                case h286 => intro _; rfl
            case h283 =>
              refine' pw_or1 ?h296
              case h296 =>
                refine' pt_cmpR ?h297 ?h298 ?h299 ?h300
                case h297 => exact op_gt
                case h298 =>
                  refine' pe_callB (hn := nn_FG_len) (hdb := nd_FG_len) ?h301 ?h302 ?h303 ?h304 ?h305 ?h306 ?h307
                  case h301 => exact call_len_seq
                  case h302 => exact lk_checked_places_len
                  case h303 => exact Z.n_len
                  case h304 => exact bt_len
                  case h305 =>
                    refine' pa_cons ?h308 ?h309 ?h310
                    case h308 => exact (pq 1 (x := Str.ofString "places") (visL lk_checked_places_places) nd_FG_places nc_FG_places)
                    case h309 => exact pa_nil
                    case h310 => rfl
                  case h306 => rfl
                  case h307 => rfl
                case h299 =>
                  refine' pe_glob (hd := nd_FG_MOST_PLACES) ?h311 ?h312 ?h313
                  case h311 => exact lk_checked_places_MOST_PLACES
                  case h312 => exact g_MOST_PLACES
                  case h313 => exact r_MOST_PLACES
                case h300 => exact (nomark _)
        case h279 =>
          refine' pss_one ?h314
          case h314 => exact ps_never
        case h280 => exact pss_nil
      case h277 =>
        refine' pss_one ?h315
        case h315 =>
          refine' ps_ret ?h316
          case h316 =>
            refine' pe_callTy (hn := nn_FG_tuple) (hdb := nd_FG_tuple) ?h317 ?h318 ?h319 ?h320 ?h321 ?h322 ?h323
            case h317 => exact call_tuple_of
            case h318 => exact lk_checked_places_tuple
            case h319 => exact Z.n_tuple
            case h320 => exact bt_tuple
            case h321 =>
              refine' pa_cons ?h324 ?h325 ?h326
              case h324 =>
                refine' pe_comp ?h327 ?h328 ?h329 ?h330 ?h331 ?h332 ?h333
                case h327 => exact noxe
                case h328 => exact rfl
                case h329 => exact sp_checked_places_1.at
                case h330 =>
                  refine' pi_seq ?h334
                  case h334 => exact (pq 1 (x := Str.ofString "places") (visL lk_checked_places_places) nd_FG_places nc_FG_places)
                case h331 =>
                  intro _ _ _ _ _
                  refine' pg_name (i := 0) ?h335 ?h336 ?h337 ?h338
                  case h335 => exact sp_checked_places_1.nd
                  case h336 => exact rfl
                  case h337 => exact (locO lk_checked_places_c1_kind)
                  case h338 => exact (.inr (lookup_relabel_local lk_checked_places_c1_kind))
                case h332 =>
                  intro _ _ _ _ _
                  refine' pe_def (hdb := nd_FG_checked_kind) ?h339 ?h340 ?h341 ?h342 ?h343 ?h344
                  case h339 => exact D_checked_kind
                  case h340 => exact (hr.mono (by decide))
                  case h341 => exact (glO lk_checked_places_c1_checked_kind)
                  case h342 =>
                    refine' pa_cons ?h345 ?h346 ?h347
                    case h345 => exact (pq 1 (x := Str.ofString "kinds") (visF lk_checked_places_c1_kinds) nd_FG_kinds nc_FG_kinds)
                    case h346 =>
                      refine' pa_cons ?h348 ?h349 ?h350
                      case h348 => exact (pq 0 (x := Str.ofString "kind") (visO lk_checked_places_c1_kind) nd_FG_kind nc_FG_kind)
                      case h349 => exact pa_nil
                      case h350 => rfl
                    case h347 => rfl
                  case h343 => rfl
                  case h344 => rfl
                case h333 => intro _; rfl
              case h325 => exact pa_nil
              case h326 => rfl
            case h322 => rfl
            case h323 => rfl
    refine ⟨_, rfl, b, _, rfl, hB, fun H1 s1 => ⟨true, rfl, iteF ?_⟩⟩
    refine ⟨_, rfl, b, _, rfl, (hB.same s1).sq, _, _, rfl, rfl, _, rfl, ifF (by rw [List.length_map]; simp; omega) ?_⟩
    refine (hB.same s1).over rfl fun J O => ?_
    intro cl C ex s0 H0
    refine O.comp (fun i ys H2 => ys = (ps.take i).map V.str ∧ Same H1 H2) ⟨rfl, Same.refl _⟩ (by rw [List.length_map]; exact Nat.le_trans h2 (by decide)) (fun i ys H2 _ ⟨_, z⟩ o e => z b o e) ?_ ?_
    · rintro i x ys H2 hi hy ⟨rfl, s2⟩
      rw [List.getElem?_map] at hi
      obtain ⟨k, hk, rfl⟩ := Option.map_eq_some_iff.mp hi
      have hkp := hin k (List.mem_of_getElem? hk)
      refine ⟨_, rfl, _, rfl, a, ks, k, rfl, (hA.same s1).same s2, hnm k hkp, hkp, fun H3 s3 => ⟨?_, s2.trans s3⟩⟩
      rw [List.take_succ, hk, List.map_append]; rfl
    · rintro ys H2 hy ⟨rfl, s2⟩ D hD
      rw [List.length_map, List.take_length]
      refine ⟨D, _, rfl, .inl ⟨SqL.of upd_same, fun t ht => ?_⟩⟩
      exact q t _ upd_same ((s1.trans s2).trans ((same_new hD _).trans (same_new ht _)))
abbrev s_checked_sign_name : Stmt := top 17
theorem sc_checked_sign_name : FnScope ["name"] ["name"] (defScope s_checked_sign_name) := ⟨rfl, rfl, rfl, by decide +kernel, rfl, by decide +kernel, by decide +kernel⟩
theorem lk_checked_sign_name_WORDS_OF_SAYINGS : (defScope s_checked_sign_name).names.lookup (Str.ofString "WORDS_OF_SAYINGS") = some NameKind.globalImplicit := by decide +kernel
theorem lk_checked_sign_name_is_name : (defScope s_checked_sign_name).names.lookup (Str.ofString "is_name") = some NameKind.globalImplicit := by decide +kernel
theorem lk_checked_sign_name_name : (defScope s_checked_sign_name).names.lookup (Str.ofString "name") = some NameKind.local := by decide +kernel
def spSignName : Sp := fun vs H Q _ => ∃ (k : Str), vs = [.str k] ∧ isSg k ∧ ∀ H', Same H H' → Q (.str k) H'
theorem ok_sign_name (F : FunAt K mg "checked_sign_name" s_checked_sign_name ["name"]) (Z : Bl mg) (G : Gs K mg) (D_is_name : Def P w K mg base "is_name" 1 ["thing"] spIsName) : Def P w K mg base "checked_sign_name" 2 ["name"] spSignName := by
  have SC := sc_checked_sign_name
  obtain ⟨wa, g_WORDS_OF_SAYINGS, hW⟩ := G.words
  have r_WORDS_OF_SAYINGS : RelV (.ref wa) (.ref wa) := rfl
  refine F.mk' (k := 1) sc_checked_sign_name (fun vs H Q E h => ?_) (fun f cdv A outer s H vs Q E hr h => ?_)
  · obtain ⟨k, rfl, _⟩ := h
    rfl
  · obtain ⟨k, rfl, hs, q⟩ := h
    refine' ⟨_, ?derivation, ?_⟩
    case derivation =>
      refine' pss_cons ?h351 ?h352
      case h351 =>
        refine' ps_if ?h353 ?h354 ?h355
        case h353 =>
          refine' PW.pt ?h356
          case h356 =>
            refine' pw_or ?h357 ?h358
            case h357 =>
              refine' pt_not ?h359
              case h359 =>
                refine' pt_val ?h360 ?h361
                case h360 =>
                  refine' pe_def (hdb := nd_FG_is_name) ?h362 ?h363 ?h364 ?h365 ?h366 ?h367
                  case h362 => exact D_is_name
                  case h363 => exact (hr.mono (by decide))
                  case h364 => exact lk_checked_sign_name_is_name
                  case h365 =>
                    refine' pa_cons ?h368 ?h369 ?h370
                    case h368 => exact (pq 0 (x := Str.ofString "name") (visL lk_checked_sign_name_name) nd_FG_name nc_FG_name)
                    case h369 => exact pa_nil
                    case h370 => rfl
                  case h366 => rfl
                  case h367 => rfl
                case h361 => intro _; rfl
            case h358 =>
              refine' pw_or1 ?h371
              case h371 =>
                refine' pt_cmpR ?h372 ?h373 ?h374 ?h375
                case h372 => exact op_in_seq
                case h373 => exact (pq 0 (x := Str.ofString "name") (visL lk_checked_sign_name_name) nd_FG_name nc_FG_name)
                case h374 =>
                  refine' pe_glob (hd := nd_FG_WORDS_OF_SAYINGS) ?h376 ?h377 ?h378
                  case h376 => exact lk_checked_sign_name_WORDS_OF_SAYINGS
                  case h377 => exact g_WORDS_OF_SAYINGS
                  case h378 => exact r_WORDS_OF_SAYINGS
                case h375 => exact (by with_unfolding_all rfl)
        case h354 =>
          refine' pss_one ?h379
          case h379 => exact ps_never
        case h355 => exact pss_nil
      case h352 =>
        refine' pss_one ?h380
        case h380 =>
          refine' ps_ret ?h381
          case h381 => exact (pq 0 (x := Str.ofString "name") (visL lk_checked_sign_name_name) nd_FG_name nc_FG_name)
    refine ⟨_, rfl, k, rfl, hs.1, fun H1 s1 => ⟨true, rfl, iteF ?_⟩⟩
    refine ⟨_, rfl, wa, _, rfl, .inr (hW _), rfl, flat_strs sayWords, _, rfl, ifF ?_ ⟨_, rfl, q _ s1⟩⟩
    rw [inV_strs, decide_eq_false hs.2]
    decide
abbrev s_checked_tie : Stmt := top 15
theorem sc_checked_tie : FnScope ["kinds", "tie", "name", "places"] ["kinds", "tie"] (defScope s_checked_tie) := ⟨rfl, rfl, rfl, by decide +kernel, rfl, by decide +kernel, by decide +kernel⟩
theorem lk_checked_tie_checked_places : (defScope s_checked_tie).names.lookup (Str.ofString "checked_places") = some NameKind.globalImplicit := by decide +kernel
theorem lk_checked_tie_checked_sign_name : (defScope s_checked_tie).names.lookup (Str.ofString "checked_sign_name") = some NameKind.globalImplicit := by decide +kernel
theorem lk_checked_tie_is_list : (defScope s_checked_tie).names.lookup (Str.ofString "is_list") = some NameKind.globalImplicit := by decide +kernel
theorem lk_checked_tie_kinds : (defScope s_checked_tie).names.lookup (Str.ofString "kinds") = some NameKind.local := by decide +kernel
theorem lk_checked_tie_len : (defScope s_checked_tie).names.lookup (Str.ofString "len") = some NameKind.globalImplicit := by decide +kernel
theorem lk_checked_tie_name : (defScope s_checked_tie).names.lookup (Str.ofString "name") = some NameKind.local := by decide +kernel
theorem lk_checked_tie_places : (defScope s_checked_tie).names.lookup (Str.ofString "places") = some NameKind.local := by decide +kernel
theorem lk_checked_tie_tie : (defScope s_checked_tie).names.lookup (Str.ofString "tie") = some NameKind.local := by decide +kernel
/-- name and places are a sign's -/
def SgOk (ks : List Str) (nm : Str) (ps : List Str) : Prop := isSg nm ∧ ps.length ≤ 2 ∧ ∀ k ∈ ps, k ∈ ks
def spTie : Sp := fun vs H Q _ => ∃ (a b c : Addr) (ks ps : List Str) (nm : Str), vs = [.ref a, .ref b] ∧ LT H a (ks.map V.str) ∧ (∀ k ∈ ks, isNm k) ∧ LT H b [.str nm, .ref c] ∧ LT H c (ps.map V.str) ∧ SgOk ks nm ps ∧
  ∀ t u H', H' t = some (.tup [.str nm, .ref u]) → H' u = some (.tup (ps.map V.str)) → Same H H' → Q (.ref t) H'
theorem ok_tie (F : FunAt K mg "checked_tie" s_checked_tie ["kinds", "tie"]) (Z : Bl mg) (D_is_list : Def P w K mg base "is_list" 1 ["thing"] spIsList) (D_checked_sign_name : Def P w K mg base "checked_sign_name" 2 ["name"] spSignName) (D_checked_places : Def P w K mg base "checked_places" 3 ["kinds", "places"] spPlaces) :
    Def P w K mg base "checked_tie" 4 ["kinds", "tie"] spTie := by
  have SC := sc_checked_tie
  refine F.mk' (k := 3) sc_checked_tie (fun vs H Q E h => ?_) (fun f cdv A outer s H vs Q E hr h => ?_)
  · obtain ⟨a, b, c, ks, ps, nm, rfl, _⟩ := h
    rfl
  · obtain ⟨a, b, c, ks, ps, nm, rfl, hA, hnm, hB, hC, ⟨hs, h2, hin⟩, q⟩ := h
    refine' ⟨_, ?derivation, ?_⟩
    case derivation =>
      refine' pss_cons ?h382 ?h383
      case h382 =>
        refine' ps_if ?h384 ?h385 ?h386
        case h384 =>
          refine' PW.pt ?h387
          case h387 =>
            refine' pw_or ?h388 ?h389
            case h388 =>
              refine' pt_not ?h390
              case h390 =>
                refine' pt_val ?h391 ?h392
                case h391 =>
                  refine' pe_def (hdb := nd_FG_is_list) ?h393 ?h394 ?h395 ?h396 ?h397 ?h398
                  case h393 => exact D_is_list
                  case h394 => exact (hr.mono (by decide))
                  case h395 => exact lk_checked_tie_is_list
                  case h396 =>
                    refine' pa_cons ?h399 ?h400 ?h401
                    case h399 => exact (pq 1 (x := Str.ofString "tie") (visL lk_checked_tie_tie) nd_FG_tie nc_FG_tie)
                    case h400 => exact pa_nil
                    case h401 => rfl
                  case h397 => rfl
                  case h398 => rfl
                case h392 => intro _; rfl
            case h389 =>
              refine' pw_or1 ?h402
              case h402 =>
                refine' pt_cmpR ?h403 ?h404 ?h405 ?h406
                case h403 => exact op_ne
                case h404 =>
                  refine' pe_callB (hn := nn_FG_len) (hdb := nd_FG_len) ?h407 ?h408 ?h409 ?h410 ?h411 ?h412 ?h413
                  case h407 => exact call_len_seq
                  case h408 => exact lk_checked_tie_len
                  case h409 => exact Z.n_len
                  case h410 => exact bt_len
                  case h411 =>
                    refine' pa_cons ?h414 ?h415 ?h416
                    case h414 => exact (pq 1 (x := Str.ofString "tie") (visL lk_checked_tie_tie) nd_FG_tie nc_FG_tie)
                    case h415 => exact pa_nil
                    case h416 => rfl
                  case h412 => rfl
                  case h413 => rfl
                case h405 => exact pe_int
                case h406 => exact (nomark _)
        case h385 =>
          refine' pss_one ?h417
          case h417 => exact ps_never
        case h386 => exact pss_nil
      case h383 =>
        refine' pss_cons ?h418 ?h419
        case h418 =>
          refine' ps_asg ?h420 ?h421 ?h422 ?h423 ?h424
          case h420 => exact (pq 1 (x := Str.ofString "tie") (visL lk_checked_tie_tie) nd_FG_tie nc_FG_tie)
          case h421 =>
            refine' pg_seq ?h425 ?h426 ?h427 ?h428
            case h425 => exact rfl
            case h426 =>
              refine' pgs_cons ?h429 ?h430 ?h431
              case h429 =>
                refine' pg_name (i := 2) (x := Str.ofString "name") ?h432 ?h433 ?h434 ?h435
                case h432 => exact SC.nd
                case h433 => exact rfl
                case h434 => exact (Or.inl lk_checked_tie_name)
                case h435 => exact (.inl rfl)
              case h430 =>
                refine' pgs_cons ?h436 ?h437 ?h438
                case h436 =>
                  refine' pg_name (i := 3) (x := Str.ofString "places") ?h439 ?h440 ?h441 ?h442
                  case h439 => exact SC.nd
                  case h440 => exact rfl
                  case h441 => exact (Or.inl lk_checked_tie_places)
                  case h442 => exact (.inl rfl)
                case h437 => exact pgs_nil
                case h438 => rfl
              case h431 => rfl
            case h427 => rfl
            case h428 => rfl
          case h422 => rfl
          case h423 => rfl
          case h424 => rfl
        case h419 =>
          refine' pss_one ?h443
          case h443 =>
            refine' ps_ret ?h444
            case h444 =>
              refine' pe_tup ?h445
              case h445 =>
                refine' pa_cons ?h446 ?h447 ?h448
                case h446 =>
                  refine' pe_def (hdb := nd_FG_checked_sign_name) ?h449 ?h450 ?h451 ?h452 ?h453 ?h454
                  case h449 => exact D_checked_sign_name
                  case h450 => exact (hr.mono (by decide))
                  case h451 => exact lk_checked_tie_checked_sign_name
                  case h452 =>
                    refine' pa_cons ?h455 ?h456 ?h457
                    case h455 => exact (pq 2 (x := Str.ofString "name") (visL lk_checked_tie_name) nd_FG_name nc_FG_name)
                    case h456 => exact pa_nil
                    case h457 => rfl
                  case h453 => rfl
                  case h454 => rfl
                case h447 =>
                  refine' pa_cons ?h458 ?h459 ?h460
                  case h458 =>
                    refine' pe_def (hdb := nd_FG_checked_places) ?h461 ?h462 ?h463 ?h464 ?h465 ?h466
                    case h461 => exact D_checked_places
                    case h462 => exact (hr.mono (by decide))
                    case h463 => exact lk_checked_tie_checked_places
                    case h464 =>
                      refine' pa_cons ?h467 ?h468 ?h469
                      case h467 => exact (pq 0 (x := Str.ofString "kinds") (visL lk_checked_tie_kinds) nd_FG_kinds nc_FG_kinds)
                      case h468 =>
                        refine' pa_cons ?h470 ?h471 ?h472
                        case h470 => exact (pq 3 (x := Str.ofString "places") (visL lk_checked_tie_places) nd_FG_places nc_FG_places)
                        case h471 => exact pa_nil
                        case h472 => rfl
                      case h469 => rfl
                    case h465 => rfl
                    case h466 => rfl
                  case h459 => exact pa_nil
                  case h460 => rfl
                case h448 => rfl
    refine ⟨_, rfl, b, _, rfl, hB, fun H1 s1 => ⟨true, rfl, iteF ?_⟩⟩
    refine ⟨_, rfl, b, _, rfl, (hB.same s1).sq, rfl, _, rfl, ifF (by simp) ?_⟩
    refine ⟨_, rfl, b, _, rfl, (hB.same s1).sq, rfl, _, _, rfl, _, _, rfl, rfl, ?_⟩
    refine ⟨_, rfl, nm, rfl, hs, fun H2 s2 => ?_⟩
    have s02 := s1.trans s2
    refine ⟨_, rfl, _, rfl, a, c, ks, ps, rfl, hA.same s02, hnm, hC.same s02, h2, hin, fun u H3 hu s3 => ?_⟩
    refine ⟨by show 2 ≤ sizeLine; decide, fun t ht => ?_⟩
    exact q t u _ upd_same (same_new ht _ _ _ hu) ((s02.trans s3).trans (same_new ht _))
abbrev s_checked_function : Stmt := top 16
theorem sc_checked_function : FnScope ["kinds", "function", "name", "places", "kind"] ["kinds", "function"] (defScope s_checked_function) := ⟨rfl, rfl, rfl, by decide +kernel, rfl, by decide +kernel, by decide +kernel⟩
theorem lk_checked_function_checked_kind : (defScope s_checked_function).names.lookup (Str.ofString "checked_kind") = some NameKind.globalImplicit := by decide +kernel
theorem lk_checked_function_checked_places : (defScope s_checked_function).names.lookup (Str.ofString "checked_places") = some NameKind.globalImplicit := by decide +kernel
theorem lk_checked_function_checked_sign_name : (defScope s_checked_function).names.lookup (Str.ofString "checked_sign_name") = some NameKind.globalImplicit := by decide +kernel
theorem lk_checked_function_function : (defScope s_checked_function).names.lookup (Str.ofString "function") = some NameKind.local := by decide +kernel
theorem lk_checked_function_is_list : (defScope s_checked_function).names.lookup (Str.ofString "is_list") = some NameKind.globalImplicit := by decide +kernel
theorem lk_checked_function_kind : (defScope s_checked_function).names.lookup (Str.ofString "kind") = some NameKind.local := by decide +kernel
theorem lk_checked_function_kinds : (defScope s_checked_function).names.lookup (Str.ofString "kinds") = some NameKind.local := by decide +kernel
theorem lk_checked_function_len : (defScope s_checked_function).names.lookup (Str.ofString "len") = some NameKind.globalImplicit := by decide +kernel
theorem lk_checked_function_name : (defScope s_checked_function).names.lookup (Str.ofString "name") = some NameKind.local := by decide +kernel
theorem lk_checked_function_places : (defScope s_checked_function).names.lookup (Str.ofString "places") = some NameKind.local := by decide +kernel
def spFunc : Sp := fun vs H Q _ => ∃ (a b c : Addr) (ks ps : List Str) (nm kd : Str), vs = [.ref a, .ref b] ∧ LT H a (ks.map V.str) ∧ (∀ k ∈ ks, isNm k) ∧ LT H b [.str nm, .ref c, .str kd] ∧ LT H c (ps.map V.str) ∧ SgOk ks nm ps ∧ kd ∈ ks ∧
  ∀ t u H', H' t = some (.tup [.str nm, .ref u, .str kd]) → H' u = some (.tup (ps.map V.str)) → Same H H' → Q (.ref t) H'
theorem ok_func (F : FunAt K mg "checked_function" s_checked_function ["kinds", "function"]) (Z : Bl mg) (D_is_list : Def P w K mg base "is_list" 1 ["thing"] spIsList) (D_checked_sign_name : Def P w K mg base "checked_sign_name" 2 ["name"] spSignName) (D_checked_places : Def P w K mg base "checked_places" 3 ["kinds", "places"] spPlaces)
    (D_checked_kind : Def P w K mg base "checked_kind" 2 ["kinds", "kind"] spKind) : Def P w K mg base "checked_function" 4 ["kinds", "function"] spFunc := by
  have SC := sc_checked_function
  refine F.mk' (k := 3) sc_checked_function (fun vs H Q E h => ?_) (fun f cdv A outer s H vs Q E hr h => ?_)
  · obtain ⟨a, b, c, ks, ps, nm, kd, rfl, _⟩ := h
    rfl
  · obtain ⟨a, b, c, ks, ps, nm, kd, rfl, hA, hnm, hB, hC, ⟨hs, h2, hin⟩, hkd, q⟩ := h
    refine' ⟨_, ?derivation, ?_⟩
    case derivation =>
      refine' pss_cons ?h473 ?h474
      case h473 =>
        refine' ps_if ?h475 ?h476 ?h477
        case h475 =>
          refine' PW.pt ?h478
          case h478 =>
            refine' pw_or ?h479 ?h480
            case h479 =>
              refine' pt_not ?h481
              case h481 =>
                refine' pt_val ?h482 ?h483
                case h482 =>
                  refine' pe_def (hdb := nd_FG_is_list) ?h484 ?h485 ?h486 ?h487 ?h488 ?h489
                  case h484 => exact D_is_list
                  case h485 => exact (hr.mono (by decide))
                  case h486 => exact lk_checked_function_is_list
                  case h487 =>
                    refine' pa_cons ?h490 ?h491 ?h492
                    case h490 => exact (pq 1 (x := Str.ofString "function") (visL lk_checked_function_function) nd_FG_function nc_FG_function)
                    case h491 => exact pa_nil
                    case h492 => rfl
                  case h488 => rfl
                  case h489 => rfl
                case h483 => intro _; rfl
            case h480 =>
              refine' pw_or1 ?h493
              case h493 =>
                refine' pt_cmpR ?h494 ?h495 ?h496 ?h497
                case h494 => exact op_ne
                case h495 =>
                  refine' pe_callB (hn := nn_FG_len) (hdb := nd_FG_len) ?h498 ?h499 ?h500 ?h501 ?h502 ?h503 ?h504
                  case h498 => exact call_len_seq
                  case h499 => exact lk_checked_function_len
                  case h500 => exact Z.n_len
                  case h501 => exact bt_len
                  case h502 =>
                    refine' pa_cons ?h505 ?h506 ?h507
                    case h505 => exact (pq 1 (x := Str.ofString "function") (visL lk_checked_function_function) nd_FG_function nc_FG_function)
                    case h506 => exact pa_nil
                    case h507 => rfl
                  case h503 => rfl
                  case h504 => rfl
                case h496 => exact pe_int
                case h497 => exact (nomark _)
        case h476 =>
          refine' pss_one ?h508
          case h508 => exact ps_never
        case h477 => exact pss_nil
      case h474 =>
        refine' pss_cons ?h509 ?h510
        case h509 =>
          refine' ps_asg ?h511 ?h512 ?h513 ?h514 ?h515
          case h511 => exact (pq 1 (x := Str.ofString "function") (visL lk_checked_function_function) nd_FG_function nc_FG_function)
          case h512 =>
            refine' pg_seq ?h516 ?h517 ?h518 ?h519
            case h516 => exact rfl
            case h517 =>
              refine' pgs_cons ?h520 ?h521 ?h522
              case h520 =>
                refine' pg_name (i := 2) (x := Str.ofString "name") ?h523 ?h524 ?h525 ?h526
                case h523 => exact SC.nd
                case h524 => exact rfl
                case h525 => exact (Or.inl lk_checked_function_name)
                case h526 => exact (.inl rfl)
              case h521 =>
                refine' pgs_cons ?h527 ?h528 ?h529
                case h527 =>
                  refine' pg_name (i := 3) (x := Str.ofString "places") ?h530 ?h531 ?h532 ?h533
                  case h530 => exact SC.nd
                  case h531 => exact rfl
                  case h532 => exact (Or.inl lk_checked_function_places)
                  case h533 => exact (.inl rfl)
                case h528 =>
                  refine' pgs_cons ?h534 ?h535 ?h536
                  case h534 =>
                    refine' pg_name (i := 4) (x := Str.ofString "kind") ?h537 ?h538 ?h539 ?h540
                    case h537 => exact SC.nd
                    case h538 => exact rfl
                    case h539 => exact (Or.inl lk_checked_function_kind)
                    case h540 => exact (.inl rfl)
                  case h535 => exact pgs_nil
                  case h536 => rfl
                case h529 => rfl
              case h522 => rfl
            case h518 => rfl
            case h519 => rfl
          case h513 => rfl
          case h514 => rfl
          case h515 => rfl
        case h510 =>
          refine' pss_one ?h541
          case h541 =>
            refine' ps_ret ?h542
            case h542 =>
              refine' pe_tup ?h543
              case h543 =>
                refine' pa_cons ?h544 ?h545 ?h546
                case h544 =>
                  refine' pe_def (hdb := nd_FG_checked_sign_name) ?h547 ?h548 ?h549 ?h550 ?h551 ?h552
                  case h547 => exact D_checked_sign_name
                  case h548 => exact (hr.mono (by decide))
                  case h549 => exact lk_checked_function_checked_sign_name
                  case h550 =>
                    refine' pa_cons ?h553 ?h554 ?h555
                    case h553 => exact (pq 2 (x := Str.ofString "name") (visL lk_checked_function_name) nd_FG_name nc_FG_name)
                    case h554 => exact pa_nil
                    case h555 => rfl
                  case h551 => rfl
                  case h552 => rfl
                case h545 =>
                  refine' pa_cons ?h556 ?h557 ?h558
                  case h556 =>
                    refine' pe_def (hdb := nd_FG_checked_places) ?h559 ?h560 ?h561 ?h562 ?h563 ?h564
                    case h559 => exact D_checked_places
                    case h560 => exact (hr.mono (by decide))
                    case h561 => exact lk_checked_function_checked_places
                    case h562 =>
                      refine' pa_cons ?h565 ?h566 ?h567
                      case h565 => exact (pq 0 (x := Str.ofString "kinds") (visL lk_checked_function_kinds) nd_FG_kinds nc_FG_kinds)
                      case h566 =>
                        refine' pa_cons ?h568 ?h569 ?h570
                        case h568 => exact (pq 3 (x := Str.ofString "places") (visL lk_checked_function_places) nd_FG_places nc_FG_places)
                        case h569 => exact pa_nil
                        case h570 => rfl
                      case h567 => rfl
                    case h563 => rfl
                    case h564 => rfl
                  case h557 =>
                    refine' pa_cons ?h571 ?h572 ?h573
                    case h571 =>
                      refine' pe_def (hdb := nd_FG_checked_kind) ?h574 ?h575 ?h576 ?h577 ?h578 ?h579
                      case h574 => exact D_checked_kind
                      case h575 => exact (hr.mono (by decide))
                      case h576 => exact lk_checked_function_checked_kind
                      case h577 =>
                        refine' pa_cons ?h580 ?h581 ?h582
                        case h580 => exact (pq 0 (x := Str.ofString "kinds") (visL lk_checked_function_kinds) nd_FG_kinds nc_FG_kinds)
                        case h581 =>
                          refine' pa_cons ?h583 ?h584 ?h585
                          case h583 => exact (pq 4 (x := Str.ofString "kind") (visL lk_checked_function_kind) nd_FG_kind nc_FG_kind)
                          case h584 => exact pa_nil
                          case h585 => rfl
                        case h582 => rfl
                      case h578 => rfl
                      case h579 => rfl
                    case h572 => exact pa_nil
                    case h573 => rfl
                  case h558 => rfl
                case h546 => rfl
    refine ⟨_, rfl, b, _, rfl, hB, fun H1 s1 => ⟨true, rfl, iteF ?_⟩⟩
    refine ⟨_, rfl, b, _, rfl, (hB.same s1).sq, rfl, _, rfl, ifF (by simp) ?_⟩
    refine ⟨_, rfl, b, _, rfl, (hB.same s1).sq, rfl, _, _, rfl, _, _, rfl, _, _, rfl, rfl, ?_⟩
    refine ⟨_, rfl, nm, rfl, hs, fun H2 s2 => ?_⟩
    have s02 := s1.trans s2
    refine ⟨_, rfl, _, rfl, a, c, ks, ps, rfl, hA.same s02, hnm, hC.same s02, h2, hin, fun u H3 hu s3 => ?_⟩
    have s03 := s02.trans s3
    refine ⟨_, rfl, _, rfl, a, ks, kd, rfl, hA.same s03, hnm kd hkd, hkd, fun H4 s4 => ?_⟩
    refine ⟨by show 3 ≤ sizeLine; decide, fun t ht => ?_⟩
    exact q t u _ upd_same (same_new ht _ _ _ (s4 _ _ hu)) ((s03.trans s4).trans (same_new ht _))
end
end Few

set_option Elab.async false
set_option linter.all false
set_option maxRecDepth 100000
set_option maxHeartbeats 1000000
namespace Few
open PySem L2
theorem nd_FH_MOST_SIGNS : ((Str.ofString "MOST_SIGNS" : Str) == ("__debug__" : Str)) = false := by decide +kernel
theorem nc_FH_MOST_SIGNS : ((Str.ofString "MOST_SIGNS" : Str) == ("__classdict__" : Str)) = false := by decide +kernel
theorem nn_FH_MOST_SIGNS : (Str.ofString "MOST_SIGNS" : Str) ≠ "__name__" := by decide +kernel
theorem nd_FH_check_apart : ((Str.ofString "check_apart" : Str) == ("__debug__" : Str)) = false := by decide +kernel
theorem nc_FH_check_apart : ((Str.ofString "check_apart" : Str) == ("__classdict__" : Str)) = false := by decide +kernel
theorem nn_FH_check_apart : (Str.ofString "check_apart" : Str) ≠ "__name__" := by decide +kernel
theorem nd_FH_checked_function : ((Str.ofString "checked_function" : Str) == ("__debug__" : Str)) = false := by decide +kernel
theorem nc_FH_checked_function : ((Str.ofString "checked_function" : Str) == ("__classdict__" : Str)) = false := by decide +kernel
theorem nn_FH_checked_function : (Str.ofString "checked_function" : Str) ≠ "__name__" := by decide +kernel
theorem nd_FH_checked_kinds : ((Str.ofString "checked_kinds" : Str) == ("__debug__" : Str)) = false := by decide +kernel
theorem nc_FH_checked_kinds : ((Str.ofString "checked_kinds" : Str) == ("__classdict__" : Str)) = false := by decide +kernel
theorem nn_FH_checked_kinds : (Str.ofString "checked_kinds" : Str) ≠ "__name__" := by decide +kernel
theorem nd_FH_checked_tie : ((Str.ofString "checked_tie" : Str) == ("__debug__" : Str)) = false := by decide +kernel
theorem nc_FH_checked_tie : ((Str.ofString "checked_tie" : Str) == ("__classdict__" : Str)) = false := by decide +kernel
theorem nn_FH_checked_tie : (Str.ofString "checked_tie" : Str) ≠ "__name__" := by decide +kernel
theorem nd_FH_function : ((Str.ofString "function" : Str) == ("__debug__" : Str)) = false := by decide +kernel
theorem nc_FH_function : ((Str.ofString "function" : Str) == ("__classdict__" : Str)) = false := by decide +kernel
theorem nn_FH_function : (Str.ofString "function" : Str) ≠ "__name__" := by decide +kernel
theorem nd_FH_functions : ((Str.ofString "functions" : Str) == ("__debug__" : Str)) = false := by decide +kernel
theorem nc_FH_functions : ((Str.ofString "functions" : Str) == ("__classdict__" : Str)) = false := by decide +kernel
theorem nn_FH_functions : (Str.ofString "functions" : Str) ≠ "__name__" := by decide +kernel
theorem nd_FH_is_list : ((Str.ofString "is_list" : Str) == ("__debug__" : Str)) = false := by decide +kernel
theorem nc_FH_is_list : ((Str.ofString "is_list" : Str) == ("__classdict__" : Str)) = false := by decide +kernel
theorem nn_FH_is_list : (Str.ofString "is_list" : Str) ≠ "__name__" := by decide +kernel
theorem nd_FH_kinds : ((Str.ofString "kinds" : Str) == ("__debug__" : Str)) = false := by decide +kernel
theorem nc_FH_kinds : ((Str.ofString "kinds" : Str) == ("__classdict__" : Str)) = false := by decide +kernel
theorem nn_FH_kinds : (Str.ofString "kinds" : Str) ≠ "__name__" := by decide +kernel
theorem nd_FH_len : ((Str.ofString "len" : Str) == ("__debug__" : Str)) = false := by decide +kernel
theorem nc_FH_len : ((Str.ofString "len" : Str) == ("__classdict__" : Str)) = false := by decide +kernel
theorem nn_FH_len : (Str.ofString "len" : Str) ≠ "__name__" := by decide +kernel
theorem nd_FH_list : ((Str.ofString "list" : Str) == ("__debug__" : Str)) = false := by decide +kernel
theorem nc_FH_list : ((Str.ofString "list" : Str) == ("__classdict__" : Str)) = false := by decide +kernel
theorem nn_FH_list : (Str.ofString "list" : Str) ≠ "__name__" := by decide +kernel
theorem nd_FH_self : ((Str.ofString "self" : Str) == ("__debug__" : Str)) = false := by decide +kernel
theorem nc_FH_self : ((Str.ofString "self" : Str) == ("__classdict__" : Str)) = false := by decide +kernel
theorem nn_FH_self : (Str.ofString "self" : Str) ≠ "__name__" := by decide +kernel
theorem nd_FH_sign : ((Str.ofString "sign" : Str) == ("__debug__" : Str)) = false := by decide +kernel
theorem nc_FH_sign : ((Str.ofString "sign" : Str) == ("__classdict__" : Str)) = false := by decide +kernel
theorem nn_FH_sign : (Str.ofString "sign" : Str) ≠ "__name__" := by decide +kernel
theorem nd_FH_tie : ((Str.ofString "tie" : Str) == ("__debug__" : Str)) = false := by decide +kernel
theorem nc_FH_tie : ((Str.ofString "tie" : Str) == ("__classdict__" : Str)) = false := by decide +kernel
theorem nn_FH_tie : (Str.ofString "tie" : Str) ≠ "__name__" := by decide +kernel
theorem nd_FH_ties : ((Str.ofString "ties" : Str) == ("__debug__" : Str)) = false := by decide +kernel
theorem nc_FH_ties : ((Str.ofString "ties" : Str) == ("__classdict__" : Str)) = false := by decide +kernel
theorem nn_FH_ties : (Str.ofString "ties" : Str) ≠ "__name__" := by decide +kernel
theorem nd_FH_tuple : ((Str.ofString "tuple" : Str) == ("__debug__" : Str)) = false := by decide +kernel
theorem nc_FH_tuple : ((Str.ofString "tuple" : Str) == ("__classdict__" : Str)) = false := by decide +kernel
theorem nn_FH_tuple : (Str.ofString "tuple" : Str) ≠ "__name__" := by decide +kernel
/-! ### a Signs -/
theorem n_tk : ¬ (("kept_ties" : Str) = "kept_kinds") := by decide +kernel
theorem n_fk : ¬ (("kept_functions" : Str) = "kept_kinds") := by decide +kernel
theorem n_ft : ¬ (("kept_functions" : Str) = "kept_ties") := by decide +kernel
def flK (kt : Addr) : List (Str × V) := putF "kept_kinds" (.ref kt) []
def flT (kt tt : Addr) : List (Str × V) := putF "kept_ties" (.ref tt) (flK kt)
def flF (kt tt ft : Addr) : List (Str × V) := putF "kept_functions" (.ref ft) (flT kt tt)
theorem flK_kinds (kt : Addr) : (flK kt).lookup ("kept_kinds" : Str) = some (.ref kt) := by unfold flK; rw [lookup_putF, if_pos rfl]
theorem flT_kinds (kt tt : Addr) : (flT kt tt).lookup ("kept_kinds" : Str) = some (.ref kt) := by unfold flT; rw [lookup_putF, if_neg (fun z => n_tk z.symm)]; exact flK_kinds kt
theorem flT_ties (kt tt : Addr) : (flT kt tt).lookup ("kept_ties" : Str) = some (.ref tt) := by unfold flT; rw [lookup_putF, if_pos rfl]
theorem flF_kinds (kt tt ft : Addr) : (flF kt tt ft).lookup ("kept_kinds" : Str) = some (.ref kt) := by unfold flF; rw [lookup_putF, if_neg (fun z => n_fk z.symm)]; exact flT_kinds kt tt
theorem flF_ties (kt tt ft : Addr) : (flF kt tt ft).lookup ("kept_ties" : Str) = some (.ref tt) := by unfold flF; rw [lookup_putF, if_neg (fun z => n_ft z.symm)]; exact flT_ties kt tt
theorem flF_funs (kt tt ft : Addr) : (flF kt tt ft).lookup ("kept_functions" : Str) = some (.ref ft) := by unfold flF; rw [lookup_putF, if_pos rfl]
theorem flK_len (kt : Addr) : (flK kt).length < 1000 := Nat.lt_of_le_of_lt (length_putF _ _ _) (by decide)
theorem flT_len (kt tt : Addr) : (flT kt tt).length < 1000 := by
  have h1 := length_putF ("kept_ties" : Str) (.ref tt) (flK kt)
  have h2 := length_putF ("kept_kinds" : Str) (.ref kt) []
  unfold flT flK at *
  simp only [List.length_nil] at h2
  omega
theorem fl_no {kt tt ft : Addr} {m : Str} (h1 : ¬ m = "kept_functions") (h2 : ¬ m = "kept_ties") (h3 : ¬ m = "kept_kinds") : (flF kt tt ft).lookup m = none := by
  unfold flF flT flK
  rw [lookup_putF, if_neg h1, lookup_putF, if_neg h2, lookup_putF, if_neg h3]
  rfl
abbrev Any : Addr → Prop := fun _ => True
/-- a Signs of the book stands at x -/
def SignsAt (C : Addr) (H : Hp) (x : Addr) (ks : List Str) (ts : List TieR) (fs : List FunR) : Prop :=
  ∃ dx kt tt ft tv fv, H x = some (.ins C dx (flF kt tt ft)) ∧ H kt = some (.tup (ks.map V.str)) ∧ H tt = some (.tup tv) ∧ RdA Any H tv (ts.map tieT) ∧ H ft = some (.tup fv) ∧ RdA Any H fv (fs.map funT)
theorem strs_tup : ∀ ws : List Str, tupOnlyA (strsD ws) = true
  | [] => rfl
  | x :: r => by
    show (tupOnly (PyData.str x) && tupOnlyA (strsD r)) = true
    rw [strs_tup r]; rfl
theorem tieT_tup (t : TieR) : tupOnly (tieT t) = true := by
  show (true && (tupOnlyA (strsD t.ps) && true)) = true
  rw [strs_tup]; rfl
theorem funT_tup (t : FunR) : tupOnly (funT t) = true := by
  show (true && (tupOnlyA (strsD t.ps) && (true && true))) = true
  rw [strs_tup]; rfl
theorem ties_tup : ∀ ts : List TieR, tupOnlyA (ts.map tieT) = true
  | [] => rfl
  | x :: r => by
    show (tupOnly (tieT x) && tupOnlyA (r.map tieT)) = true
    rw [ties_tup r, tieT_tup]; rfl
theorem funs_tup : ∀ ts : List FunR, tupOnlyA (ts.map funT) = true
  | [] => rfl
  | x :: r => by
    show (tupOnly (funT x) && tupOnlyA (r.map funT)) = true
    rw [funs_tup r, funT_tup]; rfl
/-- the tuples are kept -/
def Tups (H H' : Hp) : Prop := ∀ a xs, H a = some (.tup xs) → H' a = some (.tup xs)
theorem Same.tups {H H' : Hp} (s : Same H H') : Tups H H' := fun a xs e => s a _ e
theorem SignsAt.keep {C : Addr} {H H' : Hp} {x : Addr} {ks : List Str} {ts : List TieR} {fs : List FunR} (h : SignsAt C H x ks ts fs) (hx : ∀ o, H x = some o → H' x = some o) (ht : Tups H H') : SignsAt C H' x ks ts fs := by
  obtain ⟨dx, kt, tt, ft, tv, fv, h1, h2, h3, h4, h5, h6⟩ := h
  exact ⟨dx, kt, tt, ft, tv, fv, hx _ h1, ht _ _ h2, ht _ _ h3, h4.monoT (fun _ z => z) ht (ties_tup ts), ht _ _ h5, h6.monoT (fun _ z => z) ht (funs_tup fs)⟩
def nmD : PyData → Str
  | .tuple (.str n :: _) => n
  | _ => Str.empty
theorem nm_ties (ts : List TieR) : (ts.map tieT).map nmD = ts.map (·.nm) := by rw [List.map_map]; rfl
theorem nm_funs (ts : List FunR) : (ts.map funT).map nmD = ts.map (·.nm) := by rw [List.map_map]; rfl
theorem rows_nm {ts : List TieR} {fs : List FunR} {d : PyData} (h : d ∈ ts.map tieT ++ fs.map funT) : ∃ r, d = .tuple (.str (nmD d) :: r) := by
  rcases List.mem_append.mp h with h | h
  · obtain ⟨t, _, rfl⟩ := List.mem_map.mp h
    exact ⟨_, rfl⟩
  · obtain ⟨t, _, rfl⟩ := List.mem_map.mp h
    exact ⟨_, rfl⟩
theorem cat_of {K : PySem.W.Frag} {H : Hp} {a b : Addr} {xs ys : List V} {Q : VK} (ha : H a = some (.tup xs)) (hb : H b = some (.tup ys)) (hl : xs.length + ys.length ≤ sizeLine) (q : ∀ p H', H' p = some (.tup (xs ++ ys)) → Same H H' → Q (.ref p) H') : rCatTT K (.ref a) (.ref b) H Q := by
  refine ⟨a, b, xs, ys, rfl, rfl, SqT.of ha, SqT.of hb, hl, fun e => ?_, fun _ e => ?_, fun _ _ p hp => q p _ upd_same (same_new hp _)⟩
  · subst e; exact q b H hb (Same.refl _)
  · subst e; exact q a H (by rw [List.append_nil]; exact ha) (Same.refl _)
/-- what the walk asks of the class -/
structure ClS (K : PySem.W.Frag) (C : Addr) : Prop where
  cl : Cls K C
  nK : NoAttr K C "kept_kinds"
  nT : NoAttr K C "kept_ties"
  nF : NoAttr K C "kept_functions"
section
variable {P : Program} {w : World} {K : PySem.W.Frag} {mg : Str → Option Value} {base : Heap}
abbrev s_kinds : Stmt := inClass (top 13) 1
theorem sc_kinds : FnScope ["self"] ["self"] (defScope s_kinds) := ⟨rfl, rfl, rfl, by decide +kernel, rfl, by decide +kernel, by decide +kernel⟩
theorem lk_kinds_list : (defScope s_kinds).names.lookup (Str.ofString "list") = some NameKind.globalImplicit := by decide +kernel
theorem lk_kinds_self : (defScope s_kinds).names.lookup (Str.ofString "self") = some NameKind.local := by decide +kernel
def spTellK (C : Addr) : Sp := fun vs H Q _ => ∃ (x : Addr) (ks : List Str) (ts : List TieR) (fs : List FunR), vs = [.ref x] ∧ SignsAt C H x ks ts fs ∧ ∀ l, H l = none → Q (.ref l) (upd H l (.lst (ks.map V.str)))
theorem ok_tellK {f C : Addr} {fd : FuncData} (F : Fun K "kinds" "Signs.kinds" s_kinds f fd) (Z : Bl mg) (T : ClS K C) : FnOk P w K mg base CX0 1 f fd ["self"] (spTellK C) := by
  have SC := sc_kinds
  refine F.ok sc_kinds (fun vs H Q E h => ?_) (fun cdv A outer s H vs Q E hr h => ?_)
  · obtain ⟨x, ks, ts, fs, rfl, _⟩ := h
    rfl
  · obtain ⟨x, ks, ts, fs, rfl, ⟨dx, kt, tt, ft, tv, fv, h1, h2, h3, h4, h5, h6⟩, q⟩ := h
    refine' ⟨_, ?derivation, ?_⟩
    case derivation =>
      refine' pss_one ?h0
      case h0 =>
        refine' ps_ret ?h1
        case h1 =>
          refine' pe_callTy (hn := nn_FH_list) (hdb := nd_FH_list) ?h2 ?h3 ?h4 ?h5 ?h6 ?h7 ?h8
          case h2 => exact call_list_of
          case h3 => exact lk_kinds_list
          case h4 => exact Z.n_list
          case h5 => exact bt_list
          case h6 =>
            refine' pa_cons ?h9 ?h10 ?h11
            case h9 =>
              refine' pe_fld ?h12 ?h13
              case h12 => exact (pq 0 (x := Str.ofString "self") (visL lk_kinds_self) nd_FH_self nc_FH_self)
              case h13 => exact rfl
            case h10 => exact pa_nil
            case h11 => rfl
          case h7 => rfl
          case h8 => rfl
    exact ⟨_, rfl, x, C, dx, _, _, rfl, h1, T.cl, T.nK, flF_kinds _ _ _, kt, _, rfl, .inr (SqT.of h2), q⟩
abbrev s_ties : Stmt := inClass (top 13) 2
theorem sc_ties : FnScope ["self"] ["self"] (defScope s_ties) := ⟨rfl, rfl, rfl, by decide +kernel, rfl, by decide +kernel, by decide +kernel⟩
theorem lk_ties_list : (defScope s_ties).names.lookup (Str.ofString "list") = some NameKind.globalImplicit := by decide +kernel
theorem lk_ties_self : (defScope s_ties).names.lookup (Str.ofString "self") = some NameKind.local := by decide +kernel
def spTellT (C : Addr) : Sp := fun vs H Q _ => ∃ (x : Addr) (ks : List Str) (ts : List TieR) (fs : List FunR), vs = [.ref x] ∧ SignsAt C H x ks ts fs ∧ ∀ l tv, H l = none → RdA Any H tv (ts.map tieT) → Q (.ref l) (upd H l (.lst tv))
theorem ok_tellT {f C : Addr} {fd : FuncData} (F : Fun K "ties" "Signs.ties" s_ties f fd) (Z : Bl mg) (T : ClS K C) : FnOk P w K mg base CX0 1 f fd ["self"] (spTellT C) := by
  have SC := sc_ties
  refine F.ok sc_ties (fun vs H Q E h => ?_) (fun cdv A outer s H vs Q E hr h => ?_)
  · obtain ⟨x, ks, ts, fs, rfl, _⟩ := h
    rfl
  · obtain ⟨x, ks, ts, fs, rfl, ⟨dx, kt, tt, ft, tv, fv, h1, h2, h3, h4, h5, h6⟩, q⟩ := h
    refine' ⟨_, ?derivation, ?_⟩
    case derivation =>
      refine' pss_one ?h14
      case h14 =>
        refine' ps_ret ?h15
        case h15 =>
          refine' pe_callTy (hn := nn_FH_list) (hdb := nd_FH_list) ?h16 ?h17 ?h18 ?h19 ?h20 ?h21 ?h22
          case h16 => exact call_list_of
          case h17 => exact lk_ties_list
          case h18 => exact Z.n_list
          case h19 => exact bt_list
          case h20 =>
            refine' pa_cons ?h23 ?h24 ?h25
            case h23 =>
              refine' pe_fld ?h26 ?h27
              case h26 => exact (pq 0 (x := Str.ofString "self") (visL lk_ties_self) nd_FH_self nc_FH_self)
              case h27 => exact rfl
            case h24 => exact pa_nil
            case h25 => rfl
          case h21 => rfl
          case h22 => rfl
    exact ⟨_, rfl, x, C, dx, _, _, rfl, h1, T.cl, T.nT, flF_ties _ _ _, tt, _, rfl, .inr (SqT.of h3), fun l hl => q l tv hl h4⟩
abbrev s_functions : Stmt := inClass (top 13) 3
theorem sc_functions : FnScope ["self"] ["self"] (defScope s_functions) := ⟨rfl, rfl, rfl, by decide +kernel, rfl, by decide +kernel, by decide +kernel⟩
theorem lk_functions_list : (defScope s_functions).names.lookup (Str.ofString "list") = some NameKind.globalImplicit := by decide +kernel
theorem lk_functions_self : (defScope s_functions).names.lookup (Str.ofString "self") = some NameKind.local := by decide +kernel
def spTellF (C : Addr) : Sp := fun vs H Q _ => ∃ (x : Addr) (ks : List Str) (ts : List TieR) (fs : List FunR), vs = [.ref x] ∧ SignsAt C H x ks ts fs ∧ ∀ l fv, H l = none → RdA Any H fv (fs.map funT) → Q (.ref l) (upd H l (.lst fv))
theorem ok_tellF {f C : Addr} {fd : FuncData} (F : Fun K "functions" "Signs.functions" s_functions f fd) (Z : Bl mg) (T : ClS K C) : FnOk P w K mg base CX0 1 f fd ["self"] (spTellF C) := by
  have SC := sc_functions
  refine F.ok sc_functions (fun vs H Q E h => ?_) (fun cdv A outer s H vs Q E hr h => ?_)
  · obtain ⟨x, ks, ts, fs, rfl, _⟩ := h
    rfl
  · obtain ⟨x, ks, ts, fs, rfl, ⟨dx, kt, tt, ft, tv, fv, h1, h2, h3, h4, h5, h6⟩, q⟩ := h
    refine' ⟨_, ?derivation, ?_⟩
    case derivation =>
      refine' pss_one ?h28
      case h28 =>
        refine' ps_ret ?h29
        case h29 =>
          refine' pe_callTy (hn := nn_FH_list) (hdb := nd_FH_list) ?h30 ?h31 ?h32 ?h33 ?h34 ?h35 ?h36
          case h30 => exact call_list_of
          case h31 => exact lk_functions_list
          case h32 => exact Z.n_list
          case h33 => exact bt_list
          case h34 =>
            refine' pa_cons ?h37 ?h38 ?h39
            case h37 =>
              refine' pe_fld ?h40 ?h41
              case h40 => exact (pq 0 (x := Str.ofString "self") (visL lk_functions_self) nd_FH_self nc_FH_self)
              case h41 => exact rfl
            case h38 => exact pa_nil
            case h39 => rfl
          case h35 => rfl
          case h36 => rfl
    exact ⟨_, rfl, x, C, dx, _, _, rfl, h1, T.cl, T.nF, flF_funs _ _ _, ft, _, rfl, .inr (SqT.of h5), fun l hl => q l fv hl h6⟩
abbrev s__init__ : Stmt := inClass (top 13) 0
theorem sc__init__ : FnScope ["self", "kinds", "ties", "functions"] ["self", "kinds", "ties", "functions"] (defScope s__init__) := ⟨rfl, rfl, rfl, by decide +kernel, rfl, by decide +kernel, by decide +kernel⟩
theorem lk__init___MOST_SIGNS : (defScope s__init__).names.lookup (Str.ofString "MOST_SIGNS") = some NameKind.globalImplicit := by decide +kernel
theorem lk__init___check_apart : (defScope s__init__).names.lookup (Str.ofString "check_apart") = some NameKind.globalImplicit := by decide +kernel
theorem lk__init___checked_kinds : (defScope s__init__).names.lookup (Str.ofString "checked_kinds") = some NameKind.globalImplicit := by decide +kernel
theorem lk__init___functions : (defScope s__init__).names.lookup (Str.ofString "functions") = some NameKind.local := by decide +kernel
theorem lk__init___is_list : (defScope s__init__).names.lookup (Str.ofString "is_list") = some NameKind.globalImplicit := by decide +kernel
theorem lk__init___kinds : (defScope s__init__).names.lookup (Str.ofString "kinds") = some NameKind.local := by decide +kernel
theorem lk__init___len : (defScope s__init__).names.lookup (Str.ofString "len") = some NameKind.globalImplicit := by decide +kernel
theorem lk__init___self : (defScope s__init__).names.lookup (Str.ofString "self") = some NameKind.cell := by decide +kernel
theorem lk__init___ties : (defScope s__init__).names.lookup (Str.ofString "ties") = some NameKind.local := by decide +kernel
theorem lk__init___tuple : (defScope s__init__).names.lookup (Str.ofString "tuple") = some NameKind.globalImplicit := by decide +kernel
theorem sp__init___1 : CompSc 1 ["sign", "self", "kinds", "ties", "functions"] ["self", "kinds", "ties", "functions"] (defScope s__init__) { kind := PySem.ScopeKind.function, names := [(PySem.Str.ofString ".0", PySem.NameKind.local), (PySem.Str.ofString "sign", PySem.NameKind.local)], isGenerator := false, isCoroutine := false, more := [] : PySem.Scope } := ⟨rfl, by decide +kernel, by decide +kernel, by decide +kernel, by decide +kernel, rfl, by decide +kernel⟩
theorem lk__init___c1_sign : ({ kind := PySem.ScopeKind.function, names := [(PySem.Str.ofString ".0", PySem.NameKind.local), (PySem.Str.ofString "sign", PySem.NameKind.local)], isGenerator := false, isCoroutine := false, more := [] : PySem.Scope } : Scope).names.lookup (Str.ofString "sign") = some NameKind.local := by decide +kernel
theorem sp__init___2 : CompSc 1 ["function", "self", "kinds", "ties", "functions"] ["self", "kinds", "ties", "functions"] (defScope s__init__) { kind := PySem.ScopeKind.function, names := [ (PySem.Str.ofString ".0", PySem.NameKind.local), (PySem.Str.ofString "function", PySem.NameKind.local), (PySem.Str.ofString "checked_function", PySem.NameKind.globalImplicit), (PySem.Str.ofString "self", PySem.NameKind.free)], isGenerator := false, isCoroutine := false, more := [] : PySem.Scope } := ⟨rfl, by decide +kernel, by decide +kernel, by decide +kernel, by decide +kernel, rfl, by decide +kernel⟩
theorem lk__init___c2_checked_function : ({ kind := PySem.ScopeKind.function, names := [ (PySem.Str.ofString ".0", PySem.NameKind.local), (PySem.Str.ofString "function", PySem.NameKind.local), (PySem.Str.ofString "checked_function", PySem.NameKind.globalImplicit), (PySem.Str.ofString "self", PySem.NameKind.free)], isGenerator := false, isCoroutine := false, more := [] : PySem.Scope } : Scope).names.lookup (Str.ofString "checked_function") = some NameKind.globalImplicit := by decide +kernel
theorem lk__init___c2_function : ({ kind := PySem.ScopeKind.function, names := [ (PySem.Str.ofString ".0", PySem.NameKind.local), (PySem.Str.ofString "function", PySem.NameKind.local), (PySem.Str.ofString "checked_function", PySem.NameKind.globalImplicit), (PySem.Str.ofString "self", PySem.NameKind.free)], isGenerator := false, isCoroutine := false, more := [] : PySem.Scope } : Scope).names.lookup (Str.ofString "function") = some NameKind.local := by decide +kernel
theorem lk__init___c2_self : ({ kind := PySem.ScopeKind.function, names := [ (PySem.Str.ofString ".0", PySem.NameKind.local), (PySem.Str.ofString "function", PySem.NameKind.local), (PySem.Str.ofString "checked_function", PySem.NameKind.globalImplicit), (PySem.Str.ofString "self", PySem.NameKind.free)], isGenerator := false, isCoroutine := false, more := [] : PySem.Scope } : Scope).names.lookup (Str.ofString "self") = some NameKind.free := by decide +kernel
theorem sp__init___3 : CompSc 1 ["tie", "self", "kinds", "ties", "functions"] ["self", "kinds", "ties", "functions"] (defScope s__init__) { kind := PySem.ScopeKind.function, names := [ (PySem.Str.ofString ".0", PySem.NameKind.local), (PySem.Str.ofString "tie", PySem.NameKind.local), (PySem.Str.ofString "checked_tie", PySem.NameKind.globalImplicit), (PySem.Str.ofString "self", PySem.NameKind.free)], isGenerator := false, isCoroutine := false, more := [] : PySem.Scope } := ⟨rfl, by decide +kernel, by decide +kernel, by decide +kernel, by decide +kernel, rfl, by decide +kernel⟩
theorem lk__init___c3_checked_tie : ({ kind := PySem.ScopeKind.function, names := [ (PySem.Str.ofString ".0", PySem.NameKind.local), (PySem.Str.ofString "tie", PySem.NameKind.local), (PySem.Str.ofString "checked_tie", PySem.NameKind.globalImplicit), (PySem.Str.ofString "self", PySem.NameKind.free)], isGenerator := false, isCoroutine := false, more := [] : PySem.Scope } : Scope).names.lookup (Str.ofString "checked_tie") = some NameKind.globalImplicit := by decide +kernel
theorem lk__init___c3_self : ({ kind := PySem.ScopeKind.function, names := [ (PySem.Str.ofString ".0", PySem.NameKind.local), (PySem.Str.ofString "tie", PySem.NameKind.local), (PySem.Str.ofString "checked_tie", PySem.NameKind.globalImplicit), (PySem.Str.ofString "self", PySem.NameKind.free)], isGenerator := false, isCoroutine := false, more := [] : PySem.Scope } : Scope).names.lookup (Str.ofString "self") = some NameKind.free := by decide +kernel
theorem lk__init___c3_tie : ({ kind := PySem.ScopeKind.function, names := [ (PySem.Str.ofString ".0", PySem.NameKind.local), (PySem.Str.ofString "tie", PySem.NameKind.local), (PySem.Str.ofString "checked_tie", PySem.NameKind.globalImplicit), (PySem.Str.ofString "self", PySem.NameKind.free)], isGenerator := false, isCoroutine := false, more := [] : PySem.Scope } : Scope).names.lookup (Str.ofString "tie") = some NameKind.local := by decide +kernel
def spInit (C : Addr) : Sp := fun vs H Q _ => ∃ (x dx a b c : Addr) (ab cd : List (Addr × Addr)) (ks : List Str) (ts : List TieR) (fs : List FunR), vs = [.ref x, .ref a, .ref b, .ref c] ∧ H x = some (.ins C dx []) ∧ LT H a (ks.map V.str) ∧
  LT H b (ab.map fun q => V.ref q.1) ∧ Sgs H ab (ts.map tieRow) ∧ LT H c (cd.map fun q => V.ref q.1) ∧ Sgs H cd (fs.map funRow) ∧ BookOk ks ts fs ∧ ∀ H', SignsAt C H' x ks ts fs → SameX x H H' → Q .non H'
theorem LT.neIns {H : Hp} {a x C dx : Addr} {xs : List V} {fl : List (Str × V)} (h : LT H a xs) (hx : H x = Option.some (.ins C dx fl)) : a ≠ x := by
  rintro rfl
  rcases h with h | h <;> (rw [h] at hx; cases hx)
theorem ok_init {f C : Addr} {fd : FuncData} (F : Fun K "__init__" "Signs.__init__" s__init__ f fd) (Z : Bl mg) (G : Gs K mg) (T : ClS K C) (D_is_list : Def P w K mg base "is_list" 1 ["thing"] spIsList) (D_checked_kinds : Def P w K mg base "checked_kinds" 2 ["kinds"] spKinds)
    (D_checked_tie : Def P w K mg base "checked_tie" 4 ["kinds", "tie"] spTie) (D_checked_function : Def P w K mg base "checked_function" 4 ["kinds", "function"] spFunc) (D_check_apart : Def P w K mg base "check_apart" 1 ["names"] spApart) :
    FnOk P w K mg base CX0 5 f fd ["self", "kinds", "ties", "functions"] (spInit C) := by
  have SC := sc__init__
  obtain ⟨_, g_MOST_SIGNS, r_MOST_SIGNS⟩ := G.msigns
  refine F.ok sc__init__ (fun vs H Q E h => ?_) (fun cdv A outer s H vs Q E hr h => ?_)
  · obtain ⟨x, dx, a, b, c, ab, cd, ks, ts, fs, rfl, _⟩ := h
    rfl
  · obtain ⟨x, dx, a, b, c, ab, cd, ks, ts, fs, rfl, hx, hA, hB, sB, hC, sC, ok, q⟩ := h
    have nbx : b ≠ x := hB.neIns hx
    have ncx : c ≠ x := hC.neIns hx
    have abl : ab.length = ts.length := by rw [sB.length, List.length_map]
    have cdl : cd.length = fs.length := by rw [sC.length, List.length_map]
    have sl := ok.sl
    have sgx : ∀ {H' : Hp} {q : Addr × Addr} {r : RowR}, SameX x H H' → SgAt H q r → SgAt H' q r := fun s g => ⟨g.row.mono fun o e => s _ _ (g.row.neIns hx) e, g.plc.mono fun o e => s _ _ (g.plc.neIns hx) e⟩
    refine' ⟨_, ?derivation, ?_⟩
    case derivation =>
      refine' pss_cons ?h42 ?h43
      case h42 =>
        refine' ps_fld ?h44 ?h45 ?h46
        case h44 => exact (pq 0 (x := Str.ofString "self") (visC lk__init___self) nd_FH_self nc_FH_self)
        case h45 =>
          refine' pe_def (hdb := nd_FH_checked_kinds) ?h47 ?h48 ?h49 ?h50 ?h51 ?h52
          case h47 => exact D_checked_kinds
          case h48 => exact (hr.mono (by decide))
          case h49 => exact lk__init___checked_kinds
          case h50 =>
            refine' pa_cons ?h53 ?h54 ?h55
            case h53 => exact (pq 1 (x := Str.ofString "kinds") (visL lk__init___kinds) nd_FH_kinds nc_FH_kinds)
            case h54 => exact pa_nil
            case h55 => rfl
          case h51 => rfl
          case h52 => rfl
        case h46 => exact rfl
      case h43 =>
        refine' pss_cons ?h56 ?h57
        case h56 =>
          refine' ps_if ?h58 ?h59 ?h60
          case h58 =>
            refine' PW.pt ?h61
            case h61 =>
              refine' pw_or ?h62 ?h63
              case h62 =>
                refine' pt_not ?h64
                case h64 =>
                  refine' pt_val ?h65 ?h66
                  case h65 =>
                    refine' pe_def (hdb := nd_FH_is_list) ?h67 ?h68 ?h69 ?h70 ?h71 ?h72
                    case h67 => exact D_is_list
                    case h68 => exact (hr.mono (by decide))
                    case h69 => exact lk__init___is_list
                    case h70 =>
                      refine' pa_cons ?h73 ?h74 ?h75
                      case h73 => exact (pq 2 (x := Str.ofString "ties") (visL lk__init___ties) nd_FH_ties nc_FH_ties)
                      case h74 => exact pa_nil
                      case h75 => rfl
                    case h71 => rfl
                    case h72 => rfl
                  case h66 => intro _; rfl
              case h63 =>
                refine' pw_or1 ?h76
                case h76 =>
                  refine' pt_not ?h77
                  case h77 =>
                    refine' pt_val ?h78 ?h79
                    case h78 =>
                      refine' pe_def (hdb := nd_FH_is_list) ?h80 ?h81 ?h82 ?h83 ?h84 ?h85
                      case h80 => exact D_is_list
                      case h81 => exact (hr.mono (by decide))
                      case h82 => exact lk__init___is_list
                      case h83 =>
                        refine' pa_cons ?h86 ?h87 ?h88
                        case h86 => exact (pq 3 (x := Str.ofString "functions") (visL lk__init___functions) nd_FH_functions nc_FH_functions)
                        case h87 => exact pa_nil
                        case h88 => rfl
                      case h84 => rfl
                      case h85 => rfl
                    case h79 => intro _; rfl
          case h59 =>
            refine' pss_one ?h89
            case h89 => exact ps_never
          case h60 => exact pss_nil
        case h57 =>
          refine' pss_cons ?h90 ?h91
          case h90 =>
            refine' ps_if ?h92 ?h93 ?h94
            case h92 =>
              refine' pt_cmpR ?h95 ?h96 ?h97 ?h98
              case h95 => exact op_gt
              case h96 =>
                refine' pe_op ?h99 ?h100 ?h101
                case h99 => exact op_add
                case h100 =>
                  refine' pe_callB (hn := nn_FH_len) (hdb := nd_FH_len) ?h102 ?h103 ?h104 ?h105 ?h106 ?h107 ?h108
                  case h102 => exact call_len_seq
                  case h103 => exact lk__init___len
                  case h104 => exact Z.n_len
                  case h105 => exact bt_len
                  case h106 =>
                    refine' pa_cons ?h109 ?h110 ?h111
                    case h109 => exact (pq 2 (x := Str.ofString "ties") (visL lk__init___ties) nd_FH_ties nc_FH_ties)
                    case h110 => exact pa_nil
                    case h111 => rfl
                  case h107 => rfl
                  case h108 => rfl
                case h101 =>
                  refine' pe_callB (hn := nn_FH_len) (hdb := nd_FH_len) ?h112 ?h113 ?h114 ?h115 ?h116 ?h117 ?h118
                  case h112 => exact call_len_seq
                  case h113 => exact lk__init___len
                  case h114 => exact Z.n_len
                  case h115 => exact bt_len
                  case h116 =>
                    refine' pa_cons ?h119 ?h120 ?h121
                    case h119 => exact (pq 3 (x := Str.ofString "functions") (visL lk__init___functions) nd_FH_functions nc_FH_functions)
                    case h120 => exact pa_nil
                    case h121 => rfl
                  case h117 => rfl
                  case h118 => rfl
              case h97 =>
                refine' pe_glob (hd := nd_FH_MOST_SIGNS) ?h122 ?h123 ?h124
                case h122 => exact lk__init___MOST_SIGNS
                case h123 => exact g_MOST_SIGNS
                case h124 => exact r_MOST_SIGNS
              case h98 => exact (nomark _)
            case h93 =>
              refine' pss_one ?h125
              case h125 => exact ps_never
            case h94 => exact pss_nil
          case h91 =>
            refine' pss_cons ?h126 ?h127
            case h126 =>
              refine' ps_fld ?h128 ?h129 ?h130
              case h128 => exact (pq 0 (x := Str.ofString "self") (visC lk__init___self) nd_FH_self nc_FH_self)
              case h129 =>
                refine' pe_callTy (hn := nn_FH_tuple) (hdb := nd_FH_tuple) ?h131 ?h132 ?h133 ?h134 ?h135 ?h136 ?h137
                case h131 => exact call_tuple_of
                case h132 => exact lk__init___tuple
                case h133 => exact Z.n_tuple
                case h134 => exact bt_tuple
                case h135 =>
                  refine' pa_cons ?h138 ?h139 ?h140
                  case h138 =>
                    refine' pe_comp ?h141 ?h142 ?h143 ?h144 ?h145 ?h146 ?h147
                    case h141 => exact noxe
                    case h142 => exact rfl
                    case h143 => exact sp__init___3.at
                    case h144 =>
                      refine' pi_seq ?h148
                      case h148 => exact (pq 2 (x := Str.ofString "ties") (visL lk__init___ties) nd_FH_ties nc_FH_ties)
                    case h145 =>
                      intro _ _ _ _ _
                      refine' pg_name (i := 0) ?h149 ?h150 ?h151 ?h152
                      case h149 => exact sp__init___3.nd
                      case h150 => exact rfl
                      case h151 => exact (locO lk__init___c3_tie)
                      case h152 => exact (.inr (lookup_relabel_local lk__init___c3_tie))
                    case h146 =>
                      intro _ _ _ _ _
                      refine' pe_def (hdb := nd_FH_checked_tie) ?h153 ?h154 ?h155 ?h156 ?h157 ?h158
                      case h153 => exact D_checked_tie
                      case h154 => exact (hr.mono (by decide))
                      case h155 => exact (glO lk__init___c3_checked_tie)
                      case h156 =>
                        refine' pa_cons ?h159 ?h160 ?h161
                        case h159 =>
                          refine' pe_fld ?h162 ?h163
                          case h162 => exact (pq 1 (x := Str.ofString "self") (visF lk__init___c3_self) nd_FH_self nc_FH_self)
                          case h163 => exact rfl
                        case h160 =>
                          refine' pa_cons ?h164 ?h165 ?h166
                          case h164 => exact (pq 0 (x := Str.ofString "tie") (visO lk__init___c3_tie) nd_FH_tie nc_FH_tie)
                          case h165 => exact pa_nil
                          case h166 => rfl
                        case h161 => rfl
                      case h157 => rfl
                      case h158 => rfl
                    case h147 => intro _; rfl
                  case h139 => exact pa_nil
                  case h140 => rfl
                case h136 => rfl
                case h137 => rfl
              case h130 => exact rfl
            case h127 =>
              refine' pss_cons ?h167 ?h168
              case h167 =>
                refine' ps_fld ?h169 ?h170 ?h171
                case h169 => exact (pq 0 (x := Str.ofString "self") (visC lk__init___self) nd_FH_self nc_FH_self)
                case h170 =>
                  refine' pe_callTy (hn := nn_FH_tuple) (hdb := nd_FH_tuple) ?h172 ?h173 ?h174 ?h175 ?h176 ?h177 ?h178
                  case h172 => exact call_tuple_of
                  case h173 => exact lk__init___tuple
                  case h174 => exact Z.n_tuple
                  case h175 => exact bt_tuple
                  case h176 =>
                    refine' pa_cons ?h179 ?h180 ?h181
                    case h179 =>
                      refine' pe_comp ?h182 ?h183 ?h184 ?h185 ?h186 ?h187 ?h188
                      case h182 => exact noxe
                      case h183 => exact rfl
                      case h184 => exact sp__init___2.at
                      case h185 =>
                        refine' pi_seq ?h189
                        case h189 => exact (pq 3 (x := Str.ofString "functions") (visL lk__init___functions) nd_FH_functions nc_FH_functions)
                      case h186 =>
                        intro _ _ _ _ _
                        refine' pg_name (i := 0) ?h190 ?h191 ?h192 ?h193
                        case h190 => exact sp__init___2.nd
                        case h191 => exact rfl
                        case h192 => exact (locO lk__init___c2_function)
                        case h193 => exact (.inr (lookup_relabel_local lk__init___c2_function))
                      case h187 =>
                        intro _ _ _ _ _
                        refine' pe_def (hdb := nd_FH_checked_function) ?h194 ?h195 ?h196 ?h197 ?h198 ?h199
                        case h194 => exact D_checked_function
                        case h195 => exact (hr.mono (by decide))
                        case h196 => exact (glO lk__init___c2_checked_function)
                        case h197 =>
                          refine' pa_cons ?h200 ?h201 ?h202
                          case h200 =>
                            refine' pe_fld ?h203 ?h204
                            case h203 => exact (pq 1 (x := Str.ofString "self") (visF lk__init___c2_self) nd_FH_self nc_FH_self)
                            case h204 => exact rfl
                          case h201 =>
                            refine' pa_cons ?h205 ?h206 ?h207
                            case h205 => exact (pq 0 (x := Str.ofString "function") (visO lk__init___c2_function) nd_FH_function nc_FH_function)
                            case h206 => exact pa_nil
                            case h207 => rfl
                          case h202 => rfl
                        case h198 => rfl
                        case h199 => rfl
                      case h188 => intro _; rfl
                    case h180 => exact pa_nil
                    case h181 => rfl
                  case h177 => rfl
                  case h178 => rfl
                case h171 => exact rfl
              case h168 =>
                refine' pss_one ?h208
                case h208 =>
                  refine' ps_expr ?h209 ?h210
                  case h209 =>
                    refine' pe_def (hdb := nd_FH_check_apart) ?h211 ?h212 ?h213 ?h214 ?h215 ?h216
                    case h211 => exact D_check_apart
                    case h212 => exact (hr.mono (by decide))
                    case h213 => exact lk__init___check_apart
                    case h214 =>
                      refine' pa_cons ?h217 ?h218 ?h219
                      case h217 =>
                        refine' pe_comp ?h220 ?h221 ?h222 ?h223 ?h224 ?h225 ?h226
                        case h220 => exact noxe
                        case h221 => exact rfl
                        case h222 => exact sp__init___1.at
                        case h223 =>
                          refine' pi_tup ?h227
                          case h227 =>
                            refine' pe_op ?h228 ?h229 ?h230
                            case h228 => exact op_catTT
                            case h229 =>
                              refine' pe_fld ?h231 ?h232
                              case h231 => exact (pq 0 (x := Str.ofString "self") (visC lk__init___self) nd_FH_self nc_FH_self)
                              case h232 => exact rfl
                            case h230 =>
                              refine' pe_fld ?h233 ?h234
                              case h233 => exact (pq 0 (x := Str.ofString "self") (visC lk__init___self) nd_FH_self nc_FH_self)
                              case h234 => exact rfl
                        case h224 =>
                          intro _ _ _ _ _
                          refine' pg_name (i := 0) ?h235 ?h236 ?h237 ?h238
                          case h235 => exact sp__init___1.nd
                          case h236 => exact rfl
                          case h237 => exact (locO lk__init___c1_sign)
                          case h238 => exact (.inr (lookup_relabel_local lk__init___c1_sign))
                        case h225 =>
                          intro _ _ _ _ _
                          refine' pe_ix ?h239 ?h240 ?h241 ?h242
                          case h239 => exact ix_tup
                          case h240 => exact (pq 0 (x := Str.ofString "sign") (visO lk__init___c1_sign) nd_FH_sign nc_FH_sign)
                          case h241 => exact pe_int
                          case h242 =>
                            intro _ _
                            exact rfl
                        case h226 => intro _; rfl
                      case h218 => exact pa_nil
                      case h219 => rfl
                    case h215 => rfl
                    case h216 => rfl
                  case h210 => rfl
    refine ⟨_, rfl, a, ks, rfl, hA, ⟨ok.kn, ok.k1, ok.k4, ok.kn2⟩, fun kt H1 hkt s1 => ?_⟩
    refine ⟨_, rfl, x, C, dx, _, rfl, s1 _ _ hx, T.cl, T.nK, by decide, ?_⟩
    have nkx : kt ≠ x := by rintro rfl; rw [s1 _ _ hx] at hkt; cases hkt
    generalize hG2 : upd H1 x (.ins C dx (putF "kept_kinds" (.ref kt) [])) = H2
    have x2 : H2 x = some (.ins C dx (flK kt)) := by rw [← hG2]; exact upd_same
    have k2 : H2 kt = some (.tup (ks.map V.str)) := by rw [← hG2, upd_ne nkx]; exact hkt
    have S2 : SameX x H H2 := by rw [← hG2]; exact s1.x.trans (SameX.upd x H1 _)
    refine ⟨_, rfl, b, _, rfl, hB.mono fun o e => S2 _ _ nbx e, fun H3 s3 => ⟨true, rfl, iteF ?_⟩⟩
    have S3 := S2.same s3
    refine ⟨_, rfl, c, _, rfl, hC.mono fun o e => S3 _ _ ncx e, fun H4 s4 => ⟨true, rfl, iteF ?_⟩⟩
    have S4 := S3.same s4
    refine ⟨_, rfl, b, _, rfl, (hB.mono fun o e => S4 _ _ nbx e).sq, _, rfl, c, _, rfl, (hC.mono fun o e => S4 _ _ ncx e).sq, _, _, rfl, rfl, _, _, rfl, rfl, _, rfl, ifF (by rw [List.length_map, List.length_map]; simp; omega) ?_⟩
    have s24 : Same H2 H4 := s3.trans s4
    -- the ties
    refine (hB.mono fun o e => S4 _ _ nbx e).over rfl fun J O => ?_
    intro cl C1 ex s0 H0
    refine O.comp (fun i ys H5 => RdA Any H5 ys ((ts.take i).map tieT) ∧ Same H4 H5) ⟨.nil, Same.refl _⟩ (by rw [List.length_map]; exact Nat.le_trans (show ab.length ≤ 8 by omega) (by decide)) (fun i ys H5 _ ⟨_, z⟩ o e => z b o e) ?_ ?_
    · rintro i y ys H5 hi hy ⟨r5, s5⟩
      rw [List.getElem?_map] at hi
      obtain ⟨qq, hq, rfl⟩ := Option.map_eq_some_iff.mp hi
      obtain ⟨r, hr', sg⟩ := sB.get hq
      rw [List.getElem?_map] at hr'
      obtain ⟨t, ht, rfl⟩ := Option.map_eq_some_iff.mp hr'
      have s25 := s24.trans s5
      have sg5 := sgx (S4.same s5) sg
      refine ⟨_, rfl, x, C, dx, _, _, rfl, s25 _ _ x2, T.cl, T.nK, flK_kinds _, _, rfl, kt, qq.1, qq.2, ks, t.ps, t.nm, rfl, .inr (s25 _ _ k2), ok.kn2, sg5.row, sg5.plc, ok.tn t (List.mem_of_getElem? ht), fun tt u H6 h6 h7 s6 => ⟨?_, s5.trans s6⟩⟩
      rw [List.take_succ, ht]
      show RdA Any H6 (ys ++ [.ref tt]) (List.map tieT (ts.take i ++ [t]))
      rw [List.map_append]
      exact (r5.same s6).snoc (.tup trivial h6 (.cons (.str _) (.cons (.tup trivial h7 (RdA.strs _)) .nil)))
    rintro tv H5 hy ⟨r5, s5⟩ D1 hD1
    rw [List.length_map, abl, List.take_length] at r5
    refine ⟨D1, tv, rfl, .inl ⟨SqL.of upd_same, fun tt htt => ?_⟩⟩
    have s6 := (same_new hD1 (.lst tv)).trans (same_new htt (.tup tv))
    have s26 := (s24.trans s5).trans s6
    refine ⟨_, rfl, x, C, dx, _, rfl, s26 _ _ x2, T.cl, T.nT, flK_len _, ?_⟩
    have tt6 : (upd (upd H5 D1 (.lst tv)) tt (.tup tv)) tt = some (.tup tv) := upd_same
    generalize (upd (upd H5 D1 (.lst tv)) tt (.tup tv)) = G6 at s6 s26 tt6
    have ntx : tt ≠ x := by rintro rfl; rw [s26 _ _ x2] at tt6; cases tt6
    generalize hG7 : upd G6 x (.ins C dx (putF "kept_ties" (.ref tt) (flK kt))) = H7
    have x7 : H7 x = some (.ins C dx (flT kt tt)) := by rw [← hG7]; exact upd_same
    have S67 : SameX x G6 H7 := by rw [← hG7]; exact SameX.upd x G6 _
    have t7 : H7 tt = some (.tup tv) := S67 _ _ ntx tt6
    have k7 : H7 kt = some (.tup (ks.map V.str)) := S67 _ _ nkx (s26 _ _ k2)
    have S7 : SameX x H H7 := (S2.same s26).trans S67
    have T67 : Tups G6 H7 := fun p xs e => S67 p _ (fun z => by rw [z, s26 _ _ x2] at e; cases e) e
    have r7 : RdA Any H7 tv (ts.map tieT) := (r5.same s6).monoT (fun _ z => z) T67 (ties_tup ts)
    -- the functions
    refine (hC.mono fun o e => S7 _ _ ncx e).over rfl fun J O => ?_
    intro cl C1 ex s0 H0
    refine O.comp (fun i ys H8 => RdA Any H8 ys ((fs.take i).map funT) ∧ Same H7 H8) ⟨.nil, Same.refl _⟩ (by rw [List.length_map]; exact Nat.le_trans (show cd.length ≤ 8 by omega) (by decide)) (fun i ys H8 _ ⟨_, z⟩ o e => z c o e) ?_ ?_
    · rintro i y ys H8 hi hy ⟨r8, s8⟩
      rw [List.getElem?_map] at hi
      obtain ⟨qq, hq, rfl⟩ := Option.map_eq_some_iff.mp hi
      obtain ⟨r, hr', sg⟩ := sC.get hq
      rw [List.getElem?_map] at hr'
      obtain ⟨t, ht, rfl⟩ := Option.map_eq_some_iff.mp hr'
      have sg8 := sgx (S7.same s8) sg
      obtain ⟨o1, o2, o3, o4⟩ := ok.fn t (List.mem_of_getElem? ht)
      refine ⟨_, rfl, x, C, dx, _, _, rfl, s8 _ _ x7, T.cl, T.nK, flT_kinds _ _, _, rfl, kt, qq.1, qq.2, ks, t.ps, t.nm, t.kd, rfl, .inr (s8 _ _ k7), ok.kn2, sg8.row, sg8.plc, ⟨o1, o2, o3⟩, o4, fun tt u H9 h6 h7 s9 => ⟨?_, s8.trans s9⟩⟩
      rw [List.take_succ, ht]
      show RdA Any H9 (ys ++ [.ref tt]) (List.map funT (fs.take i ++ [t]))
      rw [List.map_append]
      exact (r8.same s9).snoc (.tup trivial h6 (.cons (.str _) (.cons (.tup trivial h7 (RdA.strs _)) (.cons (.str _) .nil))))
    rintro fv H8 hy2 ⟨r8, s8⟩ D2 hD2
    rw [List.length_map, cdl, List.take_length] at r8
    refine ⟨D2, fv, rfl, .inl ⟨SqL.of upd_same, fun ft hft => ?_⟩⟩
    have s9 := s8.trans ((same_new hD2 (.lst fv)).trans (same_new hft (.tup fv)))
    have r9 := r8.same ((same_new hD2 (.lst fv)).trans (same_new hft (.tup fv)))
    refine ⟨_, rfl, x, C, dx, _, rfl, s9 _ _ x7, T.cl, T.nF, flT_len _ _, ?_⟩
    have ft9 : (upd (upd H8 D2 (.lst fv)) ft (.tup fv)) ft = some (.tup fv) := upd_same
    generalize (upd (upd H8 D2 (.lst fv)) ft (.tup fv)) = G9 at s9 r9 ft9
    have nfx : ft ≠ x := by rintro rfl; rw [s9 _ _ x7] at ft9; cases ft9
    generalize hG10 : upd G9 x (.ins C dx (putF "kept_functions" (.ref ft) (flT kt tt))) = HA
    have xA : HA x = some (.ins C dx (flF kt tt ft)) := by rw [← hG10]; exact upd_same
    have S9A : SameX x G9 HA := by rw [← hG10]; exact SameX.upd x G9 _
    have T9A : Tups G9 HA := fun p xs e => S9A p _ (fun z => by rw [z, s9 _ _ x7] at e; cases e) e
    have tA : HA tt = some (.tup tv) := S9A _ _ ntx (s9 _ _ t7)
    have fA : HA ft = some (.tup fv) := S9A _ _ nfx ft9
    have kA : HA kt = some (.tup (ks.map V.str)) := S9A _ _ nkx (s9 _ _ k7)
    have rtA : RdA Any HA tv (ts.map tieT) := (r7.same s9).monoT (fun _ z => z) T9A (ties_tup ts)
    have rfA : RdA Any HA fv (fs.map funT) := r9.monoT (fun _ z => z) T9A (funs_tup fs)
    have SA : SameX x H HA := (S7.same s9).trans S9A
    have tvl : tv.length = ts.length := by rw [rtA.length, List.length_map]
    have fvl : fv.length = fs.length := by rw [rfA.length, List.length_map]
    have small : tv.length + fv.length ≤ sizeLine := Nat.le_trans (show tv.length + fv.length ≤ 8 by omega) (by decide)
    -- the names
    refine ⟨_, rfl, x, C, dx, _, _, rfl, xA, T.cl, T.nT, flF_ties _ _ _, _, rfl, x, C, dx, _, _, rfl, xA, T.cl, T.nF, flF_funs _ _ _, ?_⟩
    refine cat_of tA fA small fun p HB hp sB' => ?_
    refine ⟨p, rfl, ⟨_, SqT.of hp⟩, ?_⟩
    have rB : RdA Any HB (tv ++ fv) (ts.map tieT ++ fs.map funT) := (rtA.append rfA).same sB'
    intro cl C1 ex s0 H0
    refine comp_it1 (tv ++ fv).length (fun i ys HC => ys = (((ts.map tieT ++ fs.map funT).map nmD).take i).map V.str ∧ Same HB HC) (fun i y => (tv ++ fv)[i]? = some y) ⟨rfl, Same.refl _⟩ (by rw [List.length_append]; exact small) (fun i ys HC hi _ ⟨_, z⟩ => go_tup (SqT.of (z _ _ hp)) hi) (fun ys HC _ ⟨_, z⟩ => stop_tup (SqT.of (z _ _ hp))) ?_ ?_
    · rintro i y ys HC hi hy _ ⟨rfl, sC'⟩
      obtain ⟨d, hd, rd⟩ := rB.getV hy
      obtain ⟨rr, e⟩ := rows_nm (List.mem_of_getElem? hd)
      rw [e] at rd
      obtain ⟨py, px, rfl, _, hpy, hpx⟩ := rd.tuple_inv
      cases hpx with | cons a1 t1 =>
      obtain rfl := a1.str_inv
      refine ⟨_, rfl, py, _, _, _, rfl, rfl, SqT.of (sC' _ _ hpy), atI_int (x := V.str (nmD d)) (by decide) rfl, ?_, sC'⟩
      rw [List.take_succ, List.getElem?_map, hd]
      exact (List.map_append (l₂ := [nmD d])).symm
    rintro ys HC hyl ⟨rfl, sC'⟩ D3 hD3
    have el : (((ts.map tieT ++ fs.map funT).map nmD).take (tv ++ fv).length) = ts.map (·.nm) ++ fs.map (·.nm) := by
      rw [List.map_append, nm_ties, nm_funs, List.take_of_length_le]
      simp [tvl, fvl]
    rw [el]
    refine ⟨D3, _, rfl, .inl upd_same, ok.sn, by simp; omega, fun HD sD => ?_⟩
    have sAD : Same HA HD := (sB'.trans sC').trans ((same_new hD3 _).trans sD)
    refine q HD ⟨dx, kt, tt, ft, tv, fv, sAD _ _ xA, sAD _ _ kA, sAD _ _ tA, rtA.same sAD, sAD _ _ fA, rfA.same sAD⟩ (SA.same sAD)
end
end Few

set_option Elab.async false
set_option linter.all false
set_option maxRecDepth 100000
set_option maxHeartbeats 1000000
namespace Few
open PySem L2
theorem nd_FI__law_due_here : ((Str.ofString "_law_due_here" : Str) == ("__debug__" : Str)) = false := by decide +kernel
theorem nc_FI__law_due_here : ((Str.ofString "_law_due_here" : Str) == ("__classdict__" : Str)) = false := by decide +kernel
theorem nn_FI__law_due_here : (Str.ofString "_law_due_here" : Str) ≠ "__name__" := by decide +kernel
theorem nd_FI__law_row : ((Str.ofString "_law_row" : Str) == ("__debug__" : Str)) = false := by decide +kernel
theorem nc_FI__law_row : ((Str.ofString "_law_row" : Str) == ("__classdict__" : Str)) = false := by decide +kernel
theorem nn_FI__law_row : (Str.ofString "_law_row" : Str) ≠ "__name__" := by decide +kernel
theorem nd_FI__law_signs : ((Str.ofString "_law_signs" : Str) == ("__debug__" : Str)) = false := by decide +kernel
theorem nc_FI__law_signs : ((Str.ofString "_law_signs" : Str) == ("__classdict__" : Str)) = false := by decide +kernel
theorem nn_FI__law_signs : (Str.ofString "_law_signs" : Str) ≠ "__name__" := by decide +kernel
theorem nd_FI__law_told : ((Str.ofString "_law_told" : Str) == ("__debug__" : Str)) = false := by decide +kernel
theorem nc_FI__law_told : ((Str.ofString "_law_told" : Str) == ("__classdict__" : Str)) = false := by decide +kernel
theorem nn_FI__law_told : (Str.ofString "_law_told" : Str) ≠ "__name__" := by decide +kernel
theorem nd_FI_repr : ((Str.ofString "repr" : Str) == ("__debug__" : Str)) = false := by decide +kernel
theorem nc_FI_repr : ((Str.ofString "repr" : Str) == ("__classdict__" : Str)) = false := by decide +kernel
theorem nn_FI_repr : (Str.ofString "repr" : Str) ≠ "__name__" := by decide +kernel
/-! ### what can be written by repr -/
structure Pr (D W : Nat) (d : PyData) : Prop where
  sh : d.showable = true
  nd : d.hasDict = false
  dp : d.depth ≤ D
  lv : d.leavesShort 8 = true
  wt : d.weight ≤ W
theorem Pr.mono {D D' W W' : Nat} {d : PyData} (h : Pr D W d) (h1 : D ≤ D') (h2 : W ≤ W') : Pr D' W' d := ⟨h.sh, h.nd, Nat.le_trans h.dp h1, h.lv, Nat.le_trans h.wt h2⟩
theorem Pr.all {D W : Nat} : ∀ {ds : List PyData}, (∀ d ∈ ds, Pr D W d) → PyData.showableAll ds = true ∧ PyData.hasDictAll ds = false ∧ PyData.depthAll ds ≤ D ∧ PyData.leavesShortAll 8 ds = true ∧ PyData.weightAll ds ≤ ds.length * (W + 1)
  | [], _ => by simp [PyData.showableAll, PyData.hasDictAll, PyData.depthAll, PyData.leavesShortAll, PyData.weightAll]
  | d :: r, h => by
    obtain ⟨a1, a2, a3, a4, a5⟩ := Pr.all (ds := r) fun x hx => h x (List.mem_cons_of_mem _ hx)
    have p := h d List.mem_cons_self
    refine ⟨?_, ?_, ?_, ?_, ?_⟩
    · simp only [PyData.showableAll, p.sh, a1, Bool.and_self]
    · simp only [PyData.hasDictAll, p.nd, a2, Bool.or_self]
    · simp only [PyData.depthAll]
      have := p.dp
      omega
    · simp only [PyData.leavesShortAll, p.lv, a4, Bool.and_self]
    · simp only [PyData.weightAll, List.length_cons, Nat.add_mul]
      have := p.wt
      omega
theorem Pr.list {D W n : Nat} {ds : List PyData} (h : ∀ d ∈ ds, Pr D W d) (hn : ds.length ≤ n) : Pr (D + 1) (n * (W + 1)) (.list ds) := by
  obtain ⟨a1, a2, a3, a4, a5⟩ := Pr.all h
  have := Nat.mul_le_mul_right (W + 1) hn
  exact ⟨by simpa only [PyData.showable] using a1, by simpa only [PyData.hasDict] using a2, by simp only [PyData.depth]; omega, by simpa only [PyData.leavesShort] using a4, by simp only [PyData.weight]; omega⟩
theorem Pr.tuple {D W n : Nat} {ds : List PyData} (h : ∀ d ∈ ds, Pr D W d) (hn : ds.length ≤ n) : Pr (D + 1) (n * (W + 1)) (.tuple ds) := by
  obtain ⟨a1, a2, a3, a4, a5⟩ := Pr.all h
  have := Nat.mul_le_mul_right (W + 1) hn
  exact ⟨by simpa only [PyData.showable] using a1, by simpa only [PyData.hasDict] using a2, by simp only [PyData.depth]; omega, by simpa only [PyData.leavesShort] using a4, by simp only [PyData.weight]; omega⟩
theorem Pr.nm {z : Str} (h : isNm z) : Pr 0 12 (.str z) := by
  refine ⟨rfl, rfl, by simp [PyData.depth], ?_, ?_⟩
  · simp only [PyData.leavesShort, List.all_eq_true, decide_eq_true_eq]
    intro c hc
    have := h.2.2 c hc
    omega
  · simp only [PyData.weight]
    have := h.2.1
    simpa using this
theorem Pr.fits {D W : Nat} {d : PyData} (h : Pr D W d) (hD : D ≤ 60) (hW : W ≤ 2 ^ 20) : d.showable = true ∧ d.hasDict = false ∧ d.depth ≤ 60 ∧ d.shown.length ≤ sizeLine :=
  ⟨h.sh, h.nd, Nat.le_trans h.dp hD, PyData.shown_fits (B := 8) (by decide) (by decide) h.lv (Nat.le_trans h.wt hW)⟩
theorem Pr.strs {ws : List Str} (h : ∀ k ∈ ws, isNm k) : ∀ d ∈ strsD ws, Pr 0 12 d := fun d hd => by
  obtain ⟨k, hk, rfl⟩ := List.mem_map.mp hd
  exact Pr.nm (h k hk)
theorem Pr.two {D W : Nat} {a b : PyData} (ha : Pr D W a) (hb : Pr D W b) : ∀ d ∈ [a, b], Pr D W d := fun d hd => by
  rcases List.mem_cons.mp hd with rfl | hd
  · exact ha
  · rw [List.mem_singleton.mp hd]; exact hb
theorem Pr.three {D W : Nat} {a b c : PyData} (ha : Pr D W a) (hb : Pr D W b) (hc : Pr D W c) : ∀ d ∈ [a, b, c], Pr D W d := fun d hd => by
  rcases List.mem_cons.mp hd with rfl | hd
  · exact ha
  · exact Pr.two hb hc d hd
theorem BookOk.tieNm {ks : List Str} {ts : List TieR} {fs : List FunR} (ok : BookOk ks ts fs) {t : TieR} (ht : t ∈ ts) : isNm t.nm ∧ t.ps.length ≤ 2 ∧ ∀ k ∈ t.ps, isNm k :=
  let ⟨a, b, c⟩ := ok.tn t ht; ⟨a.1, b, fun k hk => ok.kn2 k (c k hk)⟩
theorem BookOk.funNm {ks : List Str} {ts : List TieR} {fs : List FunR} (ok : BookOk ks ts fs) {t : FunR} (ht : t ∈ fs) : isNm t.nm ∧ t.ps.length ≤ 2 ∧ (∀ k ∈ t.ps, isNm k) ∧ isNm t.kd :=
  let ⟨a, b, c, d⟩ := ok.fn t ht; ⟨a.1, b, fun k hk => ok.kn2 k (c k hk), ok.kn2 _ d⟩
theorem due_pr {ks : List Str} {ts : List TieR} {fs : List FunR} (ok : BookOk ks ts fs) : Pr 4 3000 (dueD ks ts fs) := by
  have sl := ok.sl
  have k4 := ok.k4
  have h1 : Pr 3 900 (.list (strsD ks)) := (Pr.list (n := 4) (Pr.strs ok.kn2) (by unfold strsD; rw [List.length_map]; exact k4)).mono (by decide) (by decide)
  have h2 : Pr 3 900 (.list (ts.map tieT)) := by
    refine (Pr.list (D := 2) (W := 81) (n := 8) (fun d hd => ?_) (by rw [List.length_map]; omega)).mono (by decide) (by decide)
    obtain ⟨t, ht, rfl⟩ := List.mem_map.mp hd
    obtain ⟨o1, o2, o3⟩ := ok.tieNm ht
    exact (Pr.tuple (D := 1) (W := 26) (n := 2) (Pr.two ((Pr.nm o1).mono (by decide) (by decide)) ((Pr.tuple (n := 2) (Pr.strs o3) (by unfold strsD; rw [List.length_map]; exact o2)).mono (by decide) (by decide))) (Nat.le_refl _)).mono (by decide) (by decide)
  have h3 : Pr 3 900 (.list (fs.map funT)) := by
    refine (Pr.list (D := 2) (W := 81) (n := 8) (fun d hd => ?_) (by rw [List.length_map]; omega)).mono (by decide) (by decide)
    obtain ⟨t, ht, rfl⟩ := List.mem_map.mp hd
    obtain ⟨o1, o2, o3, o4⟩ := ok.funNm ht
    exact (Pr.tuple (D := 1) (W := 26) (n := 3) (Pr.three ((Pr.nm o1).mono (by decide) (by decide)) ((Pr.tuple (n := 2) (Pr.strs o3) (by unfold strsD; rw [List.length_map]; exact o2)).mono (by decide) (by decide)) ((Pr.nm o4).mono (by decide) (by decide))) (Nat.le_refl _)).mono (by decide) (by decide)
  exact (Pr.tuple (n := 3) (Pr.three h1 h2 h3) (Nat.le_refl _)).mono (by decide) (by decide)
section
variable {P : Program} {w : World} {K : PySem.W.Frag} {mg : Str → Option Value} {base : Heap}
abbrev s_law_right : Stmt := top 32
theorem sc_law_right : FnScope ["_law_signs", "_law_due_here", "_law_turn", "_law_told", "_law_row"] ["_law_signs", "_law_due_here"] (defScope s_law_right) := ⟨rfl, rfl, rfl, by decide +kernel, rfl, by decide +kernel, by decide +kernel⟩
theorem lk_law_right__law_due_here : (defScope s_law_right).names.lookup (Str.ofString "_law_due_here") = some NameKind.local := by decide +kernel
theorem lk_law_right__law_row : (defScope s_law_right).names.lookup (Str.ofString "_law_row") = some NameKind.local := by decide +kernel
theorem lk_law_right__law_signs : (defScope s_law_right).names.lookup (Str.ofString "_law_signs") = some NameKind.local := by decide +kernel
theorem lk_law_right__law_told : (defScope s_law_right).names.lookup (Str.ofString "_law_told") = some NameKind.local := by decide +kernel
theorem lk_law_right__law_turn : (defScope s_law_right).names.lookup (Str.ofString "_law_turn") = some NameKind.local := by decide +kernel
theorem lk_law_right_range : (defScope s_law_right).names.lookup (Str.ofString "range") = some NameKind.globalImplicit := by decide +kernel
theorem lk_law_right_repr : (defScope s_law_right).names.lookup (Str.ofString "repr") = some NameKind.globalImplicit := by decide +kernel
def spRight (C : Addr) : Sp := fun vs H Q _ => ∃ (x : Addr) (v : V) (ks : List Str) (ts : List TieR) (fs : List FunR), vs = [.ref x, v] ∧ SignsAt C H x ks ts fs ∧ BookOk ks ts fs ∧ RdV Any H v (dueD ks ts fs) ∧ ∀ H', Same H H' → Q (.bl true) H'
theorem ok_right {C f1 f2 f3 : Addr} {fd1 fd2 fd3 : FuncData} (F : FunAt K mg "_law_right" s_law_right ["_law_signs", "_law_due_here"]) (Z : Bl mg) (T : ClS K C)
    (m_kinds : Meth K C "kinds" f1) (G_kinds : FnOk P w K mg base CX0 1 f1 fd1 ["self"] (spTellK C)) (b_kinds : Binds K fd1 ["self"] [])
    (m_ties : Meth K C "ties" f2) (G_ties : FnOk P w K mg base CX0 1 f2 fd2 ["self"] (spTellT C)) (b_ties : Binds K fd2 ["self"] [])
    (m_functions : Meth K C "functions" f3) (G_functions : FnOk P w K mg base CX0 1 f3 fd3 ["self"] (spTellF C)) (b_functions : Binds K fd3 ["self"] []) :
    Def P w K mg base "_law_right" 2 ["_law_signs", "_law_due_here"] (spRight C) := by
  have SC := sc_law_right
  refine F.mk' (k := 1) sc_law_right (fun vs H Q E h => ?_) (fun f cdv A outer s H vs Q E hr h => ?_)
  · obtain ⟨x, v, ks, ts, fs, rfl, _⟩ := h
    rfl
  · obtain ⟨x, v, ks, ts, fs, rfl, hS, ok, hv, q⟩ := h
    obtain ⟨p1, p2, p3, p4⟩ := (due_pr ok).fits (by decide) (by decide)
    obtain ⟨va, vx, rfl, _, hva, hvx⟩ := hv.tuple_inv
    refine' ⟨_, ?derivation, ?_⟩
    case derivation =>
      refine' pss_cons ?h0 ?h1
      case h0 =>
        refine' ps_for ?h2 ?h3 ?h4 ?h5 ?h6 ?h7
        case h2 => exact PassesOwn.never
        case h3 => exact rfl
        case h4 =>
          refine' pi_range1 ?h8 ?h9 ?h10 ?h11
          case h8 => exact lk_law_right_range
          case h9 => exact Z.n_range
          case h10 =>
            refine' pa_cons ?h12 ?h13 ?h14
            case h12 => exact pe_int
            case h13 => exact pa_nil
            case h14 => rfl
          case h11 => rfl
        case h5 =>
          refine' pg_name (i := 2) (x := Str.ofString "_law_turn") ?h15 ?h16 ?h17 ?h18
          case h15 => exact SC.nd
          case h16 => exact rfl
          case h17 => exact (Or.inl lk_law_right__law_turn)
          case h18 => exact (.inl rfl)
        case h6 =>
          refine' pss_cons ?h19 ?h20
          case h19 =>
            refine' ps_set (i := 3) (x := Str.ofString "_law_told") ?h21 ?h22 ?h23 ?h24 ?h25 ?h26
            case h21 => exact SC.nd
            case h22 => exact rfl
            case h23 => exact (Or.inl lk_law_right__law_told)
            case h24 =>
              refine' pe_tup ?h27
              case h27 =>
                refine' pa_cons ?h28 ?h29 ?h30
                case h28 =>
                  refine' pe_meth0 ?h31 ?h32 ?h33 ?h34 ?h35 ?h36 ?h37 ?h38 ?h39
                  case h31 => exact (pq 0 (x := Str.ofString "_law_signs") (visL lk_law_right__law_signs) nd_FI__law_signs nc_FI__law_signs)
                  case h32 => exact T.cl
                  case h33 => exact m_kinds
                  case h34 => exact G_kinds
                  case h35 => exact (hr.mono (by decide))
                  case h36 => exact b_kinds
                  case h37 => exact .nil
                  case h38 => exact pass0
                  case h39 => rfl
                case h29 =>
                  refine' pa_cons ?h40 ?h41 ?h42
                  case h40 =>
                    refine' pe_meth0 ?h43 ?h44 ?h45 ?h46 ?h47 ?h48 ?h49 ?h50 ?h51
                    case h43 => exact (pq 0 (x := Str.ofString "_law_signs") (visL lk_law_right__law_signs) nd_FI__law_signs nc_FI__law_signs)
                    case h44 => exact T.cl
                    case h45 => exact m_ties
                    case h46 => exact G_ties
                    case h47 => exact (hr.mono (by decide))
                    case h48 => exact b_ties
                    case h49 => exact .nil
                    case h50 => exact pass0
                    case h51 => rfl
                  case h41 =>
                    refine' pa_cons ?h52 ?h53 ?h54
                    case h52 =>
                      refine' pe_meth0 ?h55 ?h56 ?h57 ?h58 ?h59 ?h60 ?h61 ?h62 ?h63
                      case h55 => exact (pq 0 (x := Str.ofString "_law_signs") (visL lk_law_right__law_signs) nd_FI__law_signs nc_FI__law_signs)
                      case h56 => exact T.cl
                      case h57 => exact m_functions
                      case h58 => exact G_functions
                      case h59 => exact (hr.mono (by decide))
                      case h60 => exact b_functions
                      case h61 => exact .nil
                      case h62 => exact pass0
                      case h63 => rfl
                    case h53 => exact pa_nil
                    case h54 => rfl
                  case h42 => rfl
                case h30 => rfl
            case h25 => rfl
            case h26 => exact .inl rfl
          case h20 =>
            refine' pss_cons ?h64 ?h65
            case h64 =>
              refine' ps_if ?h66 ?h67 ?h68
              case h66 =>
                refine' pt_cmpR ?h69 ?h70 ?h71 ?h72
                case h69 => exact op_ne
                case h70 =>
                  refine' pe_callB (hn := nn_FI_repr) (hdb := nd_FI_repr) ?h73 ?h74 ?h75 ?h76 ?h77 ?h78 ?h79
                  case h73 => exact (call_reprD hr)
                  case h74 => exact lk_law_right_repr
                  case h75 => exact Z.n_repr
                  case h76 => exact bt_repr
                  case h77 =>
                    refine' pa_cons ?h80 ?h81 ?h82
                    case h80 => exact (pq 3 (x := Str.ofString "_law_told") (visL lk_law_right__law_told) nd_FI__law_told nc_FI__law_told)
                    case h81 => exact pa_nil
                    case h82 => rfl
                  case h78 => rfl
                  case h79 => rfl
                case h71 =>
                  refine' pe_callB (hn := nn_FI_repr) (hdb := nd_FI_repr) ?h83 ?h84 ?h85 ?h86 ?h87 ?h88 ?h89
                  case h83 => exact (call_reprD hr)
                  case h84 => exact lk_law_right_repr
                  case h85 => exact Z.n_repr
                  case h86 => exact bt_repr
                  case h87 =>
                    refine' pa_cons ?h90 ?h91 ?h92
                    case h90 => exact (pq 1 (x := Str.ofString "_law_due_here") (visL lk_law_right__law_due_here) nd_FI__law_due_here nc_FI__law_due_here)
                    case h91 => exact pa_nil
                    case h92 => rfl
                  case h88 => rfl
                  case h89 => rfl
                case h72 => exact (nomark _)
              case h67 =>
                refine' pss_one ?h93
                case h93 =>
                  refine' ps_ret ?h94
                  case h94 => exact pe_bl
              case h68 => exact pss_nil
            case h65 =>
              refine' pss_one ?h95
              case h95 =>
                refine' ps_for ?h96 ?h97 ?h98 ?h99 ?h100 ?h101
                case h96 => exact PassesOwn.never
                case h97 => exact rfl
                case h98 =>
                  refine' pi_tup ?h102
                  case h102 => exact (pq 3 (x := Str.ofString "_law_told") (visL lk_law_right__law_told) nd_FI__law_told nc_FI__law_told)
                case h99 =>
                  refine' pg_name (i := 4) (x := Str.ofString "_law_row") ?h103 ?h104 ?h105 ?h106
                  case h103 => exact SC.nd
                  case h104 => exact rfl
                  case h105 => exact (Or.inl lk_law_right__law_row)
                  case h106 => exact (.inl rfl)
                case h100 =>
                  refine' pss_one ?h107
                  case h107 =>
                    refine' ps_expr ?h108 ?h109
                    case h108 =>
                      refine' pe_bm0 ?h110 ?h111 ?h112 ?h113 ?h114 ?h115 ?h116
                      case h110 => exact PySem.F.plainAttrs_list
                      case h111 => exact PySem.F.slot_list_clear
                      case h112 => exact PySem.F.type_list_clear
                      case h113 => exact mt_clear
                      case h114 => exact (pq 4 (x := Str.ofString "_law_row") (visL lk_law_right__law_row) nd_FI__law_row nc_FI__law_row)
                      case h115 => rfl
                      case h116 => rfl
                    case h109 => rfl
                case h101 => intro _; rfl
        case h7 => intro _; rfl
      case h1 =>
        refine' pss_one ?h117
        case h117 =>
          refine' ps_ret ?h118
          case h118 => exact pe_bl
    refine ⟨_, rfl, by decide, by decide, for_range (n := 2) (fun i σ H2 => ∃ v2 v3 v4, σ = [some (.ref x), some (.ref va), v2, v3, v4] ∧ Same H H2) ⟨none, none, none, rfl, Same.refl _⟩ ?_ ?_⟩
    · rintro i σ H2 hi ⟨v2, v3, v4, rfl, s2⟩
      have hS2 := hS.keep (fun o e => s2 x o e) (Same.tups s2)
      obtain ⟨dx, kt, tt, ft, tv, fv, x2, _, _, _, _, _⟩ := id hS2
      refine ⟨_, rfl, x, dx, _, rfl, x2, fl_no (by decide +kernel) (by decide +kernel) (by decide +kernel), x, ks, ts, fs, rfl, hS2, fun l1 hl1 => ?_⟩
      have s3 := same_new hl1 (.lst (ks.map V.str))
      have hS3 := hS2.keep (fun o e => s3 x o e) (Same.tups s3)
      refine ⟨_, rfl, x, dx, _, rfl, s3 _ _ x2, fl_no (by decide +kernel) (by decide +kernel) (by decide +kernel), x, ks, ts, fs, rfl, hS3, fun l2 tv' hl2 r2 => ?_⟩
      have s4 := same_new hl2 (.lst tv')
      have hS4 := hS3.keep (fun o e => s4 x o e) (Same.tups s4)
      refine ⟨_, rfl, x, dx, _, rfl, s4 _ _ (s3 _ _ x2), fl_no (by decide +kernel) (by decide +kernel) (by decide +kernel), x, ks, ts, fs, rfl, hS4, fun l3 fv' hl3 r3 => ?_⟩
      have s5 := same_new hl3 (.lst fv')
      refine ⟨by show 3 ≤ sizeLine; decide, fun t ht => ?_⟩
      have s6 := same_new ht (.tup [.ref l1, .ref l2, .ref l3])
      have e1 := s6 _ _ (s5 _ _ (s4 _ _ (upd_same (H := H2) (a := l1) (o := .lst (ks.map V.str)))))
      have e2 := s6 _ _ (s5 _ _ (upd_same (H := upd H2 l1 (.lst (ks.map V.str))) (a := l2) (o := .lst tv')))
      have e3 := s6 _ _ (upd_same (H := upd (upd H2 l1 (.lst (ks.map V.str))) l2 (.lst tv')) (a := l3) (o := .lst fv'))
      have n1 : H l1 = none := s2.free hl1
      have n2 : H l2 = none := (s2.trans s3).free hl2
      have n3 : H l3 = none := ((s2.trans s3).trans s4).free hl3
      have n4 : H t = none := (((s2.trans s3).trans s4).trans s5).free ht
      have s26 := (((s2.trans s3).trans s4).trans s5).trans s6
      have r2' := ((r2.same s4).same s5).same s6
      have r3' := (r3.same s5).same s6
      have et : (upd (upd (upd (upd H2 l1 (.lst (ks.map V.str))) l2 (.lst tv')) l3 (.lst fv')) t (.tup [.ref l1, .ref l2, .ref l3])) t = some (.tup [.ref l1, .ref l2, .ref l3]) := upd_same
      generalize (upd (upd (upd (upd H2 l1 (.lst (ks.map V.str))) l2 (.lst tv')) l3 (.lst fv')) t (.tup [.ref l1, .ref l2, .ref l3])) = G at s26 e1 e2 e3 et r2' r3' s6 ⊢
      have rd : RdV Any G (.ref t) (dueD ks ts fs) := .tup trivial et (.cons (.lst trivial e1 (RdA.strs ks)) (.cons (.lst trivial e2 r2') (.cons (.lst trivial e3 r3') .nil)))
      refine ⟨_, rfl, t, _, rfl, rd.toV, p1, p2, p3, p4, _, rfl, va, _, rfl, (hv.same s26).toV, p1, p2, p3, p4, rfl, _, rfl, iteNS rfl ?_⟩
      refine ⟨_, rfl, t, rfl, ⟨_, SqT.of et⟩, for_tup (K := K) (a := t) (xs := [.ref l1, .ref l2, .ref l3]) (fun i σ H3 => ∃ v2 v4, σ = [some (.ref x), some (.ref va), v2, some (.ref t), v4] ∧ Same H H3 ∧ H3 t = some (.tup [.ref l1, .ref l2, .ref l3]) ∧ ∀ l ∈ [l1, l2, l3], ∃ xs, H3 l = some (.lst xs)) ⟨_, _, rfl, s26, et, ?_⟩ (fun i σ H3 _ ⟨_, _, _, _, z, _⟩ => SqT.of z) ?_ ?_⟩
      · intro l hl
        rcases List.mem_cons.mp hl with rfl | hl
        · exact ⟨_, e1⟩
        · rcases List.mem_cons.mp hl with rfl | hl
          · exact ⟨_, e2⟩
          · rw [List.mem_singleton.mp hl]; exact ⟨_, e3⟩
      · rintro j y σ H3 hj ⟨v2, v4, rfl, sH, et3, hall⟩
        obtain ⟨l, hl, rfl⟩ : ∃ l ∈ [l1, l2, l3], y = V.ref l := by
          have hm := List.mem_of_getElem? hj
          rcases List.mem_cons.mp hm with rfl | hm
          · exact ⟨l1, by simp, rfl⟩
          · rcases List.mem_cons.mp hm with rfl | hm
            · exact ⟨l2, by simp, rfl⟩
            · exact ⟨l3, by simp, List.mem_singleton.mp hm⟩
        obtain ⟨xs, hxs⟩ := hall l hl
        have nl : H l = none := by
          rcases List.mem_cons.mp hl with rfl | hl
          · exact n1
          · rcases List.mem_cons.mp hl with rfl | hl
            · exact n2
            · rw [List.mem_singleton.mp hl]; exact n3
        have ntl : t ≠ l := by rintro rfl; rw [et3] at hxs; cases hxs
        refine ⟨_, rfl, .inl ⟨rfl, _, SqL.of hxs⟩, l, xs, rfl, rfl, hxs, _, _, rfl, fun b o e => ?_, by rw [upd_ne ntl]; exact et3, fun l' hl' => ?_⟩
        · rw [upd_ne (ne_of_none e nl)]; exact sH b o e
        · by_cases hq : l' = l
          · subst hq; exact ⟨_, upd_same⟩
          · rw [upd_ne hq]; exact hall l' hl'
      · rintro σ H3 ⟨v2, v4, rfl, sH, _, _⟩
        exact ⟨_, _, _, rfl, sH⟩
    · rintro σ H2 ⟨v2, v3, v4, rfl, s2⟩
      exact q H2 s2
end
end Few

set_option Elab.async false
set_option linter.all false
set_option maxRecDepth 100000
set_option maxHeartbeats 1000000
namespace Few
open PySem L2
theorem nd_FJ_Signs : ((Str.ofString "Signs" : Str) == ("__debug__" : Str)) = false := by decide +kernel
theorem nc_FJ_Signs : ((Str.ofString "Signs" : Str) == ("__classdict__" : Str)) = false := by decide +kernel
theorem nn_FJ_Signs : (Str.ofString "Signs" : Str) ≠ "__name__" := by decide +kernel
theorem nd_FJ__law_again : ((Str.ofString "_law_again" : Str) == ("__debug__" : Str)) = false := by decide +kernel
theorem nc_FJ__law_again : ((Str.ofString "_law_again" : Str) == ("__classdict__" : Str)) = false := by decide +kernel
theorem nn_FJ__law_again : (Str.ofString "_law_again" : Str) ≠ "__name__" := by decide +kernel
theorem nd_FJ__law_as : ((Str.ofString "_law_as" : Str) == ("__debug__" : Str)) = false := by decide +kernel
theorem nc_FJ__law_as : ((Str.ofString "_law_as" : Str) == ("__classdict__" : Str)) = false := by decide +kernel
theorem nn_FJ__law_as : (Str.ofString "_law_as" : Str) ≠ "__name__" := by decide +kernel
theorem nd_FJ__law_before : ((Str.ofString "_law_before" : Str) == ("__debug__" : Str)) = false := by decide +kernel
theorem nc_FJ__law_before : ((Str.ofString "_law_before" : Str) == ("__classdict__" : Str)) = false := by decide +kernel
theorem nn_FJ__law_before : (Str.ofString "_law_before" : Str) ≠ "__name__" := by decide +kernel
theorem nd_FJ__law_book : ((Str.ofString "_law_book" : Str) == ("__debug__" : Str)) = false := by decide +kernel
theorem nc_FJ__law_book : ((Str.ofString "_law_book" : Str) == ("__classdict__" : Str)) = false := by decide +kernel
theorem nn_FJ__law_book : (Str.ofString "_law_book" : Str) ≠ "__name__" := by decide +kernel
theorem nd_FJ__law_book_here : ((Str.ofString "_law_book_here" : Str) == ("__debug__" : Str)) = false := by decide +kernel
theorem nc_FJ__law_book_here : ((Str.ofString "_law_book_here" : Str) == ("__classdict__" : Str)) = false := by decide +kernel
theorem nn_FJ__law_book_here : (Str.ofString "_law_book_here" : Str) ≠ "__name__" := by decide +kernel
theorem nd_FJ__law_cell : ((Str.ofString "_law_cell" : Str) == ("__debug__" : Str)) = false := by decide +kernel
theorem nc_FJ__law_cell : ((Str.ofString "_law_cell" : Str) == ("__classdict__" : Str)) = false := by decide +kernel
theorem nn_FJ__law_cell : (Str.ofString "_law_cell" : Str) ≠ "__name__" := by decide +kernel
theorem nd_FJ__law_due : ((Str.ofString "_law_due" : Str) == ("__debug__" : Str)) = false := by decide +kernel
theorem nc_FJ__law_due : ((Str.ofString "_law_due" : Str) == ("__classdict__" : Str)) = false := by decide +kernel
theorem nn_FJ__law_due : (Str.ofString "_law_due" : Str) ≠ "__name__" := by decide +kernel
theorem nd_FJ__law_due_here : ((Str.ofString "_law_due_here" : Str) == ("__debug__" : Str)) = false := by decide +kernel
theorem nc_FJ__law_due_here : ((Str.ofString "_law_due_here" : Str) == ("__classdict__" : Str)) = false := by decide +kernel
theorem nn_FJ__law_due_here : (Str.ofString "_law_due_here" : Str) ≠ "__name__" := by decide +kernel
theorem nd_FJ__law_elder : ((Str.ofString "_law_elder" : Str) == ("__debug__" : Str)) = false := by decide +kernel
theorem nc_FJ__law_elder : ((Str.ofString "_law_elder" : Str) == ("__classdict__" : Str)) = false := by decide +kernel
theorem nn_FJ__law_elder : (Str.ofString "_law_elder" : Str) ≠ "__name__" := by decide +kernel
theorem nd_FJ__law_empty : ((Str.ofString "_law_empty" : Str) == ("__debug__" : Str)) = false := by decide +kernel
theorem nc_FJ__law_empty : ((Str.ofString "_law_empty" : Str) == ("__classdict__" : Str)) = false := by decide +kernel
theorem nn_FJ__law_empty : (Str.ofString "_law_empty" : Str) ≠ "__name__" := by decide +kernel
theorem nd_FJ__law_handed : ((Str.ofString "_law_handed" : Str) == ("__debug__" : Str)) = false := by decide +kernel
theorem nc_FJ__law_handed : ((Str.ofString "_law_handed" : Str) == ("__classdict__" : Str)) = false := by decide +kernel
theorem nn_FJ__law_handed : (Str.ofString "_law_handed" : Str) ≠ "__name__" := by decide +kernel
theorem nd_FJ__law_number : ((Str.ofString "_law_number" : Str) == ("__debug__" : Str)) = false := by decide +kernel
theorem nc_FJ__law_number : ((Str.ofString "_law_number" : Str) == ("__classdict__" : Str)) = false := by decide +kernel
theorem nn_FJ__law_number : (Str.ofString "_law_number" : Str) ≠ "__name__" := by decide +kernel
theorem nd_FJ__law_pot : ((Str.ofString "_law_pot" : Str) == ("__debug__" : Str)) = false := by decide +kernel
theorem nc_FJ__law_pot : ((Str.ofString "_law_pot" : Str) == ("__classdict__" : Str)) = false := by decide +kernel
theorem nn_FJ__law_pot : (Str.ofString "_law_pot" : Str) ≠ "__name__" := by decide +kernel
theorem nd_FJ__law_pot_here : ((Str.ofString "_law_pot_here" : Str) == ("__debug__" : Str)) = false := by decide +kernel
theorem nc_FJ__law_pot_here : ((Str.ofString "_law_pot_here" : Str) == ("__classdict__" : Str)) = false := by decide +kernel
theorem nn_FJ__law_pot_here : (Str.ofString "_law_pot_here" : Str) ≠ "__name__" := by decide +kernel
theorem nd_FJ__law_right : ((Str.ofString "_law_right" : Str) == ("__debug__" : Str)) = false := by decide +kernel
theorem nc_FJ__law_right : ((Str.ofString "_law_right" : Str) == ("__classdict__" : Str)) = false := by decide +kernel
theorem nn_FJ__law_right : (Str.ofString "_law_right" : Str) ≠ "__name__" := by decide +kernel
theorem nd_FJ__law_rows : ((Str.ofString "_law_rows" : Str) == ("__debug__" : Str)) = false := by decide +kernel
theorem nc_FJ__law_rows : ((Str.ofString "_law_rows" : Str) == ("__classdict__" : Str)) = false := by decide +kernel
theorem nn_FJ__law_rows : (Str.ofString "_law_rows" : Str) ≠ "__name__" := by decide +kernel
theorem nd_FJ__law_script : ((Str.ofString "_law_script" : Str) == ("__debug__" : Str)) = false := by decide +kernel
theorem nc_FJ__law_script : ((Str.ofString "_law_script" : Str) == ("__classdict__" : Str)) = false := by decide +kernel
theorem nn_FJ__law_script : (Str.ofString "_law_script" : Str) ≠ "__name__" := by decide +kernel
theorem nd_FJ__law_signs : ((Str.ofString "_law_signs" : Str) == ("__debug__" : Str)) = false := by decide +kernel
theorem nc_FJ__law_signs : ((Str.ofString "_law_signs" : Str) == ("__classdict__" : Str)) = false := by decide +kernel
theorem nn_FJ__law_signs : (Str.ofString "_law_signs" : Str) ≠ "__name__" := by decide +kernel
theorem nd_FJ__law_signs_as : ((Str.ofString "_law_signs_as" : Str) == ("__debug__" : Str)) = false := by decide +kernel
theorem nc_FJ__law_signs_as : ((Str.ofString "_law_signs_as" : Str) == ("__classdict__" : Str)) = false := by decide +kernel
theorem nn_FJ__law_signs_as : (Str.ofString "_law_signs_as" : Str) ≠ "__name__" := by decide +kernel
theorem nd_FJ_repr : ((Str.ofString "repr" : Str) == ("__debug__" : Str)) = false := by decide +kernel
theorem nc_FJ_repr : ((Str.ofString "repr" : Str) == ("__classdict__" : Str)) = false := by decide +kernel
theorem nn_FJ_repr : (Str.ofString "repr" : Str) ≠ "__name__" := by decide +kernel
/-! ### readings by region -/
theorem RdV.keepX {p : Addr} {R : Addr → Prop} {H H' : Hp} {v : V} {d : PyData} (hR : ∀ a, R a → a ≠ p) (h : RdV R H v d) (s : SameX p H H') : RdV R H' v d := h.mono (fun _ z => z) fun a o z e => s a o (hR a z) e
mutual
theorem rdv_alive {R : Addr → Prop} {H : Hp} : ∀ {v : V} {d : PyData}, RdV R H v d → RdV (fun a => R a ∧ ∃ o, H a = some o) H v d
  | _, _, .non => .non
  | _, _, .bl b => .bl b
  | _, _, .int i => .int i
  | _, _, .str x => .str x
  | _, _, .lst r e z => .lst ⟨r, _, e⟩ e (rda_alive z)
  | _, _, .tup r e z => .tup ⟨r, _, e⟩ e (rda_alive z)
theorem rda_alive {R : Addr → Prop} {H : Hp} : ∀ {xs : List V} {ds : List PyData}, RdA R H xs ds → RdA (fun a => R a ∧ ∃ o, H a = some o) H xs ds
  | _, _, .nil => .nil
  | _, _, .cons a b => .cons (rdv_alive a) (rda_alive b)
end
theorem rdv_any {R : Addr → Prop} {H : Hp} {v : V} {d : PyData} (h : RdV R H v d) : RdV Any H v d := h.mono (fun _ _ => trivial) fun _ _ _ e => e
theorem rda_any {R : Addr → Prop} {H : Hp} {v : List V} {d : List PyData} (h : RdA R H v d) : RdA Any H v d := h.mono (fun _ _ => trivial) fun _ _ _ e => e
theorem pot_tups {p : Addr} {H H' : Hp} (h : PotAt H p) (s : SameX p H H') : Tups H H' := fun a xs e => s a _ (by
  rintro rfl
  obtain ⟨_, _, _, e', _⟩ := h
  rw [e'] at e; cases e) e
/-- ties and functions as they are told are signs handed in -/
theorem ties_sgs {R : Addr → Prop} {H : Hp} : ∀ {ts : List TieR} {tv : List V}, RdA R H tv (ts.map tieT) → ∃ ab : List (Addr × Addr), tv = ab.map (fun q => V.ref q.1) ∧ Sgs H ab (ts.map tieRow)
  | [], _, .nil => ⟨[], rfl, .nil⟩
  | t :: r, _, .cons a b => by
    obtain ⟨ab, rfl, hs⟩ := ties_sgs b
    obtain ⟨q1, qx, rfl, _, h1, h2⟩ := RdV.tuple_inv a
    obtain ⟨u, v, rfl, hu, hv⟩ := h2.two
    obtain rfl := hu.str_inv
    obtain ⟨q2, qy, rfl, _, h3, h4⟩ := hv.tuple_inv
    obtain rfl := h4.strs_inv
    exact ⟨(q1, q2) :: ab, rfl, .cons ⟨.inr h1, .inr h3⟩ hs⟩
theorem funs_sgs {R : Addr → Prop} {H : Hp} : ∀ {ts : List FunR} {tv : List V}, RdA R H tv (ts.map funT) → ∃ ab : List (Addr × Addr), tv = ab.map (fun q => V.ref q.1) ∧ Sgs H ab (ts.map funRow)
  | [], _, .nil => ⟨[], rfl, .nil⟩
  | t :: r, _, .cons a b => by
    obtain ⟨ab, rfl, hs⟩ := funs_sgs b
    obtain ⟨q1, qx, rfl, _, h1, h2⟩ := RdV.tuple_inv a
    obtain ⟨u, v, x, rfl, hu, hv, hx⟩ := h2.three
    obtain rfl := hu.str_inv
    obtain rfl := hx.str_inv
    obtain ⟨q2, qy, rfl, _, h3, h4⟩ := hv.tuple_inv
    obtain rfl := h4.strs_inv
    exact ⟨(q1, q2) :: ab, rfl, .cons ⟨.inr h1, .inr h3⟩ hs⟩
theorem Sgs.keepX {p : Addr} {H H' : Hp} {ab : List (Addr × Addr)} {rs : List RowR} (h : Sgs H ab rs) (n : ∀ a ∈ flat ab, a ≠ p) (s : SameX p H H') : Sgs H' ab rs :=
  h.mono fun q hq o => ⟨fun e => s _ o (n _ (mem_flat.mpr ⟨q, hq, .inl rfl⟩)) e, fun e => s _ o (n _ (mem_flat.mpr ⟨q, hq, .inr rfl⟩)) e⟩
theorem Sgs.same {H H' : Hp} {ab : List (Addr × Addr)} {rs : List RowR} (h : Sgs H ab rs) (s : Same H H') : Sgs H' ab rs := h.mono fun q _ o => ⟨fun e => s _ o e, fun e => s _ o e⟩
theorem Sgs.in {H : Hp} {ab : List (Addr × Addr)} {rs : List RowR} (h : Sgs H ab rs) : ∀ a ∈ flat ab, ∃ o, H a = Option.some o := fun a ha => by
  obtain ⟨q, hq, rfl | rfl⟩ := mem_flat.mp ha
  · exact (h.has q hq).1
  · exact (h.has q hq).2
/-- what is handed in can be written -/
def RowNm (r : RowR) : Prop := isNm r.nm ∧ r.ps.length ≤ 2 ∧ (∀ k ∈ r.ps, isNm k) ∧ r.rest.length ≤ 1 ∧ ∀ k ∈ r.rest, isNm k
theorem LT.prd {H : Hp} {a : Addr} {xs : List V} {ds : List PyData} {n D W : Nat} (h : LT H a xs) (r : RdA Any H xs ds) (hp : ∀ d ∈ ds, Pr D W d) (hn : ds.length ≤ n) : ∃ d, RdV Any H (.ref a) d ∧ Pr (D + 1) (n * (W + 1)) d := by
  rcases h with h | h
  · exact ⟨_, .lst trivial h r, Pr.list hp hn⟩
  · exact ⟨_, .tup trivial h r, Pr.tuple hp hn⟩
theorem SgAt.prd {H : Hp} {q : Addr × Addr} {r : RowR} (h : SgAt H q r) (ok : RowNm r) : ∃ d, RdV Any H (.ref q.1) d ∧ Pr 2 81 d := by
  obtain ⟨o1, o2, o3, o4, o5⟩ := ok
  obtain ⟨d, r1, p1⟩ := h.plc.prd (n := 2) (RdA.strs r.ps) (Pr.strs o3) (by rw [List.length_map]; exact o2)
  obtain ⟨e, r2, p2⟩ := h.row.prd (n := 3) (D := 1) (W := 26) (.cons (.str r.nm) (.cons r1 (RdA.strs r.rest))) (fun x hx => by
    rcases List.mem_cons.mp hx with rfl | hx
    · exact (Pr.nm o1).mono (by decide) (by decide)
    · rcases List.mem_cons.mp hx with rfl | hx
      · exact p1.mono (by decide) (by decide)
      · exact (Pr.strs o5 x hx).mono (by decide) (by decide)) (by simp only [List.length_cons, List.length_map]; omega)
  exact ⟨e, r2, p2.mono (by decide) (by decide)⟩
theorem Sgs.prd {H : Hp} : ∀ {ab : List (Addr × Addr)} {rs : List RowR}, Sgs H ab rs → (∀ r ∈ rs, RowNm r) → ∃ es, RdA Any H (ab.map fun q => V.ref q.1) es ∧ ∀ e ∈ es, Pr 2 81 e
  | _, _, .nil, _ => ⟨[], .nil, fun _ h => nomatch h⟩
  | _, _, .cons a t, ok => by
    obtain ⟨es, h1, h2⟩ := Sgs.prd t fun r hr => ok r (List.mem_cons_of_mem _ hr)
    obtain ⟨d, h3, h4⟩ := a.prd (ok _ List.mem_cons_self)
    refine ⟨d :: es, .cons h3 h1, fun e he => ?_⟩
    rcases List.mem_cons.mp he with rfl | he
    · exact h4
    · exact h2 e he
theorem tie_rowNm {ks : List Str} {ts : List TieR} {fs : List FunR} (ok : BookOk ks ts fs) : ∀ r ∈ ts.map tieRow, RowNm r := fun r hr => by
  obtain ⟨t, ht, rfl⟩ := List.mem_map.mp hr
  obtain ⟨a, b, c⟩ := ok.tieNm ht
  exact ⟨a, b, c, Nat.zero_le _, fun _ h => nomatch h⟩
theorem fun_rowNm {ks : List Str} {ts : List TieR} {fs : List FunR} (ok : BookOk ks ts fs) : ∀ r ∈ fs.map funRow, RowNm r := fun r hr => by
  obtain ⟨t, ht, rfl⟩ := List.mem_map.mp hr
  obtain ⟨a, b, c, d⟩ := ok.funNm ht
  exact ⟨a, b, c, Nat.le_refl _, fun k hk => by rw [List.mem_singleton.mp hk]; exact d⟩
/-- a, b, c and what is in them: three rows handed in -/
structure Hand (H : Hp) (a b c : Addr) (ab cd : List (Addr × Addr)) (ks : List Str) (ts : List TieR) (fs : List FunR) : Prop where
  kA : LT H a (ks.map V.str)
  tA : LT H b (ab.map fun q => V.ref q.1)
  tS : Sgs H ab (ts.map tieRow)
  fA : LT H c (cd.map fun q => V.ref q.1)
  fS : Sgs H cd (fs.map funRow)
theorem Hand.same {H H' : Hp} {a b c : Addr} {ab cd : List (Addr × Addr)} {ks : List Str} {ts : List TieR} {fs : List FunR} (h : Hand H a b c ab cd ks ts fs) (s : Same H H') : Hand H' a b c ab cd ks ts fs := ⟨h.kA.same s, h.tA.same s, h.tS.same s, h.fA.same s, h.fS.same s⟩
theorem Hand.prd {H : Hp} {h a b c : Addr} {ab cd : List (Addr × Addr)} {ks : List Str} {ts : List TieR} {fs : List FunR} (g : Hand H a b c ab cd ks ts fs) (ok : BookOk ks ts fs) (hh : H h = some (.lst [.ref a, .ref b, .ref c])) : ∃ d, RdV Any H (.ref h) d ∧ Pr 4 3000 d := by
  have sl := ok.sl
  obtain ⟨d1, r1, p1⟩ := g.kA.prd (n := 4) (RdA.strs ks) (Pr.strs ok.kn2) (by rw [List.length_map]; exact ok.k4)
  obtain ⟨es, r2, p2⟩ := g.tS.prd (tie_rowNm ok)
  obtain ⟨d2, r3, p3⟩ := g.tA.prd (n := 8) r2 p2 (by rw [← r2.length, List.length_map, g.tS.length, List.length_map]; omega)
  obtain ⟨es', r4, p4⟩ := g.fS.prd (fun_rowNm ok)
  obtain ⟨d3, r5, p5⟩ := g.fA.prd (n := 8) r4 p4 (by rw [← r4.length, List.length_map, g.fS.length, List.length_map]; omega)
  exact ⟨_, .lst trivial hh (.cons r1 (.cons r3 (.cons r5 .nil))), (Pr.list (D := 3) (W := 900) (n := 3) (Pr.three (p1.mono (by decide) (by decide)) (p3.mono (by decide) (by decide)) (p5.mono (by decide) (by decide))) (Nat.le_refl _)).mono (by decide) (by decide)⟩
theorem rowOk_strs {H : Hp} {a : Addr} {ks : List Str} (h : LT H a (ks.map V.str)) : RowOk H a [] := by
  refine ⟨ks.map fun k => (V.str k, []), by rw [List.map_map]; exact h, fun e he => ?_, ?_⟩
  · obtain ⟨k, _, rfl⟩ := List.mem_map.mp he
    exact .inl ⟨k, rfl, rfl⟩
  · rw [List.flatMap_map]; simp
theorem rowOk_sgs {H : Hp} {a : Addr} {ab : List (Addr × Addr)} {rs : List RowR} (h : LT H a (ab.map fun q => V.ref q.1)) (s : Sgs H ab rs) : RowOk H a (flat ab) := by
  refine ⟨ab.map fun q => (V.ref q.1, [q.1, q.2]), by rw [List.map_map]; exact h, fun e he => ?_, ?_⟩
  · obtain ⟨q, hq, rfl⟩ := List.mem_map.mp he
    obtain ⟨i, hi⟩ := List.mem_iff_getElem?.mp hq
    obtain ⟨r, _, g⟩ := s.get hi
    exact .inr ⟨q, r, rfl, g, rfl⟩
  · rw [List.flatMap_map]; rfl
/-- the book asked before -/
def Elder (C : Addr) (H : Hp) (e : V) : Prop := e = .non ∨ ∃ (t x : Addr) (v : V) (ks : List Str) (ts : List TieR) (fs : List FunR), e = .ref t ∧ H t = some (.tup [.ref x, v]) ∧ SignsAt C H x ks ts fs ∧ BookOk ks ts fs ∧ RdV Any H v (dueD ks ts fs)
theorem SignsAt.same {C : Addr} {H H' : Hp} {x : Addr} {ks : List Str} {ts : List TieR} {fs : List FunR} (h : SignsAt C H x ks ts fs) (s : Same H H') : SignsAt C H' x ks ts fs := h.keep (fun o e => s x o e) (Same.tups s)
theorem Elder.same {C : Addr} {H H' : Hp} {e : V} (h : Elder C H e) (s : Same H H') : Elder C H' e := by
  rcases h with h | ⟨t, x, v, ks, ts, fs, h1, h2, h3, h4, h5⟩
  · exact .inl h
  · exact .inr ⟨t, x, v, ks, ts, fs, h1, s _ _ h2, h3.same s, h4, h5.same s⟩
theorem mem_cut {xs : List V} {lo hi : Option Int} {y : V} (h : y ∈ cutV xs lo hi) : y ∈ xs := List.mem_of_mem_drop (List.mem_of_mem_take h)
theorem rows_ties (ts : List TieR) : (ts.map tieRow).map rowL = ts.map tieL := by rw [List.map_map]; rfl
theorem rows_funs (ts : List FunR) : (ts.map funRow).map rowL = ts.map funL := by rw [List.map_map]; rfl
section
variable {P : Program} {w : World} {K : PySem.W.Frag} {mg : Str → Option Value} {base : Heap}
abbrev s_law : Stmt := top 33
theorem sc_law : FnScope ["_law_script", "_law_elder", "_law_number", "_law_pot_here", "_law_book_here", "_law_due_here", "_law_rows", "_law_handed", "_law_before", "_law_signs", "_law_again"] ["_law_script"] (defScope s_law) := ⟨rfl, rfl, rfl, by decide +kernel, rfl, by decide +kernel, by decide +kernel⟩
theorem lk_law_Signs : (defScope s_law).names.lookup (Str.ofString "Signs") = some NameKind.globalImplicit := by decide +kernel
theorem lk_law__law_again : (defScope s_law).names.lookup (Str.ofString "_law_again") = some NameKind.local := by decide +kernel
theorem lk_law__law_as : (defScope s_law).names.lookup (Str.ofString "_law_as") = some NameKind.globalImplicit := by decide +kernel
theorem lk_law__law_before : (defScope s_law).names.lookup (Str.ofString "_law_before") = some NameKind.local := by decide +kernel
theorem lk_law__law_book : (defScope s_law).names.lookup (Str.ofString "_law_book") = some NameKind.globalImplicit := by decide +kernel
theorem lk_law__law_book_here : (defScope s_law).names.lookup (Str.ofString "_law_book_here") = some NameKind.local := by decide +kernel
theorem lk_law__law_cell : (defScope s_law).names.lookup (Str.ofString "_law_cell") = some NameKind.globalImplicit := by decide +kernel
theorem lk_law__law_due : (defScope s_law).names.lookup (Str.ofString "_law_due") = some NameKind.globalImplicit := by decide +kernel
theorem lk_law__law_due_here : (defScope s_law).names.lookup (Str.ofString "_law_due_here") = some NameKind.local := by decide +kernel
theorem lk_law__law_elder : (defScope s_law).names.lookup (Str.ofString "_law_elder") = some NameKind.local := by decide +kernel
theorem lk_law__law_empty : (defScope s_law).names.lookup (Str.ofString "_law_empty") = some NameKind.globalImplicit := by decide +kernel
theorem lk_law__law_handed : (defScope s_law).names.lookup (Str.ofString "_law_handed") = some NameKind.local := by decide +kernel
theorem lk_law__law_number : (defScope s_law).names.lookup (Str.ofString "_law_number") = some NameKind.local := by decide +kernel
theorem lk_law__law_pot : (defScope s_law).names.lookup (Str.ofString "_law_pot") = some NameKind.globalImplicit := by decide +kernel
theorem lk_law__law_pot_here : (defScope s_law).names.lookup (Str.ofString "_law_pot_here") = some NameKind.local := by decide +kernel
theorem lk_law__law_right : (defScope s_law).names.lookup (Str.ofString "_law_right") = some NameKind.globalImplicit := by decide +kernel
theorem lk_law__law_rows : (defScope s_law).names.lookup (Str.ofString "_law_rows") = some NameKind.local := by decide +kernel
theorem lk_law__law_script : (defScope s_law).names.lookup (Str.ofString "_law_script") = some NameKind.local := by decide +kernel
theorem lk_law__law_signs : (defScope s_law).names.lookup (Str.ofString "_law_signs") = some NameKind.local := by decide +kernel
theorem lk_law__law_signs_as : (defScope s_law).names.lookup (Str.ofString "_law_signs_as") = some NameKind.globalImplicit := by decide +kernel
theorem lk_law_repr : (defScope s_law).names.lookup (Str.ofString "repr") = some NameKind.globalImplicit := by decide +kernel
def spLaw (K : PySem.W.Frag) : Sp := fun vs H Q _ => ∃ (a : Addr) (ns : List Int), vs = [.ref a] ∧ SqL K H a (ns.map V.int) ∧ ns.length ≤ 63 ∧ ∀ H', Q (.bl true) H'
theorem ok_law {C fI fL : Addr} {fdI fdL : FuncData} (F : Fun K "law" "law" s_law fL fdL) (Z : Bl mg) (D_law_cell : Def P w K mg base "_law_cell" 1 ["_law_script", "_law_k"] (spCell (K := K))) (D_law_pot : Def P w K mg base "_law_pot" 1 ["_law_cell_here"] spPot)
    (D_law_book : Def P w K mg base "_law_book" 3 ["_law_pot_here", "_law_most_kinds", "_law_most_signs"] spBook) (D_law_due : Def P w K mg base "_law_due" 1 ["_law_book_here"] spDue) (D_law_as : Def P w K mg base "_law_as" 2 ["_law_pot_here", "_law_row"] spAs)
    (D_law_signs_as : Def P w K mg base "_law_signs_as" 3 ["_law_pot_here", "_law_signs"] spSignsAs) (D_law_empty : Def P w K mg base "_law_empty" 1 ["_law_handed"] spEmpty) (D_law_right : Def P w K mg base "_law_right" 2 ["_law_signs", "_law_due_here"] (spRight C))
    (M_Signs : Mk K C fI) (G_Signs : FnOk P w K mg base CX0 5 fI fdI ["self", "kinds", "ties", "functions"] (spInit C)) (m_Signs : mg "Signs" = some (.ref C)) (b_Signs : Binds K fdI ["self", "kinds", "ties", "functions"] []) :
    FnOk P w K mg base CX0 7 fL fdL ["_law_script"] (spLaw K) := by
  have SC := sc_law
  refine F.ok (k := 6) sc_law (fun vs H Q E h => ?_) (fun cdv A outer s H vs Q E hr h => ?_)
  · obtain ⟨a, ns, rfl, _⟩ := h
    rfl
  · obtain ⟨aS, ns, rfl, hS, hns, q⟩ := h
    refine' ⟨_, ?derivation, ?_⟩
    case derivation =>
      refine' pss_cons ?h0 ?h1
      case h0 =>
        refine' ps_set (i := 1) (x := Str.ofString "_law_elder") ?h2 ?h3 ?h4 ?h5 ?h6 ?h7
        case h2 => exact SC.nd
        case h3 => exact rfl
        case h4 => exact (Or.inl lk_law__law_elder)
        case h5 => exact pe_non
        case h6 => rfl
        case h7 => exact .inl rfl
      case h1 =>
        refine' pss_cons ?h8 ?h9
        case h8 =>
          refine' ps_for ?h10 ?h11 ?h12 ?h13 ?h14 ?h15
          case h10 => exact PassesOwn.never
          case h11 => exact rfl
          case h12 =>
            refine' pi_list ?h16
            case h16 =>
              refine' pe_op ?h17 ?h18 ?h19
              case h17 => exact op_cat
              case h18 =>
                refine' pe_lst ?h20
                case h20 =>
                  refine' pa_cons ?h21 ?h22 ?h23
                  case h21 =>
                    refine' pe_def (hdb := nd_FJ__law_cell) ?h24 ?h25 ?h26 ?h27 ?h28 ?h29
                    case h24 => exact D_law_cell
                    case h25 => exact (hr.mono (by decide))
                    case h26 => exact lk_law__law_cell
                    case h27 =>
                      refine' pa_cons ?h30 ?h31 ?h32
                      case h30 => exact (pq 0 (x := Str.ofString "_law_script") (visL lk_law__law_script) nd_FJ__law_script nc_FJ__law_script)
                      case h31 =>
                        refine' pa_cons ?h33 ?h34 ?h35
                        case h33 => exact pe_int
                        case h34 => exact pa_nil
                        case h35 => rfl
                      case h32 => rfl
                    case h28 => rfl
                    case h29 => rfl
                  case h22 => exact pa_nil
                  case h23 => rfl
              case h19 =>
                refine' pe_slice ?h36 ?h37 ?h38 ?h39
                case h36 => exact sl_list
                case h37 => exact (pq 0 (x := Str.ofString "_law_script") (visL lk_law__law_script) nd_FJ__law_script nc_FJ__law_script)
                case h38 =>
                  refine' po_some ?h40
                  case h40 => exact pe_int
                case h39 =>
                  refine' po_some ?h41
                  case h41 => exact pe_int
          case h13 =>
            refine' pg_name (i := 2) (x := Str.ofString "_law_number") ?h42 ?h43 ?h44 ?h45
            case h42 => exact SC.nd
            case h43 => exact rfl
            case h44 => exact (Or.inl lk_law__law_number)
            case h45 => exact (.inl rfl)
          case h14 =>
            refine' pss_cons ?h46 ?h47
            case h46 =>
              refine' ps_set (i := 3) (x := Str.ofString "_law_pot_here") ?h48 ?h49 ?h50 ?h51 ?h52 ?h53
              case h48 => exact SC.nd
              case h49 => exact rfl
              case h50 => exact (Or.inl lk_law__law_pot_here)
              case h51 =>
                refine' pe_def (hdb := nd_FJ__law_pot) ?h54 ?h55 ?h56 ?h57 ?h58 ?h59
                case h54 => exact D_law_pot
                case h55 => exact (hr.mono (by decide))
                case h56 => exact lk_law__law_pot
                case h57 =>
                  refine' pa_cons ?h60 ?h61 ?h62
                  case h60 => exact (pq 2 (x := Str.ofString "_law_number") (visL lk_law__law_number) nd_FJ__law_number nc_FJ__law_number)
                  case h61 => exact pa_nil
                  case h62 => rfl
                case h58 => rfl
                case h59 => rfl
              case h52 => rfl
              case h53 => exact .inl rfl
            case h47 =>
              refine' pss_cons ?h63 ?h64
              case h63 =>
                refine' ps_set (i := 4) (x := Str.ofString "_law_book_here") ?h65 ?h66 ?h67 ?h68 ?h69 ?h70
                case h65 => exact SC.nd
                case h66 => exact rfl
                case h67 => exact (Or.inl lk_law__law_book_here)
                case h68 =>
                  refine' pe_def (hdb := nd_FJ__law_book) ?h71 ?h72 ?h73 ?h74 ?h75 ?h76
                  case h71 => exact D_law_book
                  case h72 => exact (hr.mono (by decide))
                  case h73 => exact lk_law__law_book
                  case h74 =>
                    refine' pa_cons ?h77 ?h78 ?h79
                    case h77 => exact (pq 3 (x := Str.ofString "_law_pot_here") (visL lk_law__law_pot_here) nd_FJ__law_pot_here nc_FJ__law_pot_here)
                    case h78 =>
                      refine' pa_cons ?h80 ?h81 ?h82
                      case h80 => exact pe_int
                      case h81 =>
                        refine' pa_cons ?h83 ?h84 ?h85
                        case h83 => exact pe_int
                        case h84 => exact pa_nil
                        case h85 => rfl
                      case h82 => rfl
                    case h79 => rfl
                  case h75 => rfl
                  case h76 => rfl
                case h69 => rfl
                case h70 => exact .inl rfl
              case h64 =>
                refine' pss_cons ?h86 ?h87
                case h86 =>
                  refine' ps_set (i := 5) (x := Str.ofString "_law_due_here") ?h88 ?h89 ?h90 ?h91 ?h92 ?h93
                  case h88 => exact SC.nd
                  case h89 => exact rfl
                  case h90 => exact (Or.inl lk_law__law_due_here)
                  case h91 =>
                    refine' pe_def (hdb := nd_FJ__law_due) ?h94 ?h95 ?h96 ?h97 ?h98 ?h99
                    case h94 => exact D_law_due
                    case h95 => exact (hr.mono (by decide))
                    case h96 => exact lk_law__law_due
                    case h97 =>
                      refine' pa_cons ?h100 ?h101 ?h102
                      case h100 => exact (pq 4 (x := Str.ofString "_law_book_here") (visL lk_law__law_book_here) nd_FJ__law_book_here nc_FJ__law_book_here)
                      case h101 => exact pa_nil
                      case h102 => rfl
                    case h98 => rfl
                    case h99 => rfl
                  case h92 => rfl
                  case h93 => exact .inl rfl
                case h87 =>
                  refine' pss_cons ?h103 ?h104
                  case h103 =>
                    refine' ps_set (i := 6) (x := Str.ofString "_law_rows") ?h105 ?h106 ?h107 ?h108 ?h109 ?h110
                    case h105 => exact SC.nd
                    case h106 => exact rfl
                    case h107 => exact (Or.inl lk_law__law_rows)
                    case h108 =>
                      refine' pe_lst ?h111
                      case h111 =>
                        refine' pa_cons ?h112 ?h113 ?h114
                        case h112 =>
                          refine' pe_def (hdb := nd_FJ__law_signs_as) ?h115 ?h116 ?h117 ?h118 ?h119 ?h120
                          case h115 => exact D_law_signs_as
                          case h116 => exact (hr.mono (by decide))
                          case h117 => exact lk_law__law_signs_as
                          case h118 =>
                            refine' pa_cons ?h121 ?h122 ?h123
                            case h121 => exact (pq 3 (x := Str.ofString "_law_pot_here") (visL lk_law__law_pot_here) nd_FJ__law_pot_here nc_FJ__law_pot_here)
                            case h122 =>
                              refine' pa_cons ?h124 ?h125 ?h126
                              case h124 =>
                                refine' pe_ix ?h127 ?h128 ?h129 ?h130
                                case h127 => exact ix_tup
                                case h128 => exact (pq 4 (x := Str.ofString "_law_book_here") (visL lk_law__law_book_here) nd_FJ__law_book_here nc_FJ__law_book_here)
                                case h129 => exact pe_int
                                case h130 =>
                                  intro _ _
                                  exact rfl
                              case h125 => exact pa_nil
                              case h126 => rfl
                            case h123 => rfl
                          case h119 => rfl
                          case h120 => rfl
                        case h113 =>
                          refine' pa_cons ?h131 ?h132 ?h133
                          case h131 =>
                            refine' pe_def (hdb := nd_FJ__law_signs_as) ?h134 ?h135 ?h136 ?h137 ?h138 ?h139
                            case h134 => exact D_law_signs_as
                            case h135 => exact (hr.mono (by decide))
                            case h136 => exact lk_law__law_signs_as
                            case h137 =>
                              refine' pa_cons ?h140 ?h141 ?h142
                              case h140 => exact (pq 3 (x := Str.ofString "_law_pot_here") (visL lk_law__law_pot_here) nd_FJ__law_pot_here nc_FJ__law_pot_here)
                              case h141 =>
                                refine' pa_cons ?h143 ?h144 ?h145
                                case h143 =>
                                  refine' pe_ix ?h146 ?h147 ?h148 ?h149
                                  case h146 => exact ix_tup
                                  case h147 => exact (pq 4 (x := Str.ofString "_law_book_here") (visL lk_law__law_book_here) nd_FJ__law_book_here nc_FJ__law_book_here)
                                  case h148 => exact pe_int
                                  case h149 =>
                                    intro _ _
                                    exact rfl
                                case h144 => exact pa_nil
                                case h145 => rfl
                              case h142 => rfl
                            case h138 => rfl
                            case h139 => rfl
                          case h132 => exact pa_nil
                          case h133 => rfl
                        case h114 => rfl
                    case h109 => rfl
                    case h110 => exact .inl rfl
                  case h104 =>
                    refine' pss_cons ?h150 ?h151
                    case h150 =>
                      refine' ps_set (i := 7) (x := Str.ofString "_law_handed") ?h152 ?h153 ?h154 ?h155 ?h156 ?h157
                      case h152 => exact SC.nd
                      case h153 => exact rfl
                      case h154 => exact (Or.inl lk_law__law_handed)
                      case h155 =>
                        refine' pe_lst ?h158
                        case h158 =>
                          refine' pa_cons ?h159 ?h160 ?h161
                          case h159 =>
                            refine' pe_def (hdb := nd_FJ__law_as) ?h162 ?h163 ?h164 ?h165 ?h166 ?h167
                            case h162 => exact D_law_as
                            case h163 => exact (hr.mono (by decide))
                            case h164 => exact lk_law__law_as
                            case h165 =>
                              refine' pa_cons ?h168 ?h169 ?h170
                              case h168 => exact (pq 3 (x := Str.ofString "_law_pot_here") (visL lk_law__law_pot_here) nd_FJ__law_pot_here nc_FJ__law_pot_here)
                              case h169 =>
                                refine' pa_cons ?h171 ?h172 ?h173
                                case h171 =>
                                  refine' pe_ix ?h174 ?h175 ?h176 ?h177
                                  case h174 => exact ix_tup
                                  case h175 => exact (pq 4 (x := Str.ofString "_law_book_here") (visL lk_law__law_book_here) nd_FJ__law_book_here nc_FJ__law_book_here)
                                  case h176 => exact pe_int
                                  case h177 =>
                                    intro _ _
                                    exact rfl
                                case h172 => exact pa_nil
                                case h173 => rfl
                              case h170 => rfl
                            case h166 => rfl
                            case h167 => rfl
                          case h160 =>
                            refine' pa_cons ?h178 ?h179 ?h180
                            case h178 =>
                              refine' pe_def (hdb := nd_FJ__law_as) ?h181 ?h182 ?h183 ?h184 ?h185 ?h186
                              case h181 => exact D_law_as
                              case h182 => exact (hr.mono (by decide))
                              case h183 => exact lk_law__law_as
                              case h184 =>
                                refine' pa_cons ?h187 ?h188 ?h189
                                case h187 => exact (pq 3 (x := Str.ofString "_law_pot_here") (visL lk_law__law_pot_here) nd_FJ__law_pot_here nc_FJ__law_pot_here)
                                case h188 =>
                                  refine' pa_cons ?h190 ?h191 ?h192
                                  case h190 =>
                                    refine' pe_ix ?h193 ?h194 ?h195 ?h196
                                    case h193 => exact ix_list
                                    case h194 => exact (pq 6 (x := Str.ofString "_law_rows") (visL lk_law__law_rows) nd_FJ__law_rows nc_FJ__law_rows)
                                    case h195 => exact pe_int
                                    case h196 =>
                                      intro _ _
                                      exact rfl
                                  case h191 => exact pa_nil
                                  case h192 => rfl
                                case h189 => rfl
                              case h185 => rfl
                              case h186 => rfl
                            case h179 =>
                              refine' pa_cons ?h197 ?h198 ?h199
                              case h197 =>
                                refine' pe_def (hdb := nd_FJ__law_as) ?h200 ?h201 ?h202 ?h203 ?h204 ?h205
                                case h200 => exact D_law_as
                                case h201 => exact (hr.mono (by decide))
                                case h202 => exact lk_law__law_as
                                case h203 =>
                                  refine' pa_cons ?h206 ?h207 ?h208
                                  case h206 => exact (pq 3 (x := Str.ofString "_law_pot_here") (visL lk_law__law_pot_here) nd_FJ__law_pot_here nc_FJ__law_pot_here)
                                  case h207 =>
                                    refine' pa_cons ?h209 ?h210 ?h211
                                    case h209 =>
                                      refine' pe_ix ?h212 ?h213 ?h214 ?h215
                                      case h212 => exact ix_list
                                      case h213 => exact (pq 6 (x := Str.ofString "_law_rows") (visL lk_law__law_rows) nd_FJ__law_rows nc_FJ__law_rows)
                                      case h214 => exact pe_int
                                      case h215 =>
                                        intro _ _
                                        exact rfl
                                    case h210 => exact pa_nil
                                    case h211 => rfl
                                  case h208 => rfl
                                case h204 => rfl
                                case h205 => rfl
                              case h198 => exact pa_nil
                              case h199 => rfl
                            case h180 => rfl
                          case h161 => rfl
                      case h156 => rfl
                      case h157 => exact .inl rfl
                    case h151 =>
                      refine' pss_cons ?h216 ?h217
                      case h216 =>
                        refine' ps_set (i := 8) (x := Str.ofString "_law_before") ?h218 ?h219 ?h220 ?h221 ?h222 ?h223
                        case h218 => exact SC.nd
                        case h219 => exact rfl
                        case h220 => exact (Or.inl lk_law__law_before)
                        case h221 =>
                          refine' pe_callB (hn := nn_FJ_repr) (hdb := nd_FJ_repr) ?h224 ?h225 ?h226 ?h227 ?h228 ?h229 ?h230
                          case h224 => exact (call_reprD hr)
                          case h225 => exact lk_law_repr
                          case h226 => exact Z.n_repr
                          case h227 => exact bt_repr
                          case h228 =>
                            refine' pa_cons ?h231 ?h232 ?h233
                            case h231 => exact (pq 7 (x := Str.ofString "_law_handed") (visL lk_law__law_handed) nd_FJ__law_handed nc_FJ__law_handed)
                            case h232 => exact pa_nil
                            case h233 => rfl
                          case h229 => rfl
                          case h230 => rfl
                        case h222 => rfl
                        case h223 => exact .inl rfl
                      case h217 =>
                        refine' pss_cons ?h234 ?h235
                        case h234 =>
                          refine' ps_set (i := 9) (x := Str.ofString "_law_signs") ?h236 ?h237 ?h238 ?h239 ?h240 ?h241
                          case h236 => exact SC.nd
                          case h237 => exact rfl
                          case h238 => exact (Or.inl lk_law__law_signs)
                          case h239 =>
                            refine' pe_make (hdb := nd_FJ_Signs) ?h242 ?h243 ?h244 ?h245 ?h246 ?h247 ?h248 ?h249 ?h250 ?h251 ?h252
                            case h242 => exact M_Signs
                            case h243 => exact G_Signs
                            case h244 => exact hr
                            case h245 => exact lk_law_Signs
                            case h246 => exact m_Signs
                            case h247 => exact b_Signs
                            case h248 => exact .nil
                            case h249 => exact pass0
                            case h250 =>
                              refine' pa_cons ?h253 ?h254 ?h255
                              case h253 =>
                                refine' pe_ix ?h256 ?h257 ?h258 ?h259
                                case h256 => exact ix_list
                                case h257 => exact (pq 7 (x := Str.ofString "_law_handed") (visL lk_law__law_handed) nd_FJ__law_handed nc_FJ__law_handed)
                                case h258 => exact pe_int
                                case h259 =>
                                  intro _ _
                                  exact rfl
                              case h254 =>
                                refine' pa_cons ?h260 ?h261 ?h262
                                case h260 =>
                                  refine' pe_ix ?h263 ?h264 ?h265 ?h266
                                  case h263 => exact ix_list
                                  case h264 => exact (pq 7 (x := Str.ofString "_law_handed") (visL lk_law__law_handed) nd_FJ__law_handed nc_FJ__law_handed)
                                  case h265 => exact pe_int
                                  case h266 =>
                                    intro _ _
                                    exact rfl
                                case h261 =>
                                  refine' pa_cons ?h267 ?h268 ?h269
                                  case h267 =>
                                    refine' pe_ix ?h270 ?h271 ?h272 ?h273
                                    case h270 => exact ix_list
                                    case h271 => exact (pq 7 (x := Str.ofString "_law_handed") (visL lk_law__law_handed) nd_FJ__law_handed nc_FJ__law_handed)
                                    case h272 => exact pe_int
                                    case h273 =>
                                      intro _ _
                                      exact rfl
                                  case h268 => exact pa_nil
                                  case h269 => rfl
                                case h262 => rfl
                              case h255 => rfl
                            case h251 => rfl
                            case h252 => rfl
                          case h240 => rfl
                          case h241 => exact .inl rfl
                        case h235 =>
                          refine' pss_cons ?h274 ?h275
                          case h274 =>
                            refine' ps_if ?h276 ?h277 ?h278
                            case h276 =>
                              refine' pt_cmpR ?h279 ?h280 ?h281 ?h282
                              case h279 => exact op_ne
                              case h280 =>
                                refine' pe_callB (hn := nn_FJ_repr) (hdb := nd_FJ_repr) ?h283 ?h284 ?h285 ?h286 ?h287 ?h288 ?h289
                                case h283 => exact (call_reprD hr)
                                case h284 => exact lk_law_repr
                                case h285 => exact Z.n_repr
                                case h286 => exact bt_repr
                                case h287 =>
                                  refine' pa_cons ?h290 ?h291 ?h292
                                  case h290 => exact (pq 7 (x := Str.ofString "_law_handed") (visL lk_law__law_handed) nd_FJ__law_handed nc_FJ__law_handed)
                                  case h291 => exact pa_nil
                                  case h292 => rfl
                                case h288 => rfl
                                case h289 => rfl
                              case h281 => exact (pq 8 (x := Str.ofString "_law_before") (visL lk_law__law_before) nd_FJ__law_before nc_FJ__law_before)
                              case h282 => exact (nomark _)
                            case h277 =>
                              refine' pss_one ?h293
                              case h293 =>
                                refine' ps_ret ?h294
                                case h294 => exact pe_bl
                            case h278 => exact pss_nil
                          case h275 =>
                            refine' pss_cons ?h295 ?h296
                            case h295 =>
                              refine' ps_expr ?h297 ?h298
                              case h297 =>
                                refine' pe_def (hdb := nd_FJ__law_empty) ?h299 ?h300 ?h301 ?h302 ?h303 ?h304
                                case h299 => exact D_law_empty
                                case h300 => exact (hr.mono (by decide))
                                case h301 => exact lk_law__law_empty
                                case h302 =>
                                  refine' pa_cons ?h305 ?h306 ?h307
                                  case h305 => exact (pq 7 (x := Str.ofString "_law_handed") (visL lk_law__law_handed) nd_FJ__law_handed nc_FJ__law_handed)
                                  case h306 => exact pa_nil
                                  case h307 => rfl
                                case h303 => rfl
                                case h304 => rfl
                              case h298 => rfl
                            case h296 =>
                              refine' pss_cons ?h308 ?h309
                              case h308 =>
                                refine' ps_if ?h310 ?h311 ?h312
                                case h310 =>
                                  refine' PW.pt ?h313
                                  case h313 =>
                                    refine' pw_or ?h314 ?h315
                                    case h314 =>
                                      refine' pt_not ?h316
                                      case h316 =>
                                        refine' pt_val ?h317 ?h318
                                        case h317 =>
                                          refine' pe_def (hdb := nd_FJ__law_right) ?h319 ?h320 ?h321 ?h322 ?h323 ?h324
                                          case h319 => exact D_law_right
                                          case h320 => exact (hr.mono (by decide))
                                          case h321 => exact lk_law__law_right
                                          case h322 =>
                                            refine' pa_cons ?h325 ?h326 ?h327
                                            case h325 => exact (pq 9 (x := Str.ofString "_law_signs") (visL lk_law__law_signs) nd_FJ__law_signs nc_FJ__law_signs)
                                            case h326 =>
                                              refine' pa_cons ?h328 ?h329 ?h330
                                              case h328 => exact (pq 5 (x := Str.ofString "_law_due_here") (visL lk_law__law_due_here) nd_FJ__law_due_here nc_FJ__law_due_here)
                                              case h329 => exact pa_nil
                                              case h330 => rfl
                                            case h327 => rfl
                                          case h323 => rfl
                                          case h324 => rfl
                                        case h318 => intro _; rfl
                                    case h315 =>
                                      refine' pw_or1 ?h331
                                      case h331 =>
                                        refine' PW.pt ?h332
                                        case h332 =>
                                          refine' pw_and ?h333 ?h334
                                          case h333 =>
                                            refine' pt_cmpR ?h335 ?h336 ?h337 ?h338
                                            case h335 => exact op_notN
                                            case h336 => exact (pq 1 (x := Str.ofString "_law_elder") (visL lk_law__law_elder) nd_FJ__law_elder nc_FJ__law_elder)
                                            case h337 => exact pe_non
                                            case h338 => exact (nomark _)
                                          case h334 =>
                                            refine' pw_and1 ?h339
                                            case h339 =>
                                              refine' pt_not ?h340
                                              case h340 =>
                                                refine' pt_val ?h341 ?h342
                                                case h341 =>
                                                  refine' pe_def (hdb := nd_FJ__law_right) ?h343 ?h344 ?h345 ?h346 ?h347 ?h348
                                                  case h343 => exact D_law_right
                                                  case h344 => exact (hr.mono (by decide))
                                                  case h345 => exact lk_law__law_right
                                                  case h346 =>
                                                    refine' pa_cons ?h349 ?h350 ?h351
                                                    case h349 =>
                                                      refine' pe_ix ?h352 ?h353 ?h354 ?h355
                                                      case h352 => exact ix_tup
                                                      case h353 => exact (pq 1 (x := Str.ofString "_law_elder") (visL lk_law__law_elder) nd_FJ__law_elder nc_FJ__law_elder)
                                                      case h354 => exact pe_int
                                                      case h355 =>
                                                        intro _ _
                                                        exact rfl
                                                    case h350 =>
                                                      refine' pa_cons ?h356 ?h357 ?h358
                                                      case h356 =>
                                                        refine' pe_ix ?h359 ?h360 ?h361 ?h362
                                                        case h359 => exact ix_tup
                                                        case h360 => exact (pq 1 (x := Str.ofString "_law_elder") (visL lk_law__law_elder) nd_FJ__law_elder nc_FJ__law_elder)
                                                        case h361 => exact pe_int
                                                        case h362 =>
                                                          intro _ _
                                                          exact rfl
                                                      case h357 => exact pa_nil
                                                      case h358 => rfl
                                                    case h351 => rfl
                                                  case h347 => rfl
                                                  case h348 => rfl
                                                case h342 => intro _; rfl
                                case h311 =>
                                  refine' pss_one ?h363
                                  case h363 =>
                                    refine' ps_ret ?h364
                                    case h364 => exact pe_bl
                                case h312 => exact pss_nil
                              case h309 =>
                                refine' pss_cons ?h365 ?h366
                                case h365 =>
                                  refine' ps_set (i := 10) (x := Str.ofString "_law_again") ?h367 ?h368 ?h369 ?h370 ?h371 ?h372
                                  case h367 => exact SC.nd
                                  case h368 => exact rfl
                                  case h369 => exact (Or.inl lk_law__law_again)
                                  case h370 =>
                                    refine' pe_make (hdb := nd_FJ_Signs) ?h373 ?h374 ?h375 ?h376 ?h377 ?h378 ?h379 ?h380 ?h381 ?h382 ?h383
                                    case h373 => exact M_Signs
                                    case h374 => exact G_Signs
                                    case h375 => exact hr
                                    case h376 => exact lk_law_Signs
                                    case h377 => exact m_Signs
                                    case h378 => exact b_Signs
                                    case h379 => exact .nil
                                    case h380 => exact pass0
                                    case h381 =>
                                      refine' pa_cons ?h384 ?h385 ?h386
                                      case h384 =>
                                        refine' pe_def (hdb := nd_FJ__law_as) ?h387 ?h388 ?h389 ?h390 ?h391 ?h392
                                        case h387 => exact D_law_as
                                        case h388 => exact (hr.mono (by decide))
                                        case h389 => exact lk_law__law_as
                                        case h390 =>
                                          refine' pa_cons ?h393 ?h394 ?h395
                                          case h393 => exact (pq 3 (x := Str.ofString "_law_pot_here") (visL lk_law__law_pot_here) nd_FJ__law_pot_here nc_FJ__law_pot_here)
                                          case h394 =>
                                            refine' pa_cons ?h396 ?h397 ?h398
                                            case h396 =>
                                              refine' pe_ix ?h399 ?h400 ?h401 ?h402
                                              case h399 => exact ix_tup
                                              case h400 => exact (pq 5 (x := Str.ofString "_law_due_here") (visL lk_law__law_due_here) nd_FJ__law_due_here nc_FJ__law_due_here)
                                              case h401 => exact pe_int
                                              case h402 =>
                                                intro _ _
                                                exact rfl
                                            case h397 => exact pa_nil
                                            case h398 => rfl
                                          case h395 => rfl
                                        case h391 => rfl
                                        case h392 => rfl
                                      case h385 =>
                                        refine' pa_cons ?h403 ?h404 ?h405
                                        case h403 =>
                                          refine' pe_def (hdb := nd_FJ__law_as) ?h406 ?h407 ?h408 ?h409 ?h410 ?h411
                                          case h406 => exact D_law_as
                                          case h407 => exact (hr.mono (by decide))
                                          case h408 => exact lk_law__law_as
                                          case h409 =>
                                            refine' pa_cons ?h412 ?h413 ?h414
                                            case h412 => exact (pq 3 (x := Str.ofString "_law_pot_here") (visL lk_law__law_pot_here) nd_FJ__law_pot_here nc_FJ__law_pot_here)
                                            case h413 =>
                                              refine' pa_cons ?h415 ?h416 ?h417
                                              case h415 =>
                                                refine' pe_ix ?h418 ?h419 ?h420 ?h421
                                                case h418 => exact ix_tup
                                                case h419 => exact (pq 5 (x := Str.ofString "_law_due_here") (visL lk_law__law_due_here) nd_FJ__law_due_here nc_FJ__law_due_here)
                                                case h420 => exact pe_int
                                                case h421 =>
                                                  intro _ _
                                                  exact rfl
                                              case h416 => exact pa_nil
                                              case h417 => rfl
                                            case h414 => rfl
                                          case h410 => rfl
                                          case h411 => rfl
                                        case h404 =>
                                          refine' pa_cons ?h422 ?h423 ?h424
                                          case h422 =>
                                            refine' pe_def (hdb := nd_FJ__law_as) ?h425 ?h426 ?h427 ?h428 ?h429 ?h430
                                            case h425 => exact D_law_as
                                            case h426 => exact (hr.mono (by decide))
                                            case h427 => exact lk_law__law_as
                                            case h428 =>
                                              refine' pa_cons ?h431 ?h432 ?h433
                                              case h431 => exact (pq 3 (x := Str.ofString "_law_pot_here") (visL lk_law__law_pot_here) nd_FJ__law_pot_here nc_FJ__law_pot_here)
                                              case h432 =>
                                                refine' pa_cons ?h434 ?h435 ?h436
                                                case h434 =>
                                                  refine' pe_ix ?h437 ?h438 ?h439 ?h440
                                                  case h437 => exact ix_tup
                                                  case h438 => exact (pq 5 (x := Str.ofString "_law_due_here") (visL lk_law__law_due_here) nd_FJ__law_due_here nc_FJ__law_due_here)
                                                  case h439 => exact pe_int
                                                  case h440 =>
                                                    intro _ _
                                                    exact rfl
                                                case h435 => exact pa_nil
                                                case h436 => rfl
                                              case h433 => rfl
                                            case h429 => rfl
                                            case h430 => rfl
                                          case h423 => exact pa_nil
                                          case h424 => rfl
                                        case h405 => rfl
                                      case h386 => rfl
                                    case h382 => rfl
                                    case h383 => rfl
                                  case h371 => rfl
                                  case h372 => exact .inl rfl
                                case h366 =>
                                  refine' pss_cons ?h441 ?h442
                                  case h441 =>
                                    refine' ps_if ?h443 ?h444 ?h445
                                    case h443 =>
                                      refine' PW.pt ?h446
                                      case h446 =>
                                        refine' pw_or ?h447 ?h448
                                        case h447 =>
                                          refine' pt_not ?h449
                                          case h449 =>
                                            refine' pt_val ?h450 ?h451
                                            case h450 =>
                                              refine' pe_def (hdb := nd_FJ__law_right) ?h452 ?h453 ?h454 ?h455 ?h456 ?h457
                                              case h452 => exact D_law_right
                                              case h453 => exact (hr.mono (by decide))
                                              case h454 => exact lk_law__law_right
                                              case h455 =>
                                                refine' pa_cons ?h458 ?h459 ?h460
                                                case h458 => exact (pq 10 (x := Str.ofString "_law_again") (visL lk_law__law_again) nd_FJ__law_again nc_FJ__law_again)
                                                case h459 =>
                                                  refine' pa_cons ?h461 ?h462 ?h463
                                                  case h461 => exact (pq 5 (x := Str.ofString "_law_due_here") (visL lk_law__law_due_here) nd_FJ__law_due_here nc_FJ__law_due_here)
                                                  case h462 => exact pa_nil
                                                  case h463 => rfl
                                                case h460 => rfl
                                              case h456 => rfl
                                              case h457 => rfl
                                            case h451 => intro _; rfl
                                        case h448 =>
                                          refine' pw_or1 ?h464
                                          case h464 =>
                                            refine' pt_not ?h465
                                            case h465 =>
                                              refine' pt_val ?h466 ?h467
                                              case h466 =>
                                                refine' pe_def (hdb := nd_FJ__law_right) ?h468 ?h469 ?h470 ?h471 ?h472 ?h473
                                                case h468 => exact D_law_right
                                                case h469 => exact (hr.mono (by decide))
                                                case h470 => exact lk_law__law_right
                                                case h471 =>
                                                  refine' pa_cons ?h474 ?h475 ?h476
                                                  case h474 => exact (pq 9 (x := Str.ofString "_law_signs") (visL lk_law__law_signs) nd_FJ__law_signs nc_FJ__law_signs)
                                                  case h475 =>
                                                    refine' pa_cons ?h477 ?h478 ?h479
                                                    case h477 => exact (pq 5 (x := Str.ofString "_law_due_here") (visL lk_law__law_due_here) nd_FJ__law_due_here nc_FJ__law_due_here)
                                                    case h478 => exact pa_nil
                                                    case h479 => rfl
                                                  case h476 => rfl
                                                case h472 => rfl
                                                case h473 => rfl
                                              case h467 => intro _; rfl
                                    case h444 =>
                                      refine' pss_one ?h480
                                      case h480 =>
                                        refine' ps_ret ?h481
                                        case h481 => exact pe_bl
                                    case h445 => exact pss_nil
                                  case h442 =>
                                    refine' pss_one ?h482
                                    case h482 =>
                                      refine' ps_set (i := 1) (x := Str.ofString "_law_elder") ?h483 ?h484 ?h485 ?h486 ?h487 ?h488
                                      case h483 => exact SC.nd
                                      case h484 => exact rfl
                                      case h485 => exact (Or.inl lk_law__law_elder)
                                      case h486 =>
                                        refine' pe_tup ?h489
                                        case h489 =>
                                          refine' pa_cons ?h490 ?h491 ?h492
                                          case h490 => exact (pq 9 (x := Str.ofString "_law_signs") (visL lk_law__law_signs) nd_FJ__law_signs nc_FJ__law_signs)
                                          case h491 =>
                                            refine' pa_cons ?h493 ?h494 ?h495
                                            case h493 => exact (pq 5 (x := Str.ofString "_law_due_here") (visL lk_law__law_due_here) nd_FJ__law_due_here nc_FJ__law_due_here)
                                            case h494 => exact pa_nil
                                            case h495 => rfl
                                          case h492 => rfl
                                      case h487 => rfl
                                      case h488 => exact .inl rfl
          case h15 => intro _; rfl
        case h9 =>
          refine' pss_one ?h496
          case h496 =>
            refine' ps_ret ?h497
            case h497 => exact pe_bl
    refine ⟨_, rfl, aS, ns, 0, rfl, hS, fun n0 => ?_⟩
    refine ⟨by show 1 ≤ sizeLine; decide, fun l1 hl1 => ?_⟩
    have s1 := same_new hl1 (.lst [.int n0])
    refine ⟨_, rfl, _, rfl, _, rfl, aS, _, rfl, s1.seq hS, fun l2 hl2 => ?_⟩
    have s2 := same_new hl2 (.lst (cutV (ns.map V.int) (some 1) (some 8)))
    have cl := cutV_length (ns.map V.int) (some 1) (some 8)
    rw [List.length_map] at cl
    refine ⟨l1, l2, _, _, rfl, rfl, s2 _ _ upd_same, upd_same, Nat.le_trans (show 1 + (cutV (ns.map V.int) (some 1) (some 8)).length ≤ 100 by omega) (by decide), fun L hL => ?_⟩
    generalize hxs : [V.int n0] ++ cutV (ns.map V.int) (some 1) (some 8) = xs
    have allI : ∀ y ∈ xs, ∃ z, y = V.int z := fun y hy => by
      rw [← hxs] at hy
      rcases List.mem_append.mp hy with hy | hy
      · exact ⟨n0, List.mem_singleton.mp hy⟩
      · obtain ⟨z, _, rfl⟩ := List.mem_map.mp (mem_cut hy)
        exact ⟨z, rfl⟩
    have hLx : (upd (upd (upd H l1 (.lst [.int n0])) l2 (.lst (cutV (ns.map V.int) (some 1) (some 8)))) L (.lst xs)) L = some (.lst xs) := upd_same
    generalize (upd (upd (upd H l1 (.lst [.int n0])) l2 (.lst (cutV (ns.map V.int) (some 1) (some 8)))) L (.lst xs)) = HL at hLx
    refine ⟨L, rfl, ⟨_, SqL.of hLx⟩, for_list (K := K) (a := L) (xs := xs) (fun i σ H2 => ∃ e v2 v3 v4 v5 v6 v7 v8 v9 v10, σ = [some (.ref aS), some e, v2, v3, v4, v5, v6, v7, v8, v9, v10] ∧ Same HL H2 ∧ Elder C H2 e)
      ⟨.non, none, none, none, none, none, none, none, none, none, rfl, Same.refl _, .inl rfl⟩ (fun i σ H2 _ ⟨_, _, _, _, _, _, _, _, _, _, _, z, _⟩ => SqL.of (z _ _ hLx)) ?_ ?_⟩
    case refine_2 =>
      rintro σ H2 ⟨e, v2, v3, v4, v5, v6, v7, v8, v9, v10, rfl, _, _⟩
      exact q H2
    rintro i y σ H2 hi ⟨e, v2, v3, v4, v5, v6, v7, v8, v9, v10, rfl, sL, hel⟩
    obtain ⟨n, rfl⟩ := allI y (List.mem_of_getElem? hi)
    -- pot, book, due
    refine ⟨_, rfl, n, rfl, fun p H3 hp pot3 s3 => ?_⟩
    refine ⟨_, rfl, p, 4, 8, rfl, pot3, by decide, by decide, by decide, fun bv H4 ks ts fs rb ok _ _ W4 => ?_⟩
    have sl := ok.sl
    have np3 : ∀ a, H3 a = none → a ≠ p := fun a e => by rintro rfl; obtain ⟨o, e2⟩ := pot3.some; rw [e] at e2; cases e2
    refine ⟨_, rfl, bv, _, ks, ts, fs, rfl, rb, by omega, by omega, fun dv H5 rd s5 => ?_⟩
    have W5 : Went p H3 H5 := ⟨W4.pot.keep s5, W4.same.same s5⟩
    have rb5 : RdV (fun a => a ≠ p) H5 bv (bookL ks ts fs) := (rb.same s5).mono (fun a z => np3 a z) fun _ _ _ e => e
    have np5 : ∀ a, H5 a = none → a ≠ p := fun a e => np3 a (W5.free e)
    have np4 : ∀ a, H4 a = none → a ≠ p := fun a e => np3 a (W4.free e)
    have rd5 : RdV (fun a => a ≠ p ∧ ∃ o, H5 a = some o) H5 dv (dueD ks ts fs) := (rdv_alive rd).mono (fun a z => ⟨np4 a z.1, z.2⟩) fun _ _ _ e => e
    obtain ⟨bA, bx, rfl, nbp, hb5, hbx⟩ := rb5.tuple_inv
    obtain ⟨kv, tv, fv, rfl, hk5, ht5, hf5⟩ := hbx.three
    obtain ⟨kA, kx, rfl, nkp, hkA5, hkx⟩ := hk5.list_inv
    obtain rfl := hkx.strs_inv
    -- rows
    refine ⟨_, rfl, _, rfl, bA, _, _, _, rfl, rfl, SqT.of hb5, rfl, p, tv, ts.map tieRow, rfl, W5.pot, by rw [rows_ties]; exact ht5, by rw [List.length_map]; omega, (fun r hr => by obtain ⟨t, _, rfl⟩ := List.mem_map.mp hr; exact Nat.zero_le _), fun r1 H6 ab hr1 hr1' sg1 nd1 fr1 W6 => ?_⟩
    refine ⟨_, rfl, _, rfl, bA, _, _, _, rfl, rfl, SqT.of (W6.at nbp hb5), rfl, p, fv, fs.map funRow, rfl, W6.pot, by rw [rows_funs]; exact RdV.keepX (fun _ z => z) hf5 W6.same, by rw [List.length_map]; omega, (fun r hr => by obtain ⟨t, _, rfl⟩ := List.mem_map.mp hr; exact Nat.le_refl _), fun r2 H7 cd hr2 hr2' sg2 nd2 fr2 W7 => ?_⟩
    refine ⟨by show 2 ≤ sizeLine; decide, fun R hR => ?_⟩
    have W57 := W6.trans W7
    have W8 := W57.new hR (.lst [.ref r1, .ref r2])
    have hR8 : (upd H7 R (.lst [.ref r1, .ref r2])) R = some (.lst [.ref r1, .ref r2]) := upd_same
    have s78 := same_new hR (.lst [.ref r1, .ref r2])
    have nr1 : r1 ≠ p := np5 _ hr1
    have nr2 : r2 ≠ p := np5 _ (W6.free hr2)
    have nR : R ≠ p := np5 _ (W57.free hR)
    have nab : ∀ a ∈ flat ab, a ≠ p := fun a ha => np5 a (fr1 a ha)
    have fr2' : ∀ a ∈ flat cd, H5 a = none := fun a ha => W6.free (fr2 a ha)
    have ncd : ∀ a ∈ flat cd, a ≠ p := fun a ha => np5 a (fr2' a ha)
    have r1_8 := s78 _ _ (W7.at nr1 hr1')
    have r2_8 := s78 _ _ hr2'
    have sg1_8 := (sg1.keepX nab W7.same).same s78
    have sg2_8 := sg2.same s78
    have b8 := W8.at nbp hb5
    have k8 := W8.at nkp hkA5
    have abcd : ∀ a ∈ flat ab, ¬ a ∈ flat cd := fun a ha hc => by
      obtain ⟨o, e⟩ := sg1.in a ha
      rw [fr2 a hc] at e; cases e
    generalize (upd H7 R (.lst [.ref r1, .ref r2])) = H8 at W8 hR8 r1_8 r2_8 sg1_8 sg2_8 b8 k8 s78
    -- handed
    refine ⟨_, rfl, _, rfl, bA, _, _, _, rfl, rfl, SqT.of b8, rfl, p, kA, _, rfl, W8.pot, k8, fun a H9 ha hA9 W9 => ?_⟩
    have na : a ≠ p := np5 _ (W8.free ha)
    have W59 := W8.trans W9
    refine ⟨_, rfl, _, rfl, R, _, _, _, rfl, rfl, SqL.of (W9.at nR hR8), rfl, p, r1, _, rfl, W9.pot, W9.at nr1 r1_8, fun b H10 hb hB10 W10 => ?_⟩
    have nb : b ≠ p := np5 _ (W59.free hb)
    have W510 := W59.trans W10
    refine ⟨_, rfl, _, rfl, R, _, _, _, rfl, rfl, SqL.of (W10.at nR (W9.at nR hR8)), rfl, p, r2, _, rfl, W10.pot, W10.at nr2 (W9.at nr2 r2_8), fun c H11 hc hC11 W11 => ?_⟩
    have nc : c ≠ p := np5 _ (W510.free hc)
    have W511 := W510.trans W11
    refine ⟨by show 3 ≤ sizeLine; decide, fun h hh => ?_⟩
    have W12 := W511.new hh (.lst [.ref a, .ref b, .ref c])
    have s12 := same_new hh (.lst [.ref a, .ref b, .ref c])
    have hh12 : (upd H11 h (.lst [.ref a, .ref b, .ref c])) h = some (.lst [.ref a, .ref b, .ref c]) := upd_same
    have LA9 : LT H9 a (ks.map V.str) := hA9
    have LB10 : LT H10 b (ab.map fun q => V.ref q.1) := hB10
    have LC11 : LT H11 c (cd.map fun q => V.ref q.1) := hC11
    have LA11 : LT H11 a (ks.map V.str) := LA9.mono fun o e => W11.at na (W10.at na e)
    have LB11 : LT H11 b (ab.map fun q => V.ref q.1) := LB10.mono fun o e => W11.at nb e
    have hd11 : Hand H11 a b c ab cd ks ts fs := ⟨LA11, LB11, ((sg1_8.keepX nab W9.same).keepX nab W10.same).keepX nab W11.same, LC11, ((sg2_8.keepX ncd W9.same).keepX ncd W10.same).keepX ncd W11.same⟩
    have hd12 := hd11.same s12
    -- no address twice
    have in8 : ∀ z, z ∈ flat ab ∨ z ∈ flat cd → ∃ o, H8 z = some o := fun z hz => hz.elim (fun hz => sg1_8.in z hz) fun hz => sg2_8.in z hz
    have npz : ∀ z, z ∈ flat ab ∨ z ∈ flat cd → z ≠ p := fun z hz => hz.elim (nab z) (ncd z)
    have aF : ¬ (a ∈ flat ab ∨ a ∈ flat cd) := fun z => by obtain ⟨o, e⟩ := in8 a z; rw [ha] at e; cases e
    have bF : ¬ (b ∈ flat ab ∨ b ∈ flat cd) := fun z => by obtain ⟨o, e⟩ := in8 b z; rw [W9.free hb] at e; cases e
    have cF : ¬ (c ∈ flat ab ∨ c ∈ flat cd) := fun z => by obtain ⟨o, e⟩ := in8 c z; rw [W9.free (W10.free hc)] at e; cases e
    have hF : ¬ (h ∈ flat ab ∨ h ∈ flat cd) := fun z => by obtain ⟨o, e⟩ := in8 h z; rw [W9.free (W10.free (W11.free hh))] at e; cases e
    have nab' : a ≠ b := by rintro rfl; obtain ⟨o, e⟩ := LA9.some; rw [hb] at e; cases e
    have nac : a ≠ c := by rintro rfl; obtain ⟨o, e⟩ := LA9.some; rw [W10.at na e] at hc; cases hc
    have nbc : b ≠ c := by rintro rfl; obtain ⟨o, e⟩ := LB10.some; rw [hc] at e; cases e
    have nha : h ≠ a := by rintro rfl; obtain ⟨o, e⟩ := LA11.some; rw [hh] at e; cases e
    have nhb : h ≠ b := by rintro rfl; obtain ⟨o, e⟩ := LB11.some; rw [hh] at e; cases e
    have nhc : h ≠ c := by rintro rfl; obtain ⟨o, e⟩ := LC11.some; rw [hh] at e; cases e
    have fpd : ([(a, []), (b, flat ab), (c, flat cd)] : List (Addr × List Addr)).flatMap (fun q => q.1 :: q.2) = a :: b :: (flat ab ++ c :: flat cd) := by simp
    have ndup : (h :: a :: b :: (flat ab ++ c :: flat cd)).Nodup := by
      have n1 := (List.nodup_cons.mp nd1).2
      have n2 := (List.nodup_cons.mp nd2).2
      simp only [List.nodup_cons, List.mem_cons, List.mem_append, List.nodup_append, not_or] at *
      refine ⟨⟨nha, nhb, hF.1, nhc, hF.2⟩, ⟨nab', aF.1, nac, aF.2⟩, ⟨bF.1, nbc, bF.2⟩, n1, ⟨cF.2, n2⟩, fun x hx y hy => ?_⟩
      rintro rfl
      rcases hy with rfl | hy
      · exact cF.1 hx
      · exact abcd x hx hy
    have fpN : ∀ z ∈ a :: b :: (flat ab ++ c :: flat cd), H5 z = none := fun z hz => by
      simp only [List.mem_cons, List.mem_append] at hz
      rcases hz with rfl | rfl | hz | rfl | hz
      · exact W8.free ha
      · exact W59.free hb
      · exact fr1 z hz
      · exact W510.free hc
      · exact fr2' z hz
    have in12 : ∀ z ∈ a :: b :: (flat ab ++ c :: flat cd), ∃ o, (upd H11 h (.lst [.ref a, .ref b, .ref c])) z = some o := fun z hz => by
      simp only [List.mem_cons, List.mem_append] at hz
      rcases hz with rfl | rfl | hz | rfl | hz
      · exact hd12.kA.some
      · exact hd12.tA.some
      · exact hd12.tS.in z hz
      · exact hd12.fA.some
      · exact hd12.fS.in z hz
    have rd12 := RdV.keepX (fun _ z => z.1) rd5 W12.same
    have h212 : ∀ z o, H2 z = some o → (upd H11 h (.lst [.ref a, .ref b, .ref c])) z = some o := fun z o e => W12.at (by rintro rfl; rw [hp] at e; cases e) (W5.at (by rintro rfl; rw [hp] at e; cases e) (s3 z o e))
    have fp2 : ∀ z ∈ a :: b :: (flat ab ++ c :: flat cd), H2 z = none := fun z hz => s3.free (W5.free (fpN z hz))
    have pfp : ¬ p ∈ a :: b :: (flat ab ++ c :: flat cd) := fun z => np5 p (fpN p z) rfl
    have pot12 := W12.pot
    generalize (upd H11 h (.lst [.ref a, .ref b, .ref c])) = H12 at hh12 hd12 in12 rd12 h212 pot12
    clear W12 s12 hd11 LA11 LB11 LC11 LB10 LA9 W511 W510 W59 W11 W10 W9 W8 W57 W7 W6
    -- before, Signs
    obtain ⟨dh, rh, ph⟩ := hd12.prd ok hh12
    obtain ⟨p1, p2, p3, p4⟩ := ph.fits (by decide) (by decide)
    refine ⟨_, rfl, h, dh, rfl, rh.toV, p1, p2, p3, p4, ?_⟩
    refine ⟨_, rfl, h, _, _, _, rfl, rfl, SqL.of hh12, rfl, _, rfl, h, _, _, _, rfl, rfl, SqL.of hh12, rfl, _, rfl, h, _, _, _, rfl, rfl, SqL.of hh12, rfl, ?_⟩
    intro x dx hx hdx ndx
    have s13 : Same H12 (upd (upd H12 dx (.own x)) x (.ins C dx [])) := fun z o e => by rw [upd_ne (ne_of_none e hx), upd_ne (ne_of_none e hdx)]; exact e
    have hd13 := hd12.same s13
    refine ⟨x, dx, a, b, c, ab, cd, ks, ts, fs, rfl, upd_same, hd13.kA, hd13.tA, hd13.tS, hd13.fA, hd13.fS, ok, fun H14 S14 X14 => ⟨rfl, ?_⟩⟩
    have s14 : Same H12 H14 := fun z o e => X14 z o (ne_of_none e hx) (s13 z o e)
    refine ⟨_, rfl, h, dh, rfl, (rh.same s14).toV, p1, p2, p3, p4, _, rfl, rfl, _, rfl, iteNS rfl ?_⟩
    -- empty
    have hd14 := hd12.same s14
    refine ⟨_, rfl, h, [(a, []), (b, flat ab), (c, flat cd)], rfl, s14 _ _ hh12, ?_, by rw [fpd]; exact ndup, fun H15 B15 => ?_⟩
    · intro q hq
      rcases List.mem_cons.mp hq with rfl | hq
      · exact rowOk_strs hd14.kA
      · rcases List.mem_cons.mp hq with rfl | hq
        · exact rowOk_sgs hd14.tA hd14.tS
        · rw [List.mem_singleton.mp hq]; exact rowOk_sgs hd14.fA hd14.fS
    rw [fpd] at B15
    have xfp : ¬ x ∈ a :: b :: (flat ab ++ c :: flat cd) := fun z => by obtain ⟨o, e⟩ := in12 x z; rw [hx] at e; cases e
    have S15 : SignsAt C H15 x ks ts fs := S14.keep (fun o e => B15.keep x o xfp e) B15.tups
    have rd15 : RdV (fun a => a ≠ p ∧ ∃ o, H5 a = some o) H15 dv (dueD ks ts fs) := (rd12.same s14).mono (fun _ z => z) fun z o hz e => B15.keep z o (fun hm => by obtain ⟨_, o', e'⟩ := hz; rw [fpN z hm] at e'; cases e') e
    have h215 : Same H2 H15 := fun z o e => B15.keep z o (fun hm => by rw [fp2 z hm] at e; cases e) (s14 z o (h212 z o e))
    have pot15 : PotAt H15 p := by
      obtain ⟨u1, u2, u3, e, r⟩ := pot12
      exact ⟨u1, u2, u3, B15.keep p _ pfp (s14 _ _ e), r⟩
    have nxp : x ≠ p := by rintro rfl; obtain ⟨o, e⟩ := pot12.some; rw [hx] at e; cases e
    clear B15 hd14 hd13 X14 S14 s14 s13 rh rd12 h212 pot12 in12 hh12 hd12
    -- right
    dsimp only
    refine seq_mid (fun σ H17 => σ = [some (.ref aS), some e, some (.int n), some (.ref p), some (.ref bA), some dv, some (.ref R), some (.ref h), some (.str dh.shown), some (.ref x), v10] ∧ Same H15 H17) ?_ fun key => ?_
    case refine_2 =>
      refine ⟨_, rfl, _, rfl, x, dv, ks, ts, fs, rfl, S15, ok, rdv_any rd15, fun H16 s16 => ⟨true, rfl, iteF ?_⟩⟩
      rcases hel.same (h215.trans s16) with rfl | ⟨t, x0, v0, ks0, ts0, fs0, rfl, h1, h2, h3, h4⟩
      · exact ⟨_, rfl, rfl, _, rfl, ifF (by simp) (iteF (key _ _ ⟨rfl, s16⟩))⟩
      · refine ⟨_, rfl, rfl, _, rfl, ifT (by simp) ?_⟩
        exact ⟨_, rfl, t, _, _, _, rfl, rfl, SqT.of h1, rfl, _, rfl, t, _, _, _, rfl, rfl, SqT.of h1, rfl, x0, v0, ks0, ts0, fs0, rfl, h2, h3, h4, fun H17 s17 => ⟨true, rfl, iteF (key _ _ ⟨rfl, s16.trans s17⟩)⟩⟩
    rintro σ H17 ⟨rfl, s17⟩
    have pot17 := pot15.keep s17
    have S17 := S15.same s17
    have rd17 := rd15.same s17
    have h217 := h215.trans s17
    clear pot15 S15 rd15 h215 s17
    obtain ⟨dA, dl, rfl, ndA, hdA, hdl⟩ := rd17.tuple_inv
    obtain ⟨kv', tv', fv', rfl, hk', ht', hf'⟩ := hdl.three
    obtain ⟨kd, kl, rfl, nkd, hkd, hkl⟩ := hk'.list_inv
    obtain rfl := hkl.strs_inv
    obtain ⟨td, tl, rfl, ntd, htd, htl⟩ := ht'.list_inv
    obtain ⟨fd', fl, rfl, nfd, hfd, hfl⟩ := hf'.list_inv
    -- again
    refine ⟨_, rfl, _, rfl, dA, _, _, _, rfl, rfl, SqT.of hdA, rfl, p, kd, _, rfl, pot17, hkd, fun a' H18 ha' hA' W18 => ?_⟩
    have na' : a' ≠ p := by rintro rfl; obtain ⟨o, e⟩ := pot17.some; rw [ha'] at e; cases e
    refine ⟨_, rfl, _, rfl, dA, _, _, _, rfl, rfl, SqT.of (W18.at ndA.1 hdA), rfl, p, td, _, rfl, W18.pot, W18.at ntd.1 htd, fun b' H19 hb' hB' W19 => ?_⟩
    have nb' : b' ≠ p := by rintro rfl; obtain ⟨o, e⟩ := W18.pot.some; rw [hb'] at e; cases e
    have W1719 := W18.trans W19
    refine ⟨_, rfl, _, rfl, dA, _, _, _, rfl, rfl, SqT.of (W1719.at ndA.1 hdA), rfl, p, fd', _, rfl, W19.pot, W1719.at nfd.1 hfd, fun c' H20 hc' hC' W20 => ?_⟩
    have W1720 := W1719.trans W20
    intro x' dx' hx' hdx' ndx'
    have LA' : LT H20 a' (ks.map V.str) := (show LT H18 a' (ks.map V.str) from hA').mono fun o e => W20.at na' (W19.at na' e)
    have LB' : LT H20 b' tl := (show LT H19 b' tl from hB').mono fun o e => W20.at nb' e
    have LC' : LT H20 c' fl := hC'
    have rd20 := RdV.keepX (fun _ z => z.1) rd17 W1720.same
    obtain ⟨ab', rfl, sgt⟩ := ties_sgs (htl.mono (fun _ z => z) fun a o z e => W1720.at z.1 e)
    obtain ⟨cd', rfl, sgf⟩ := funs_sgs (hfl.mono (fun _ z => z) fun a o z e => W1720.at z.1 e)
    have s21 : Same H20 (upd (upd H20 dx' (.own x')) x' (.ins C dx' [])) := fun z o e => by rw [upd_ne (ne_of_none e hx'), upd_ne (ne_of_none e hdx')]; exact e
    refine ⟨x', dx', a', b', c', ab', cd', ks, ts, fs, rfl, upd_same, LA'.same s21, LB'.same s21, sgt.same s21, LC'.same s21, sgf.same s21, ok, fun H22 S22 X22 => ⟨rfl, ?_⟩⟩
    have s22 : Same H20 H22 := fun z o e => X22 z o (ne_of_none e hx') (s21 z o e)
    have rd22 := rd20.same s22
    have X1722 : SameX p H17 H22 := W1720.same.same s22
    refine ⟨_, rfl, _, rfl, x', _, ks, ts, fs, rfl, S22, ok, rdv_any rd22, fun H23 s23 => ⟨true, rfl, iteF ?_⟩⟩
    have X1723 := X1722.same s23
    have S23 : SignsAt C H23 x ks ts fs := S17.keep (fun o e => X1723 x o nxp e) (pot_tups pot17 X1723)
    have rd23 := rd22.same s23
    refine ⟨_, rfl, _, rfl, x, _, ks, ts, fs, rfl, S23, ok, rdv_any rd23, fun H24 s24 => ⟨true, rfl, iteF ?_⟩⟩
    refine ⟨_, rfl, _, rfl, by show 2 ≤ sizeLine; decide, fun t ht => ?_⟩
    have s25 := same_new ht (.tup [.ref x, .ref dA])
    have X1725 := (X1723.same s24).same s25
    have s225 : Same H2 _ := fun z o e => X1725 z o (by rintro rfl; rw [hp] at e; cases e) (h217 z o e)
    refine ⟨.ref t, _, _, _, _, _, _, _, _, _, rfl, sL.trans s225, .inr ⟨t, x, .ref dA, ks, ts, fs, rfl, upd_same, (S23.same s24).same s25, ok, ((rdv_any rd23).same s24).same s25⟩⟩
end
end Few

set_option Elab.async false
set_option linter.all false
set_option maxRecDepth 100000
set_option maxHeartbeats 4000000
namespace Few
open PySem L2
theorem funAt_mk {K : PySem.W.Frag} {h : Heap} {mg : Str → Option Value} {x : Str} {st : Stmt} {ps : List Str} {f : Addr} {oc kV dc pm cd ct : Value} {od an : Option Addr} {sl : Array (Option Value)} (X : K.In h) (G : h.Ns mainGlobals mg)
    (a : PySem.W.nsIn K mainGlobals x = some (some (.ref f))) (l : K.lookup f = some ⟨oc, od, .func (PySem.W.fnOf x x (defArgs st) (defBody st) (defScope st) .none kV dc pm an cd ct), sl⟩) (c : PySem.W.codeIn K cd x = true) (k : PySem.W.keepIn K (.ref f) = true)
    (b : ∀ (kV doc pm : Value) (an : Option Addr) (cdv ct : Value) (us : List Value), us.length = ps.length → bindArgs (PySem.W.fnOf x x (defArgs st) (defBody st) (defScope st) .none kV doc pm an cdv ct) ⟨us, []⟩ = pure (ps.zip us)) : FunAt K mg x st ps :=
  ⟨f, _, fun_mk l c k, PySem.W.mg_of X G a, (fun_mk (st := st) l c k).binds b⟩
theorem all_mk {l : PySem.W.OpenLaw} {w : World} {K : PySem.W.Frag} {h : Heap} {mg : Str → Option Value} {fa C wa : Addr} {f0 : Addr} {oc0 kV0 dc0 pm0 cd0 ct0 : Value} {od0 an0 : Option Addr} {sl0 : Array (Option Value)} {f1 : Addr} {oc1 kV1 dc1 pm1 cd1 ct1 : Value} {od1 an1 : Option Addr} {sl1 : Array (Option Value)} {f2 : Addr} {oc2 kV2 dc2 pm2 cd2 ct2 : Value} {od2 an2 : Option Addr} {sl2 : Array (Option Value)} {f3 : Addr} {oc3 kV3 dc3 pm3 cd3 ct3 : Value} {od3 an3 : Option Addr} {sl3 : Array (Option Value)} {f4 : Addr} {oc4 kV4 dc4 pm4 cd4 ct4 : Value} {od4 an4 : Option Addr} {sl4 : Array (Option Value)} {f5 : Addr} {oc5 kV5 dc5 pm5 cd5 ct5 : Value} {od5 an5 : Option Addr} {sl5 : Array (Option Value)} {f6 : Addr} {oc6 kV6 dc6 pm6 cd6 ct6 : Value} {od6 an6 : Option Addr} {sl6 : Array (Option Value)} {f7 : Addr} {oc7 kV7 dc7 pm7 cd7 ct7 : Value} {od7 an7 : Option Addr} {sl7 : Array (Option Value)} {f8 : Addr} {oc8 kV8 dc8 pm8 cd8 ct8 : Value} {od8 an8 : Option Addr} {sl8 : Array (Option Value)} {f9 : Addr} {oc9 kV9 dc9 pm9 cd9 ct9 : Value} {od9 an9 : Option Addr} {sl9 : Array (Option Value)} {f10 : Addr} {oc10 kV10 dc10 pm10 cd10 ct10 : Value} {od10 an10 : Option Addr} {sl10 : Array (Option Value)} {f11 : Addr} {oc11 kV11 dc11 pm11 cd11 ct11 : Value} {od11 an11 : Option Addr} {sl11 : Array (Option Value)} {f12 : Addr} {oc12 kV12 dc12 pm12 cd12 ct12 : Value} {od12 an12 : Option Addr} {sl12 : Array (Option Value)} {f13 : Addr} {oc13 kV13 dc13 pm13 cd13 ct13 : Value} {od13 an13 : Option Addr} {sl13 : Array (Option Value)} {f14 : Addr} {oc14 kV14 dc14 pm14 cd14 ct14 : Value} {od14 an14 : Option Addr} {sl14 : Array (Option Value)} {f15 : Addr} {oc15 kV15 dc15 pm15 cd15 ct15 : Value} {od15 an15 : Option Addr} {sl15 : Array (Option Value)} {f16 : Addr} {oc16 kV16 dc16 pm16 cd16 ct16 : Value} {od16 an16 : Option Addr} {sl16 : Array (Option Value)} {f17 : Addr} {oc17 kV17 dc17 pm17 cd17 ct17 : Value} {od17 an17 : Option Addr} {sl17 : Array (Option Value)} {f18 : Addr} {oc18 kV18 dc18 pm18 cd18 ct18 : Value} {od18 an18 : Option Addr} {sl18 : Array (Option Value)} {f19 : Addr} {oc19 kV19 dc19 pm19 cd19 ct19 : Value} {od19 an19 : Option Addr} {sl19 : Array (Option Value)} {f20 : Addr} {oc20 kV20 dc20 pm20 cd20 ct20 : Value} {od20 an20 : Option Addr} {sl20 : Array (Option Value)} {f21 : Addr} {oc21 kV21 dc21 pm21 cd21 ct21 : Value} {od21 an21 : Option Addr} {sl21 : Array (Option Value)} {f22 : Addr} {oc22 kV22 dc22 pm22 cd22 ct22 : Value} {od22 an22 : Option Addr} {sl22 : Array (Option Value)} {f23 : Addr} {oc23 kV23 dc23 pm23 cd23 ct23 : Value} {od23 an23 : Option Addr} {sl23 : Array (Option Value)} {f24 : Addr} {oc24 kV24 dc24 pm24 cd24 ct24 : Value} {od24 an24 : Option Addr} {sl24 : Array (Option Value)} {tL : Tok} {tI0 : Tok} {tI1 : Tok} {tI2 : Tok} {tI3 : Tok} {tw0 tw1 tw2 tw3 tw4 : Tok} {wd : Option Addr} {wn : Nat} {ws : Array (Option Value)} (X : K.In h) (G : h.Ns mainGlobals mg) (hfa : mg "law" = some (.ref fa))
    (a0 : PySem.W.nsIn K mainGlobals "_law_cell" = some (some (.ref f0)))
    (l0 : K.lookup f0 = some ⟨oc0, od0, .func (PySem.W.fnOf "_law_cell" "_law_cell" (defArgs s_law_cell) (defBody s_law_cell) (defScope s_law_cell) .none kV0 dc0 pm0 an0 cd0 ct0), sl0⟩)
    (c0 : PySem.W.codeIn K cd0 "_law_cell" = true)
    (k0 : PySem.W.keepIn K (.ref f0) = true)
    (a1 : PySem.W.nsIn K mainGlobals "_law_pot" = some (some (.ref f1)))
    (l1 : K.lookup f1 = some ⟨oc1, od1, .func (PySem.W.fnOf "_law_pot" "_law_pot" (defArgs s_law_pot) (defBody s_law_pot) (defScope s_law_pot) .none kV1 dc1 pm1 an1 cd1 ct1), sl1⟩)
    (c1 : PySem.W.codeIn K cd1 "_law_pot" = true)
    (k1 : PySem.W.keepIn K (.ref f1) = true)
    (a2 : PySem.W.nsIn K mainGlobals "_law_draw" = some (some (.ref f2)))
    (l2 : K.lookup f2 = some ⟨oc2, od2, .func (PySem.W.fnOf "_law_draw" "_law_draw" (defArgs s_law_draw) (defBody s_law_draw) (defScope s_law_draw) .none kV2 dc2 pm2 an2 cd2 ct2), sl2⟩)
    (c2 : PySem.W.codeIn K cd2 "_law_draw" = true)
    (k2 : PySem.W.keepIn K (.ref f2) = true)
    (a3 : PySem.W.nsIn K mainGlobals "_law_unlike" = some (some (.ref f3)))
    (l3 : K.lookup f3 = some ⟨oc3, od3, .func (PySem.W.fnOf "_law_unlike" "_law_unlike" (defArgs s_law_unlike) (defBody s_law_unlike) (defScope s_law_unlike) .none kV3 dc3 pm3 an3 cd3 ct3), sl3⟩)
    (c3 : PySem.W.codeIn K cd3 "_law_unlike" = true)
    (k3 : PySem.W.keepIn K (.ref f3) = true)
    (a4 : PySem.W.nsIn K mainGlobals "_law_words" = some (some (.ref f4)))
    (l4 : K.lookup f4 = some ⟨oc4, od4, .func (PySem.W.fnOf "_law_words" "_law_words" (defArgs s_law_words) (defBody s_law_words) (defScope s_law_words) .none kV4 dc4 pm4 an4 cd4 ct4), sl4⟩)
    (c4 : PySem.W.codeIn K cd4 "_law_words" = true)
    (k4 : PySem.W.keepIn K (.ref f4) = true)
    (a5 : PySem.W.nsIn K mainGlobals "_law_book" = some (some (.ref f5)))
    (l5 : K.lookup f5 = some ⟨oc5, od5, .func (PySem.W.fnOf "_law_book" "_law_book" (defArgs s_law_book) (defBody s_law_book) (defScope s_law_book) .none kV5 dc5 pm5 an5 cd5 ct5), sl5⟩)
    (c5 : PySem.W.codeIn K cd5 "_law_book" = true)
    (k5 : PySem.W.keepIn K (.ref f5) = true)
    (a6 : PySem.W.nsIn K mainGlobals "_law_as" = some (some (.ref f6)))
    (l6 : K.lookup f6 = some ⟨oc6, od6, .func (PySem.W.fnOf "_law_as" "_law_as" (defArgs s_law_as) (defBody s_law_as) (defScope s_law_as) .none kV6 dc6 pm6 an6 cd6 ct6), sl6⟩)
    (c6 : PySem.W.codeIn K cd6 "_law_as" = true)
    (k6 : PySem.W.keepIn K (.ref f6) = true)
    (a7 : PySem.W.nsIn K mainGlobals "_law_due" = some (some (.ref f7)))
    (l7 : K.lookup f7 = some ⟨oc7, od7, .func (PySem.W.fnOf "_law_due" "_law_due" (defArgs s_law_due) (defBody s_law_due) (defScope s_law_due) .none kV7 dc7 pm7 an7 cd7 ct7), sl7⟩)
    (c7 : PySem.W.codeIn K cd7 "_law_due" = true)
    (k7 : PySem.W.keepIn K (.ref f7) = true)
    (a8 : PySem.W.nsIn K mainGlobals "_law_signs_as" = some (some (.ref f8)))
    (l8 : K.lookup f8 = some ⟨oc8, od8, .func (PySem.W.fnOf "_law_signs_as" "_law_signs_as" (defArgs s_law_signs_as) (defBody s_law_signs_as) (defScope s_law_signs_as) .none kV8 dc8 pm8 an8 cd8 ct8), sl8⟩)
    (c8 : PySem.W.codeIn K cd8 "_law_signs_as" = true)
    (k8 : PySem.W.keepIn K (.ref f8) = true)
    (a9 : PySem.W.nsIn K mainGlobals "_law_empty" = some (some (.ref f9)))
    (l9 : K.lookup f9 = some ⟨oc9, od9, .func (PySem.W.fnOf "_law_empty" "_law_empty" (defArgs s_law_empty) (defBody s_law_empty) (defScope s_law_empty) .none kV9 dc9 pm9 an9 cd9 ct9), sl9⟩)
    (c9 : PySem.W.codeIn K cd9 "_law_empty" = true)
    (k9 : PySem.W.keepIn K (.ref f9) = true)
    (a10 : PySem.W.nsIn K mainGlobals "_law_right" = some (some (.ref f10)))
    (l10 : K.lookup f10 = some ⟨oc10, od10, .func (PySem.W.fnOf "_law_right" "_law_right" (defArgs s_law_right) (defBody s_law_right) (defScope s_law_right) .none kV10 dc10 pm10 an10 cd10 ct10), sl10⟩)
    (c10 : PySem.W.codeIn K cd10 "_law_right" = true)
    (k10 : PySem.W.keepIn K (.ref f10) = true)
    (a11 : PySem.W.nsIn K mainGlobals "is_list" = some (some (.ref f11)))
    (l11 : K.lookup f11 = some ⟨oc11, od11, .func (PySem.W.fnOf "is_list" "is_list" (defArgs s_is_list) (defBody s_is_list) (defScope s_is_list) .none kV11 dc11 pm11 an11 cd11 ct11), sl11⟩)
    (c11 : PySem.W.codeIn K cd11 "is_list" = true)
    (k11 : PySem.W.keepIn K (.ref f11) = true)
    (a12 : PySem.W.nsIn K mainGlobals "is_name" = some (some (.ref f12)))
    (l12 : K.lookup f12 = some ⟨oc12, od12, .func (PySem.W.fnOf "is_name" "is_name" (defArgs s_is_name) (defBody s_is_name) (defScope s_is_name) .none kV12 dc12 pm12 an12 cd12 ct12), sl12⟩)
    (c12 : PySem.W.codeIn K cd12 "is_name" = true)
    (k12 : PySem.W.keepIn K (.ref f12) = true)
    (a13 : PySem.W.nsIn K mainGlobals "check_apart" = some (some (.ref f13)))
    (l13 : K.lookup f13 = some ⟨oc13, od13, .func (PySem.W.fnOf "check_apart" "check_apart" (defArgs s_check_apart) (defBody s_check_apart) (defScope s_check_apart) .none kV13 dc13 pm13 an13 cd13 ct13), sl13⟩)
    (c13 : PySem.W.codeIn K cd13 "check_apart" = true)
    (k13 : PySem.W.keepIn K (.ref f13) = true)
    (a14 : PySem.W.nsIn K mainGlobals "checked_kinds" = some (some (.ref f14)))
    (l14 : K.lookup f14 = some ⟨oc14, od14, .func (PySem.W.fnOf "checked_kinds" "checked_kinds" (defArgs s_checked_kinds) (defBody s_checked_kinds) (defScope s_checked_kinds) .none kV14 dc14 pm14 an14 cd14 ct14), sl14⟩)
    (c14 : PySem.W.codeIn K cd14 "checked_kinds" = true)
    (k14 : PySem.W.keepIn K (.ref f14) = true)
    (a15 : PySem.W.nsIn K mainGlobals "checked_kind" = some (some (.ref f15)))
    (l15 : K.lookup f15 = some ⟨oc15, od15, .func (PySem.W.fnOf "checked_kind" "checked_kind" (defArgs s_checked_kind) (defBody s_checked_kind) (defScope s_checked_kind) .none kV15 dc15 pm15 an15 cd15 ct15), sl15⟩)
    (c15 : PySem.W.codeIn K cd15 "checked_kind" = true)
    (k15 : PySem.W.keepIn K (.ref f15) = true)
    (a16 : PySem.W.nsIn K mainGlobals "checked_places" = some (some (.ref f16)))
    (l16 : K.lookup f16 = some ⟨oc16, od16, .func (PySem.W.fnOf "checked_places" "checked_places" (defArgs s_checked_places) (defBody s_checked_places) (defScope s_checked_places) .none kV16 dc16 pm16 an16 cd16 ct16), sl16⟩)
    (c16 : PySem.W.codeIn K cd16 "checked_places" = true)
    (k16 : PySem.W.keepIn K (.ref f16) = true)
    (a17 : PySem.W.nsIn K mainGlobals "checked_sign_name" = some (some (.ref f17)))
    (l17 : K.lookup f17 = some ⟨oc17, od17, .func (PySem.W.fnOf "checked_sign_name" "checked_sign_name" (defArgs s_checked_sign_name) (defBody s_checked_sign_name) (defScope s_checked_sign_name) .none kV17 dc17 pm17 an17 cd17 ct17), sl17⟩)
    (c17 : PySem.W.codeIn K cd17 "checked_sign_name" = true)
    (k17 : PySem.W.keepIn K (.ref f17) = true)
    (a18 : PySem.W.nsIn K mainGlobals "checked_tie" = some (some (.ref f18)))
    (l18 : K.lookup f18 = some ⟨oc18, od18, .func (PySem.W.fnOf "checked_tie" "checked_tie" (defArgs s_checked_tie) (defBody s_checked_tie) (defScope s_checked_tie) .none kV18 dc18 pm18 an18 cd18 ct18), sl18⟩)
    (c18 : PySem.W.codeIn K cd18 "checked_tie" = true)
    (k18 : PySem.W.keepIn K (.ref f18) = true)
    (a19 : PySem.W.nsIn K mainGlobals "checked_function" = some (some (.ref f19)))
    (l19 : K.lookup f19 = some ⟨oc19, od19, .func (PySem.W.fnOf "checked_function" "checked_function" (defArgs s_checked_function) (defBody s_checked_function) (defScope s_checked_function) .none kV19 dc19 pm19 an19 cd19 ct19), sl19⟩)
    (c19 : PySem.W.codeIn K cd19 "checked_function" = true)
    (k19 : PySem.W.keepIn K (.ref f19) = true)
    (a20 : PySem.W.nsIn K mainGlobals "law" = some (some (.ref f20)))
    (l20 : K.lookup f20 = some ⟨oc20, od20, .func (PySem.W.fnOf "law" "law" (defArgs s_law) (defBody s_law) (defScope s_law) .none kV20 dc20 pm20 an20 cd20 ct20), sl20⟩)
    (c20 : PySem.W.codeIn K cd20 "law" = true)
    (k20 : PySem.W.keepIn K (.ref f20) = true)
    (aC : PySem.W.nsIn K mainGlobals "Signs" = some (some (.ref C)))
    (a21 : PySem.W.findIn K (.ref C) "__init__" = some (some (.ref f21)))
    (i21 : PySem.W.isFn K (.ref f21) = true)
    (l21 : K.lookup f21 = some ⟨oc21, od21, .func (PySem.W.fnOf "__init__" "Signs.__init__" (defArgs s__init__) (defBody s__init__) (defScope s__init__) .none kV21 dc21 pm21 an21 cd21 ct21), sl21⟩)
    (c21 : PySem.W.codeIn K cd21 "Signs.__init__" = true)
    (k21 : PySem.W.keepIn K (.ref f21) = true)
    (a22 : PySem.W.findIn K (.ref C) "kinds" = some (some (.ref f22)))
    (i22 : PySem.W.isFn K (.ref f22) = true)
    (l22 : K.lookup f22 = some ⟨oc22, od22, .func (PySem.W.fnOf "kinds" "Signs.kinds" (defArgs s_kinds) (defBody s_kinds) (defScope s_kinds) .none kV22 dc22 pm22 an22 cd22 ct22), sl22⟩)
    (c22 : PySem.W.codeIn K cd22 "Signs.kinds" = true)
    (k22 : PySem.W.keepIn K (.ref f22) = true)
    (a23 : PySem.W.findIn K (.ref C) "ties" = some (some (.ref f23)))
    (i23 : PySem.W.isFn K (.ref f23) = true)
    (l23 : K.lookup f23 = some ⟨oc23, od23, .func (PySem.W.fnOf "ties" "Signs.ties" (defArgs s_ties) (defBody s_ties) (defScope s_ties) .none kV23 dc23 pm23 an23 cd23 ct23), sl23⟩)
    (c23 : PySem.W.codeIn K cd23 "Signs.ties" = true)
    (k23 : PySem.W.keepIn K (.ref f23) = true)
    (a24 : PySem.W.findIn K (.ref C) "functions" = some (some (.ref f24)))
    (i24 : PySem.W.isFn K (.ref f24) = true)
    (l24 : K.lookup f24 = some ⟨oc24, od24, .func (PySem.W.fnOf "functions" "Signs.functions" (defArgs s_functions) (defBody s_functions) (defScope s_functions) .none kV24 dc24 pm24 an24 cd24 ct24), sl24⟩)
    (c24 : PySem.W.codeIn K cd24 "Signs.functions" = true)
    (k24 : PySem.W.keepIn K (.ref f24) = true)
    (pg : PySem.W.plainGet K C Str.empty = true)
    (hd : PySem.W.hasDictIn K C = true)
    (po : PySem.W.plainOver K C = true)
    (sa : PySem.W.findIn K (.ref C) "__setattr__" = some (some (.builtin "object.__setattr__")))
    (mk : PySem.W.makesIn K C = true)
    (kc : PySem.W.keepIn K (.ref C) = true)
    (nK : PySem.W.findIn K (.ref C) "kept_kinds" = some none)
    (nT : PySem.W.findIn K (.ref C) "kept_ties" = some none)
    (nF : PySem.W.findIn K (.ref C) "kept_functions" = some none)
    (z_len : PySem.W.nsIn K mainGlobals "len" = some none)
    (z_max : PySem.W.nsIn K mainGlobals "max" = some none)
    (z_abs : PySem.W.nsIn K mainGlobals "abs" = some none)
    (z_divmod : PySem.W.nsIn K mainGlobals "divmod" = some none)
    (z_list : PySem.W.nsIn K mainGlobals "list" = some none)
    (z_tuple : PySem.W.nsIn K mainGlobals "tuple" = some none)
    (z_range : PySem.W.nsIn K mainGlobals "range" = some none)
    (z_int : PySem.W.nsIn K mainGlobals "int" = some none)
    (z_str : PySem.W.nsIn K mainGlobals "str" = some none)
    (z_repr : PySem.W.nsIn K mainGlobals "repr" = some none)
    (z_isinstance : PySem.W.nsIn K mainGlobals "isinstance" = some none)
    (z_all : PySem.W.nsIn K mainGlobals "all" = some none)
    (z_set : PySem.W.nsIn K mainGlobals "set" = some none)
    (gL : PySem.W.nsIn K mainGlobals "LETTERS" = some (some (.str (Str.ofString "abcdefghijklmnopqrstuvwxyz") tL)))
    (gI0 : PySem.W.nsIn K mainGlobals "LONGEST_NAME" = some (some (.int 12 tI0)))
    (gI1 : PySem.W.nsIn K mainGlobals "MOST_KINDS" = some (some (.int 4 tI1)))
    (gI2 : PySem.W.nsIn K mainGlobals "MOST_SIGNS" = some (some (.int 8 tI2)))
    (gI3 : PySem.W.nsIn K mainGlobals "MOST_PLACES" = some (some (.int 2 tI3)))
    (gW : PySem.W.nsIn K mainGlobals "WORDS_OF_SAYINGS" = some (some (.ref wa)))
    (lW : K.lookup wa = some ⟨.type "tuple", wd, .seq #[.str (Str.ofString "all") tw0, .str (Str.ofString "some") tw1, .str (Str.ofString "not") tw2, .str (Str.ofString "and") tw3, .str (Str.ofString "or") tw4] wn, ws⟩)
    : ∃ fd : FuncData, (∀ (s : Shared) (v : Value), BindsTo s fd ⟨[v], []⟩ [("_law_script", v)]) ∧ ∀ base : Heap, K.In base → base.Ns mainGlobals mg → FnOk l.prog w K mg base CX0 7 fa fd ["_law_script"] (spLaw K) := by
  have T : ClS K C := ⟨⟨pg, hd, po, sa⟩, nK, nT, nF⟩
  have Z : Bl mg := ⟨PySem.W.mg_none_of X G z_len, PySem.W.mg_none_of X G z_max, PySem.W.mg_none_of X G z_abs, PySem.W.mg_none_of X G z_divmod, PySem.W.mg_none_of X G z_list, PySem.W.mg_none_of X G z_tuple, PySem.W.mg_none_of X G z_range, PySem.W.mg_none_of X G z_int, PySem.W.mg_none_of X G z_str, PySem.W.mg_none_of X G z_repr, PySem.W.mg_none_of X G z_isinstance, PySem.W.mg_none_of X G z_all, PySem.W.mg_none_of X G z_set⟩
  have Gg : Gs K mg := ⟨⟨_, PySem.W.mg_of X G gL, tL, rfl⟩, ⟨_, PySem.W.mg_of X G gI0, tI0, rfl⟩, ⟨_, PySem.W.mg_of X G gI1, tI1, rfl⟩, ⟨_, PySem.W.mg_of X G gI2, tI2, rfl⟩, ⟨_, PySem.W.mg_of X G gI3, tI3, rfl⟩, wa, PySem.W.mg_of X G gW, fun H => .inr ⟨_, _, _, lW, rfl, rfl, by show 5 ≤ sizeLine; decide, .cons ⟨tw0, rfl⟩ (.cons ⟨tw1, rfl⟩ (.cons ⟨tw2, rfl⟩ (.cons ⟨tw3, rfl⟩ (.cons ⟨tw4, rfl⟩ (.nil)))))⟩⟩
  have F0 : FunAt K mg "_law_cell" s_law_cell ["_law_script", "_law_k"] := funAt_mk X G a0 l0 c0 k0 fun _ _ _ _ _ _ us hl => match us, hl with | [_, _], _ => rfl
  have F1 : FunAt K mg "_law_pot" s_law_pot ["_law_cell_here"] := funAt_mk X G a1 l1 c1 k1 fun _ _ _ _ _ _ us hl => match us, hl with | [_], _ => rfl
  have F2 : FunAt K mg "_law_draw" s_law_draw ["_law_pot_here", "_law_many"] := funAt_mk X G a2 l2 c2 k2 fun _ _ _ _ _ _ us hl => match us, hl with | [_, _], _ => rfl
  have F3 : FunAt K mg "_law_unlike" s_law_unlike ["_law_pot_here", "_law_many", "_law_menu"] := funAt_mk X G a3 l3 c3 k3 fun _ _ _ _ _ _ us hl => match us, hl with | [_, _, _], _ => rfl
  have F4 : FunAt K mg "_law_words" s_law_words ["_law_pot_here", "_law_some"] := funAt_mk X G a4 l4 c4 k4 fun _ _ _ _ _ _ us hl => match us, hl with | [_, _], _ => rfl
  have F5 : FunAt K mg "_law_book" s_law_book ["_law_pot_here", "_law_most_kinds", "_law_most_signs"] := funAt_mk X G a5 l5 c5 k5 fun _ _ _ _ _ _ us hl => match us, hl with | [_, _, _], _ => rfl
  have F6 : FunAt K mg "_law_as" s_law_as ["_law_pot_here", "_law_row"] := funAt_mk X G a6 l6 c6 k6 fun _ _ _ _ _ _ us hl => match us, hl with | [_, _], _ => rfl
  have F7 : FunAt K mg "_law_due" s_law_due ["_law_book_here"] := funAt_mk X G a7 l7 c7 k7 fun _ _ _ _ _ _ us hl => match us, hl with | [_], _ => rfl
  have F8 : FunAt K mg "_law_signs_as" s_law_signs_as ["_law_pot_here", "_law_signs"] := funAt_mk X G a8 l8 c8 k8 fun _ _ _ _ _ _ us hl => match us, hl with | [_, _], _ => rfl
  have F9 : FunAt K mg "_law_empty" s_law_empty ["_law_handed"] := funAt_mk X G a9 l9 c9 k9 fun _ _ _ _ _ _ us hl => match us, hl with | [_], _ => rfl
  have F10 : FunAt K mg "_law_right" s_law_right ["_law_signs", "_law_due_here"] := funAt_mk X G a10 l10 c10 k10 fun _ _ _ _ _ _ us hl => match us, hl with | [_, _], _ => rfl
  have F11 : FunAt K mg "is_list" s_is_list ["thing"] := funAt_mk X G a11 l11 c11 k11 fun _ _ _ _ _ _ us hl => match us, hl with | [_], _ => rfl
  have F12 : FunAt K mg "is_name" s_is_name ["thing"] := funAt_mk X G a12 l12 c12 k12 fun _ _ _ _ _ _ us hl => match us, hl with | [_], _ => rfl
  have F13 : FunAt K mg "check_apart" s_check_apart ["names"] := funAt_mk X G a13 l13 c13 k13 fun _ _ _ _ _ _ us hl => match us, hl with | [_], _ => rfl
  have F14 : FunAt K mg "checked_kinds" s_checked_kinds ["kinds"] := funAt_mk X G a14 l14 c14 k14 fun _ _ _ _ _ _ us hl => match us, hl with | [_], _ => rfl
  have F15 : FunAt K mg "checked_kind" s_checked_kind ["kinds", "kind"] := funAt_mk X G a15 l15 c15 k15 fun _ _ _ _ _ _ us hl => match us, hl with | [_, _], _ => rfl
  have F16 : FunAt K mg "checked_places" s_checked_places ["kinds", "places"] := funAt_mk X G a16 l16 c16 k16 fun _ _ _ _ _ _ us hl => match us, hl with | [_, _], _ => rfl
  have F17 : FunAt K mg "checked_sign_name" s_checked_sign_name ["name"] := funAt_mk X G a17 l17 c17 k17 fun _ _ _ _ _ _ us hl => match us, hl with | [_], _ => rfl
  have F18 : FunAt K mg "checked_tie" s_checked_tie ["kinds", "tie"] := funAt_mk X G a18 l18 c18 k18 fun _ _ _ _ _ _ us hl => match us, hl with | [_, _], _ => rfl
  have F19 : FunAt K mg "checked_function" s_checked_function ["kinds", "function"] := funAt_mk X G a19 l19 c19 k19 fun _ _ _ _ _ _ us hl => match us, hl with | [_, _], _ => rfl
  have F20 : FunAt K mg "law" s_law ["_law_script"] := funAt_mk X G a20 l20 c20 k20 fun _ _ _ _ _ _ us hl => match us, hl with | [_], _ => rfl
  have F21 := fun_mk (st := s__init__) l21 c21 k21
  have b21 := F21.binds (ps := ["self", "kinds", "ties", "functions"]) fun _ _ _ _ _ _ us hl => match us, hl with | [_, _, _, _], _ => rfl
  have F22 := fun_mk (st := s_kinds) l22 c22 k22
  have b22 := F22.binds (ps := ["self"]) fun _ _ _ _ _ _ us hl => match us, hl with | [_], _ => rfl
  have F23 := fun_mk (st := s_ties) l23 c23 k23
  have b23 := F23.binds (ps := ["self"]) fun _ _ _ _ _ _ us hl => match us, hl with | [_], _ => rfl
  have F24 := fun_mk (st := s_functions) l24 c24 k24
  have b24 := F24.binds (ps := ["self"]) fun _ _ _ _ _ _ us hl => match us, hl with | [_], _ => rfl
  have FL := fun_mk (st := s_law) l20 c20 k20
  have e := hfa.symm.trans (PySem.W.mg_of X G a20)
  cases e
  refine ⟨PySem.W.fnOf "law" "law" (defArgs s_law) (defBody s_law) (defScope s_law) .none kV20 dc20 pm20 an20 cd20 ct20, fun s v => .of_eq rfl, fun base _ _ => ?_⟩
  have dCell := ok_cell (P := l.prog) (w := w) (base := base) F0 Z
  have dPot := ok_pot (P := l.prog) (w := w) (base := base) F1 Z
  have dDraw := ok_draw (P := l.prog) (w := w) (base := base) F2 Z
  have dUnlike := ok_unlike (P := l.prog) (w := w) (base := base) F3 Z dDraw
  have dWords := ok_words (P := l.prog) (w := w) (base := base) F4 Z dDraw
  have dBook := ok_book (P := l.prog) (w := w) (base := base) F5 Z dDraw dUnlike dWords
  have dAs := ok_as (P := l.prog) (w := w) (base := base) F6 Z dDraw
  have dDue := ok_due (P := l.prog) (w := w) (base := base) F7 Z
  have dSa := ok_signs_as (P := l.prog) (w := w) (base := base) F8 Z dAs
  have dEmpty := ok_empty (P := l.prog) (w := w) (base := base) F9 Z
  have dIl := ok_is_list (P := l.prog) (w := w) (base := base) F11 Z
  have dIn := ok_is_name (P := l.prog) (w := w) (base := base) F12 Z Gg
  have dCa := ok_apart (P := l.prog) (w := w) (base := base) F13 Z
  have dKs := ok_kinds (P := l.prog) (w := w) (base := base) F14 Z Gg dIl dIn dCa
  have dK := ok_kind (P := l.prog) (w := w) (base := base) F15 Z dIn
  have dPl := ok_places (P := l.prog) (w := w) (base := base) F16 Z Gg dIl dK
  have dSn := ok_sign_name (P := l.prog) (w := w) (base := base) F17 Z Gg dIn
  have dTie := ok_tie (P := l.prog) (w := w) (base := base) F18 Z dIl dSn dPl
  have dFu := ok_func (P := l.prog) (w := w) (base := base) F19 Z dIl dSn dPl dK
  have dIni := ok_init (P := l.prog) (w := w) (base := base) F21 Z Gg T dIl dKs dTie dFu dCa
  have dTk := ok_tellK (P := l.prog) (w := w) (base := base) F22 Z T
  have dTt := ok_tellT (P := l.prog) (w := w) (base := base) F23 Z T
  have dTf := ok_tellF (P := l.prog) (w := w) (base := base) F24 Z T
  have dRight := ok_right (P := l.prog) (w := w) (base := base) F10 Z T ⟨a22, i22, k22⟩ dTk b22 ⟨a23, i23, k23⟩ dTt b23 ⟨a24, i24, k24⟩ dTf b24
  exact ok_law FL Z dCell dPot dBook dDue dAs dSa dEmpty dRight ⟨mk, a21, i21, kc⟩ dIni (PySem.W.mg_of X G aC) b21
theorem walk {l : PySem.W.OpenLaw} {q : Program} {loose : List Str} {XP : (Str → Option Value) → Heap → Prop} {YP : World → Heap → Prop} {d : DefRec} {K : Params → PySem.W.Frag} (hn : l.most = some 63) (hdf : d.params.defaults = [])
    (hY : ∀ (w : World) (h : Heap), YP w h → (K w.params).In h)
    (F : ∀ (w : World) (mg : Str → Option Value) (fa : Addr) (h : Heap), (K w.params).In h → h.Ns mainGlobals mg → mg d.name = some (.ref fa) →
      ∃ fd : FuncData, (∀ (s : Shared) (u : Value), BindsTo s fd ⟨[u], []⟩ [("_law_script", u)]) ∧ ∀ base : Heap, (K w.params).In base → base.Ns mainGlobals mg → FnOk l.prog w (K w.params) mg base CX0 7 fa fd ["_law_script"] (spLaw (K w.params))) :
    PySem.W.WalkO q loose XP YP l.row.toRowW d [] (fun f vs => PySem.call f vs) :=
  L2.walk_of (n := 63) (k := 7) (x := "_law_script") (CX := fun _ => CX0) (sp := fun w => spLaw (K w.params)) hn (by decide) hdf ⟨rfl, rfl, by decide, by decide⟩ hY F (fun _ _ a ns hl _ hS => ⟨a, ns, rfl, hS, hl, fun _ => rfl⟩) fun _ _ _ _ _ z => z
end Few
open PySem PySem.W PyProof.Rows
set_option maxRecDepth 100000 in
set_option maxHeartbeats 0 in
theorem PySem.Challenge.cw_fewthings_k11_books_told_holds : PySem.Challenge.rw_fewthings_k11_books_told.Holds := by
  w_on; o_law; k_head; (case hw => w_witness2)
  k_fill
  refine Few.walk (l := PySem.Challenge.rw_fewthings_k11_books_told) rfl rfl (fun w h Y => PySem.W.kIn_of Y) ?F
  case F =>
    intro w mg fa h KX G hmg
    refine' Few.all_mk KX G hmg ?a0 ?l0 ?c0 ?k0 ?a1 ?l1 ?c1 ?k1 ?a2 ?l2 ?c2 ?k2 ?a3 ?l3 ?c3 ?k3 ?a4 ?l4 ?c4 ?k4 ?a5 ?l5 ?c5 ?k5 ?a6 ?l6 ?c6 ?k6 ?a7 ?l7 ?c7 ?k7 ?a8 ?l8 ?c8 ?k8 ?a9 ?l9 ?c9 ?k9 ?a10 ?l10 ?c10 ?k10 ?a11 ?l11 ?c11 ?k11 ?a12 ?l12 ?c12 ?k12 ?a13 ?l13 ?c13 ?k13 ?a14 ?l14 ?c14 ?k14 ?a15 ?l15 ?c15 ?k15 ?a16 ?l16 ?c16 ?k16 ?a17 ?l17 ?c17 ?k17 ?a18 ?l18 ?c18 ?k18 ?a19 ?l19 ?c19 ?k19 ?a20 ?l20 ?c20 ?k20 ?aC ?a21 ?i21 ?l21 ?c21 ?k21 ?a22 ?i22 ?l22 ?c22 ?k22 ?a23 ?i23 ?l23 ?c23 ?k23 ?a24 ?i24 ?l24 ?c24 ?k24 ?pg ?hd ?po ?sa ?mk ?kc ?nK ?nT ?nF ?z_len ?z_max ?z_abs ?z_divmod ?z_list ?z_tuple ?z_range ?z_int ?z_str ?z_repr ?z_isinstance ?z_all ?z_set ?gL ?gI0 ?gI1 ?gI2 ?gI3 ?gW ?lW
    (case a0 => k_is)
    (case l0 => k_is)
    (case c0 => k_is)
    (case k0 => k_is)
    (case a1 => k_is)
    (case l1 => k_is)
    (case c1 => k_is)
    (case k1 => k_is)
    (case a2 => k_is)
    (case l2 => k_is)
    (case c2 => k_is)
    (case k2 => k_is)
    (case a3 => k_is)
    (case l3 => k_is)
    (case c3 => k_is)
    (case k3 => k_is)
    (case a4 => k_is)
    (case l4 => k_is)
    (case c4 => k_is)
    (case k4 => k_is)
    (case a5 => k_is)
    (case l5 => k_is)
    (case c5 => k_is)
    (case k5 => k_is)
    (case a6 => k_is)
    (case l6 => k_is)
    (case c6 => k_is)
    (case k6 => k_is)
    (case a7 => k_is)
    (case l7 => k_is)
    (case c7 => k_is)
    (case k7 => k_is)
    (case a8 => k_is)
    (case l8 => k_is)
    (case c8 => k_is)
    (case k8 => k_is)
    (case a9 => k_is)
    (case l9 => k_is)
    (case c9 => k_is)
    (case k9 => k_is)
    (case a10 => k_is)
    (case l10 => k_is)
    (case c10 => k_is)
    (case k10 => k_is)
    (case a11 => k_is)
    (case l11 => k_is)
    (case c11 => k_is)
    (case k11 => k_is)
    (case a12 => k_is)
    (case l12 => k_is)
    (case c12 => k_is)
    (case k12 => k_is)
    (case a13 => k_is)
    (case l13 => k_is)
    (case c13 => k_is)
    (case k13 => k_is)
    (case a14 => k_is)
    (case l14 => k_is)
    (case c14 => k_is)
    (case k14 => k_is)
    (case a15 => k_is)
    (case l15 => k_is)
    (case c15 => k_is)
    (case k15 => k_is)
    (case a16 => k_is)
    (case l16 => k_is)
    (case c16 => k_is)
    (case k16 => k_is)
    (case a17 => k_is)
    (case l17 => k_is)
    (case c17 => k_is)
    (case k17 => k_is)
    (case a18 => k_is)
    (case l18 => k_is)
    (case c18 => k_is)
    (case k18 => k_is)
    (case a19 => k_is)
    (case l19 => k_is)
    (case c19 => k_is)
    (case k19 => k_is)
    (case a20 => k_is)
    (case l20 => k_is)
    (case c20 => k_is)
    (case k20 => k_is)
    (case aC => k_is)
    (case a21 => k_is)
    (case i21 => k_is)
    (case l21 => k_is)
    (case c21 => k_is)
    (case k21 => k_is)
    (case a22 => k_is)
    (case i22 => k_is)
    (case l22 => k_is)
    (case c22 => k_is)
    (case k22 => k_is)
    (case a23 => k_is)
    (case i23 => k_is)
    (case l23 => k_is)
    (case c23 => k_is)
    (case k23 => k_is)
    (case a24 => k_is)
    (case i24 => k_is)
    (case l24 => k_is)
    (case c24 => k_is)
    (case k24 => k_is)
    (case pg => k_is)
    (case hd => k_is)
    (case po => k_is)
    (case sa => k_is)
    (case mk => k_is)
    (case kc => k_is)
    (case nK => k_is)
    (case nT => k_is)
    (case nF => k_is)
    (case z_len => k_is)
    (case z_max => k_is)
    (case z_abs => k_is)
    (case z_divmod => k_is)
    (case z_list => k_is)
    (case z_tuple => k_is)
    (case z_range => k_is)
    (case z_int => k_is)
    (case z_str => k_is)
    (case z_repr => k_is)
    (case z_isinstance => k_is)
    (case z_all => k_is)
    (case z_set => k_is)
    (case gL => k_is)
    (case gI0 => k_is)
    (case gI1 => k_is)
    (case gI2 => k_is)
    (case gI3 => k_is)
    (case gW => k_is)
    (case lW => k_is)

