import PyProof.Rows.All
import Wide.All
import OpenK.AllK
import Wide.FinOn
import Lean
import PyProof.EqAt
import PyProof.EqKinds
import PyProof.TupleCall
import PyProof.ExcBaseAll.ValueError
import PyProof.RulesAs
import PyProof.RulesDel
import PyProof.ExcArgsOwn
import PyProof.Draws
import PyProof.EnumFor
import PyProof.EnumMake
import KE.KDictList
import PyProof.ZipIter
import PyProof.TupleIter
import KE.KItemsList
import PyProof.AttrMissHeap
import KE.KDictOf
import PyProof.Rows.ZipGen
import PyProof.Rows.BootFacts
import PyProof.NeKinds
import PyProof.ListRange
import PyProof.RangeFor
import KE.RegKIsAll
import PySem.Challenge.RW_fewthings_k21_cells_in_order
namespace PySem.W.Fast
def tw13905747894796616622:=0
def tw10268940327794912876:=0
def tw8041485973704360531:=0
def tw1674266966100243855:=0
def tw3328218897908459441:=0
def tw1447334651306533259:=0
def tw5954509786014390157:=0
def tw5075808254035826948:=0
def tw8473553340890090820:=0
def tw11426445123781698914:=0
def tw11334396832387695035:=0
def tw3426789516754349493:=0
def tw14575574656952882997:=0
def tw3966651715361661624:=0
def tw14255072263116399614:=0
def tw16717282575815822691:=0
def tw7782462094696414745:=0
def tw8369215457379094309:=0
def tw4262384596093113500:=0
def tw4974526710063336974:=0
def tw12748451710024341265:=0
def tw14622730578375607539:=0
def tw10311151879561994570:=0
def tw10101288820505228440:=0
def tw8497993467967183948:=0
def tw7715333104145473671:=0
def tw13572075060286864233:=0
def tw1901479690326188879:=0
def tw17752176766431695151:=0
def tw6203738775832375753:=0
def tw8462998207007180685:=0
def tw13812103490188093283:=0
def tw1755854950016729963:=0
def tw10178270074118055509:=0
def tw17399755539102133884:=0
def tw13020735091909858967:=0
def tw4033727076947842764:=0
def tw2450198764578448874:=0
def tw3644052966136666226:=0
def tw3798553650650791248:=0
def tw13362495326703744944:=0
def tw8684605426151209295:=0
def tw2345134859839225818:=0
def tw4863555293643640862:=0
def tw13314934285248144158:=0
def tw14428207513245550716:=0
def tw8552516520441945027:=0
def tw15424512724749163330:=0
def tw11622099276114668069:=0
def tw15465047037821127954:=0
def tw4210230712900695035:=0
def tw13288127151145253936:=0
def tw8170068057372463126:=0
def tw17851281290556550710:=0
def tw10831336948418913631:=0
def tw3834380838072569775:=0
def tw2429826899330536291:=0
def tw4455356262292661513:=0
def tw1068967002583861045:=0
def tw6465406986748435631:=0
def tw18145408572812182197:=0
def tw885106008635277725:=0
def tw6593356708410922934:=0
def tw17241297201730885002:=0
def tw11734216711802455192:=0
def tw7610117883894878458:=0
def tw174675314971081890:=0
end PySem.W.Fast
set_option Elab.async false
set_option linter.all false
set_option maxRecDepth 100000
namespace L2
open PySem PySem.Spec PyProof.Rows
abbrev Key := Sum Int Str
def keyIs : Key → Value → Bool
 | .inl k, v => Value.isInt k v
 | .inr x, v => Value.isStrOf x v
def keyH (w : World) : Key → Int
 | .inl k => hashInt k
 | .inr x => hashStr w x
theorem keyIs_shape : ∀ {k : Key} {v : Value}, keyIs k v = true → (∃ i t, k = Sum.inl i ∧ v = Value.int i t) ∨ (∃ x t, k = Sum.inr x ∧ v = Value.str x t)
 | .inl i, v, h => by
  obtain ⟨t, e⟩ := Value.isInt_shape (k := i) (v := v) h
  exact .inl ⟨i, t, rfl, e⟩
 | .inr x, v, h => by
  obtain ⟨t, e⟩ := Value.isStrOf_shape (x := x) (v := v) h
  exact .inr ⟨x, t, rfl, e⟩
theorem keyIs_int (i : Int) (t : Tok) : keyIs (.inl i) (.int i t) = true := by simp [keyIs, Value.isInt]
theorem keyIs_str (x : Str) (t : Tok) : keyIs (.inr x) (.str x t) = true := by simp [keyIs, Value.isStrOf]
theorem key_ll (a b : Int) : decide ((Sum.inl a : Key) = Sum.inl b) = (a == b) := by
 by_cases e : a = b
 ·subst e; simp
 ·have h : ¬ (Sum.inl a : Key) = Sum.inl b := fun q => e (Sum.inl.inj q)
  rw [decide_eq_false h]
  exact (beq_eq_false_iff_ne.mpr e).symm
theorem key_rr (a b : Str) : decide ((Sum.inr a : Key) = Sum.inr b) = decide (a = b) := by
 by_cases e : a = b
 ·subst e; simp
 ·have h : ¬ (Sum.inr a : Key) = Sum.inr b := fun q => e (Sum.inr.inj q)
  rw [decide_eq_false h, decide_eq_false e]
theorem key_lr (a : Int) (b : Str) : decide ((Sum.inl a : Key) = Sum.inr b) = false := decide_eq_false (fun q => nomatch q)
theorem key_rl (a : Str) (b : Int) : decide ((Sum.inr a : Key) = Sum.inl b) = false := decide_eq_false (fun q => nomatch q)
def mixKind (prog : Program) (w : World) : PySem.KeyKind prog w Key where
 is := keyIs
 hash := keyH w
 inj := fun v a b ha hb => by
  rcases keyIs_shape ha with ⟨i, t, rfl, rfl⟩ | ⟨x, t, rfl, rfl⟩
  ·rcases keyIs_shape hb with ⟨j, u, rfl, e⟩ | ⟨y, u, rfl, e⟩
   ·injection e with e1 _; rw [e1]
   ·exact nomatch e
  ·rcases keyIs_shape hb with ⟨j, u, rfl, e⟩ | ⟨y, u, rfl, e⟩
   ·exact nomatch e
   ·injection e with e1 _; rw [e1]
 byValue := fun k v h => by
  rcases keyIs_shape h with ⟨i, t, rfl, rfl⟩ | ⟨x, t, rfl, rfl⟩ <;> rfl
 pyHash := fun hv h => by
  rcases keyIs_shape hv with ⟨i, t, rfl, rfl⟩ | ⟨x, t, rfl, rfl⟩
  ·exact wpAny_pyHash_int h
  ·exact wpAny_pyHash_str h
 eqBool := fun hu hv h => by
  rcases keyIs_shape hu with ⟨i, t, rfl, rfl⟩ | ⟨x, t, rfl, rfl⟩
  ·rcases keyIs_shape hv with ⟨j, u, rfl, rfl⟩ | ⟨y, u, rfl, rfl⟩
   ·rw [key_ll] at h; exact wpAny_eqBool_int h
   ·rw [key_lr] at h; exact SeqAt.EqAt.int_str i t y u _ _ _ _ h
  ·rcases keyIs_shape hv with ⟨j, u, rfl, rfl⟩ | ⟨y, u, rfl, rfl⟩
   ·rw [key_rl] at h; exact SeqAt.EqAt.str_int x t j u _ _ _ _ h
   ·rw [key_rr] at h; exact wpAny_eqBool_str h
 «strs» := fun k x t v h => by
  rcases keyIs_shape h with ⟨i, u, rfl, e⟩ | ⟨y, u, rfl, e⟩
  ·exact nomatch e
  ·injection e with e1 _
   subst e1
   cases v <;> rfl
theorem mixKind_int (prog : Program) (w : World) (i : Int) (t : Tok) : (mixKind prog w).is (.inl i) (.int i t) = true := keyIs_int i t
theorem mixKind_str (prog : Program) (w : World) (x : Str) (t : Tok) : (mixKind prog w).is (.inr x) (.str x t) = true := keyIs_str x t
end L2
namespace L2
open PySem PySem.Spec PyProof.Rows
inductive V where
 | non | bl (b : Bool) | int (i : Int) | str (x : Str) | byt (b : Array UInt8) | flt (b : UInt64) | ref (a : Addr) | ty (n : String)
 deriving DecidableEq
def RelV : V → Value → Prop
 | .non, u => u = Value.none
 | .bl b, u => u = Value.bool b
 | .int i, u => ∃ t, u = Value.int i t
 | .str x, u => ∃ t, u = Value.str x t
 | .byt b, u => ∃ t, u = Value.bytes b t
 | .flt b, u => ∃ t, u = Value.float b t
 | .ref a, u => u = Value.ref a
 | .ty n, u => u = Value.type n
abbrev Vals : List V → List Value → Prop := Paired RelV
theorem Vals.length {xs : List V} {us : List Value} (r : Vals xs us) : xs.length = us.length := Paired.length r
theorem Vals.get : ∀ {xs : List V} {us : List Value} {i : Nat} {x : V}, Vals xs us → xs[i]? = some x → ∃ u, us[i]? = some u ∧ RelV x u
 | _, _, _, _, .nil, e => by simp at e
 | _, _, 0, _, .cons r _, e => by simp at e; subst e; exact ⟨_, rfl, r⟩
 | _, _, i + 1, x, .cons _ t, e => by
  obtain ⟨u, h1, h2⟩ := Vals.get (i := i) (x := x) t (by simpa using e)
  exact ⟨u, by simpa using h1, h2⟩
theorem Vals.set {x : V} {u : Value} (r : RelV x u) : ∀ {xs : List V} {us : List Value} (i : Nat), Vals xs us → Vals (xs.set i x) (us.set i u)
 | _, _, _, .nil => .nil
 | _, _, 0, .cons _ t => .cons r t
 | _, _, i + 1, .cons q t => .cons q (Vals.set r i t)
theorem Vals.append : ∀ {xs ys : List V} {us ws : List Value}, Vals xs us → Vals ys ws → Vals (xs ++ ys) (us ++ ws)
 | _, _, _, _, .nil, s => s
 | _, _, _, _, .cons r t, s => .cons r (Vals.append t s)
theorem Vals.take : ∀ {xs : List V} {us : List Value} (n : Nat), Vals xs us → Vals (xs.take n) (us.take n)
 | _, _, 0, _ => .nil
 | _, _, _ + 1, .nil => .nil
 | _, _, n + 1, .cons r t => .cons r (Vals.take n t)
theorem Vals.drop : ∀ {xs : List V} {us : List Value} (n : Nat), Vals xs us → Vals (xs.drop n) (us.drop n)
 | _, _, 0, r => r
 | _, _, _ + 1, .nil => .nil
 | _, _, n + 1, .cons _ t => Vals.drop n t
def RelO : Option V → Option Value → Prop
 | some v, some u => RelV v u
 | none, none => True
 | _, _ => False
def KV {κ : Type} : List (κ × V) → List (κ × Value) → Prop := Paired fun (p : κ × V) (q : κ × Value) => p.1 = q.1 ∧ RelV p.2 q.2
def kV : Key → V
 | .inl i => .int i
 | .inr x => .str x
inductive HO where
 | lst (xs : List V)
 | tup (xs : List V)
 | dK (kvs : List (Key × V)) | dT (kvs : List (List Key × V))
 | set (S : Int → Bool) (n : Nat)
 | ins (C dx : Addr) (fs : List (Str × V))
 | own (x : Addr)
 | xd (fs : List (Str × V))
 | met (f x : Addr)
 | rng (lo hi : Int)
 | frz (o : Obj) (u : HO)
 | tbl (ps : Array Value)
 | ext (φ : Heap → Prop)
abbrev Hp := Addr → Option HO
def upd (H : Hp) (a : Addr) (o : HO) : Hp := fun b => if b = a then some o else H b
theorem upd_same {H : Hp} {a : Addr} {o : HO} : upd H a o a = some o := by unfold upd; rw [if_pos rfl]
theorem upd_ne {H : Hp} {a b : Addr} {o : HO} (h : b ≠ a) : upd H a o b = H b := by unfold upd; rw [if_neg h]
theorem ne_of_none {H : Hp} {a b : Addr} {o : HO} (h : H a = some o) (h' : H b = none) : a ≠ b := by
 intro e; subst e; rw [h] at h'; cases h'
section
variable (P : Program) (w : World)
def ObjOk (H : Hp) (h : Heap) (a : Addr) : HO → Prop
 | .lst xs => xs.length ≤ sizeLine ∧ ∃ (its : List Value) (n : Nat), Vals xs its ∧ h.get? a = some { cls := .type "list", data := .seq its.toArray n }
 | .tup xs => xs.length ≤ sizeLine ∧ ∃ its : List Value, Vals xs its ∧ IsTup h a its.toArray
 | .dK kvs => kvs.length ≤ sizeLine ∧ (a == sysModules) = false ∧ ∃ vs, KV kvs vs ∧ h.DictOf (mixKind P w) a vs
 | .dT kvs => kvs.length ≤ sizeLine ∧ (a == sysModules) = false ∧ ∃ xs : List (List Key × Addr × Value),
   Paired (fun (p : List Key × V) (q : List Key × Addr × Value) => p.1 = q.1 ∧ H q.2.1 = some (.tup (p.1.map kV)) ∧ RelV p.2 q.2.2) kvs xs ∧
   ∃ o es ep, h.get? a = some o ∧ o.ExactDict ∧ o.data = .dict es ep ∧ es.toList = xs.map (entryOfKey (tupleKind (mixKind P w))) ∧ (xs.map (·.1)).Nodup
 | .set S n => h.SetOf (intKind P w) a S n
 | .ins C dx fs => H dx = some (.own a) ∧ fs.length ≤ 1000 ∧ dx ≠ a ∧ h.get? a = some (PySem.W.instObj C dx) ∧
   ∃ mA, h.Ns1 dx mA ∧ (∀ f, RelO (fs.lookup f) (mA f)) ∧ PySem.Within mA (fs.map (·.1))
 | .own _ => ∃ o, h.get? a = some o
 | .xd fs => ∃ mA, h.Ns1 a mA ∧ ∀ f, RelO (fs.lookup f) (mA f)
 | .rng lo hi => ∃ t u v, h.get? a = some { cls := .type "range", data := .fields #[.int lo t, .int hi u, .int 1 v] }
 | .frz o u => h.get? a = some o ∧ ObjOk H h a u
 | .tbl ps => h.get? a = some { cls := .none, data := .fields ps }
 | .met f x => h.get? a = some (PySem.W.methodObj (.ref f) (.ref x))
 | .ext φ => φ h ∧ (∃ o, h.get? a = some o) ∧ ∀ h1 h2 : Heap, φ h1 → (∀ o, h1.get? a = some o → h2.get? a = some o) → φ h2
def HOk (H : Hp) (h : Heap) : Prop := ∀ a o, H a = some o → ObjOk P w H h a o
end
section
variable {P : Program} {w : World} {H H' : Hp} {h h' : Heap} {a : Addr} {o : HO}
theorem ObjOk.lt (x : ObjOk P w H h a o) : a < h.objs.size := by
 cases o with
 | lst xs => obtain ⟨_, _, _, _, e⟩ := x; exact Heap.lt_size e
 | tup xs => obtain ⟨_, _, _, p⟩ := x; exact p.lt
 | dK kvs => obtain ⟨_, _, _, _, o, _, _, e, _⟩ := x; exact Heap.lt_size e
 | dT kvs => obtain ⟨_, _, _, _, o, _, _, e, _⟩ := x; exact Heap.lt_size e
 | set S n => obtain ⟨o, _, _, _, e, _⟩ := x; exact Heap.lt_size e
 | ins C dx fs => obtain ⟨_, _, _, e, _⟩ := x; exact Heap.lt_size e
 | own y => obtain ⟨_, e⟩ := x; exact Heap.lt_size e
 | xd fs => obtain ⟨_, ⟨_, _, _, e, _⟩, _⟩ := x; exact Heap.lt_size e
 | rng lo hi => obtain ⟨_, _, _, e⟩ := x; exact Heap.lt_size e
 | frz ob u => obtain ⟨e, _⟩ := x; exact Heap.lt_size e
 | tbl ps => exact Heap.lt_size (show h.get? a = some _ from x)
 | met f y => exact Heap.lt_size (show h.get? a = some _ from x)
 | ext φ => obtain ⟨_, ⟨_, e⟩, _⟩ := x; exact Heap.lt_size e
theorem Paired.mapP {α β : Type} {F G : α → β → Prop} : ∀ {l₁ : List α} {l₂ : List β}, Paired F l₁ l₂ → (∀ a b, F a b → G a b) → Paired G l₁ l₂
 | _, _, .nil, _ => .nil
 | _, _, .cons r t, f => .cons (f _ _ r) (Paired.mapP t f)
theorem ObjOk.stay (x : ObjOk P w H h a o) (k : ∀ b u, (b = a ∨ H b = some (.own a)) → h.get? b = some u → h'.get? b = some u)
  (ho : ∀ b, H b = some (.own a) → H' b = some (.own a)) (ht : ∀ b xs, H b = some (.tup xs) → H' b = some (.tup xs)) : ObjOk P w H' h' a o := by
 induction o with
 | lst xs => obtain ⟨z, its, n, r, e⟩ := x; exact ⟨z, its, n, r, k _ _ (.inl rfl) e⟩
 | tup xs => obtain ⟨z, its, r, ob, e, c⟩ := x; exact ⟨z, its, r, ob, k _ _ (.inl rfl) e, c⟩
 | dK kvs => obtain ⟨z, y, vs, r, ob, es, ep, e, c⟩ := x; exact ⟨z, y, vs, r, ob, es, ep, k _ _ (.inl rfl) e, c⟩
 | dT kvs =>
  obtain ⟨z, y, xs, r, ob, es, ep, e, c⟩ := x
  exact ⟨z, y, xs, Paired.mapP r fun p q z => ⟨z.1, ht _ _ z.2.1, z.2.2⟩, ob, es, ep, k _ _ (.inl rfl) e, c⟩
 | set S n => obtain ⟨ob, es, ep, t, e, c⟩ := x; exact ⟨ob, es, ep, t, k _ _ (.inl rfl) e, c⟩
 | ins C dx fs =>
  obtain ⟨d, z, ne, e, mA, ⟨od, es, ep, e2, c⟩, r⟩ := x
  exact ⟨ho _ d, z, ne, k _ _ (.inl rfl) e, mA, ⟨od, es, ep, k _ _ (.inr d) e2, c⟩, r⟩
 | own y => obtain ⟨ob, e⟩ := x; exact ⟨ob, k _ _ (.inl rfl) e⟩
 | xd fs => obtain ⟨mA, ⟨od, es, ep, e, c⟩, r⟩ := x; exact ⟨mA, ⟨od, es, ep, k _ _ (.inl rfl) e, c⟩, r⟩
 | rng lo hi => obtain ⟨t, u, v, e⟩ := x; exact ⟨t, u, v, k _ _ (.inl rfl) e⟩
 | frz ob u ih => obtain ⟨e, q⟩ := x; exact ⟨k _ _ (.inl rfl) e, ih q⟩
 | tbl ps =>
  have e : h.get? a = some { cls := .none, data := .fields ps } := x
  show h'.get? a = some { cls := .none, data := .fields ps }
  exact k a _ (.inl rfl) e
 | met f y =>
  have e : h.get? a = some (PySem.W.methodObj (.ref f) (.ref y)) := x
  show h'.get? a = some (PySem.W.methodObj (.ref f) (.ref y))
  exact k a _ (.inl rfl) e
 | ext φ => obtain ⟨p, ⟨o, e⟩, st⟩ := x; exact ⟨st _ _ p fun o q => k _ _ (.inl rfl) q, ⟨o, k _ _ (.inl rfl) e⟩, st⟩
theorem HOk.lt (x : HOk P w H h) (e : H a = some o) : a < h.objs.size := (x a o e).lt
theorem HOk.fresh (x : HOk P w H h) (e : h.objs.size ≤ a) : H a = none := by
 cases q : H a with
 | none => rfl
 | some u => exact absurd (Nat.lt_of_lt_of_le (x.lt q) e) (Nat.lt_irrefl _)
theorem HOk.kept (x : HOk P w H h) (k : ∀ b u, h.get? b = some u → h'.get? b = some u) : HOk P w H h' := fun a o e =>
 (x a o e).stay (fun b u _ q => k b u q) (fun _ q => q) fun _ _ q => q
theorem HOk.laid (x : HOk P w H h) (k : ∀ b u, h.get? b = some u → h'.get? b = some u) (hp : h.objs.size ≤ a) (new : ObjOk P w (upd H a o) h' a o) : HOk P w (upd H a o) h' := fun b u e => by
 have hn := x.fresh hp
 by_cases hb : b = a
 ·subst hb; rw [upd_same] at e; cases e; exact new
 ·rw [upd_ne hb] at e
  exact (x b u e).stay (fun c v _ q => k c v q) (fun c q => by rw [upd_ne (ne_of_none q hn)]; exact q) fun c xs q => by rw [upd_ne (ne_of_none q hn)]; exact q
end
def Rd (H : Hp) (a : Addr) (u : HO) : Prop := H a = some u ∨ ∃ o, H a = some (.frz o u)
theorem Rd.ok {P : Program} {w : World} {H : Hp} {h : Heap} {a : Addr} {u : HO} (r : Rd H a u) (x : HOk P w H h) : ObjOk P w H h a u := by
 rcases r with r | ⟨o, r⟩
 ·exact x a u r
 ·obtain ⟨_, q⟩ := x a _ r
  exact q
def Mut : Option HO → Prop
 | some (.lst _) => True
 | some (.dK _) => True
 | some (.dT _) => True
 | some (.set _ _) => True
 | some (.ins _ _ _) => True
 | some (.ext _) => True
 | _ => False
section
variable {P : Program} {w : World} {H : Hp} {h h' : Heap} {x e : Addr} {o' : HO}
theorem HOk.write (ok : HOk P w H h) (mu : Mut (H x)) (he : e = x ∨ H e = some (.own x)) (k : ∀ b u, b ≠ e → h.get? b = some u → h'.get? b = some u) (heo : ∃ u, h'.get? e = some u)
  (new : ObjOk P w (upd H x o') h' x o') : HOk P w (upd H x o') h' := fun b u q => by
 have nown : ∀ c y, H c = some (.own y) → c ≠ x := fun c y r z => by subst z; rw [r] at mu; exact mu
 have ntup : ∀ c xs, H c = some (.tup xs) → c ≠ x := fun c xs r z => by subst z; rw [r] at mu; exact mu
 by_cases hb : b = x
 ·subst hb; rw [upd_same] at q; cases q; exact new
 ·rw [upd_ne hb] at q
  by_cases hbe : b = e
  ·have q' : H b = some (.own x) := by
    rcases he with z | z
    ·exact absurd (hbe.trans z) hb
    ·rw [hbe]; exact z
   rw [q] at q'; cases q'
   obtain ⟨v, hv⟩ := heo
   exact ⟨v, by rw [hbe]; exact hv⟩
  ·refine (ok b u q).stay (fun c v hc r => k c v ?_ r) (fun c r => by rw [upd_ne (nown c b r)]; exact r) fun c xs r => by rw [upd_ne (ntup c xs r)]; exact r
   rcases hc with rfl | hc
   ·exact hbe
   ·rintro rfl
    rcases he with z | z
    ·exact nown c b hc z
    ·rw [hc] at z; cases z; exact hb rfl
end
structure Un (fs ex : List Addr) (H H' : Hp) (h h' : Heap) : Prop where
 keep : ∀ b o, h.get? b = some o → H b = none → b ∉ fs → b ∉ ex → h'.get? b = some o
 slot : ∀ b o, h.get? b = some o → H b = none → b ∈ fs → b ∉ ex → ∃ sl, h'.get? b = some { o with slots := sl }
 free : ∀ b o, h.get? b = some o → H b = none → b ∉ ex → H' b = none
 there : ∀ b o, h.get? b = some o → b ∉ ex → ∃ o', h'.get? b = some o'
 tups : ∀ b xs, H b = some (.tup xs) → H' b = some (.tup xs)
 frzs : ∀ b o u, H b = some (.frz o u) → H' b = some (.frz o u)
 tbls : ∀ b ps, H b = some (.tbl ps) → ∃ more, H' b = some (.tbl (ps ++ more))
section
variable {fs fs' ex ex' : List Addr} {H H1 H2 : Hp} {h h1 h2 h' : Heap} {a x e : Addr} {o : HO}
theorem Un.any (u : Un fs ex H H1 h h1) {b : Addr} {ob : Obj} (q : h.get? b = some ob) (n : H b = none) (hx : b ∉ ex) : ∃ sl, h1.get? b = some { ob with slots := sl } := by
 by_cases hb : b ∈ fs
 ·exact u.slot b ob q n hb hx
 ·exact ⟨ob.slots, u.keep b ob q n hb hx⟩
theorem Un.kept (k : ∀ b u, h.get? b = some u → h'.get? b = some u) : Un fs ex H H h h' :=
 ⟨fun b ob q _ _ _ => k b ob q, fun b ob q _ _ _ => ⟨ob.slots, k b ob q⟩, fun _ _ _ n _ => n, fun b ob q _ => ⟨ob, k b ob q⟩, fun _ _ q => q, fun _ _ _ q => q, fun _ ps q => ⟨#[], by rw [q]; simp⟩⟩
theorem Un.refl : Un fs ex H H h h := Un.kept fun _ _ q => q
theorem Un.laid (k : ∀ b u, h.get? b = some u → h'.get? b = some u) (hp : h.objs.size ≤ a) (hn : H a = none) : Un fs ex H (upd H a o) h h' where
 keep := fun b u q _ _ _ => k b u q
 slot := fun b u q _ _ _ => ⟨u.slots, k b u q⟩
 free := fun b u q n _ => by rw [upd_ne (Nat.ne_of_lt (Nat.lt_of_lt_of_le (Heap.lt_size q) hp))]; exact n
 there := fun b u q _ => ⟨u, k b u q⟩
 tups := fun b xs q => by rw [upd_ne (ne_of_none q hn)]; exact q
 frzs := fun b u xs q => by rw [upd_ne (ne_of_none q hn)]; exact q
 tbls := fun b ps q => ⟨#[], by rw [upd_ne (ne_of_none q hn), q]; simp⟩
theorem Un.write (mu : Mut (H x)) (he : e = x ∨ H e = some (.own x)) (k : ∀ b u, b ≠ e → h.get? b = some u → h'.get? b = some u) (heo : ∃ u, h'.get? e = some u) : Un fs ex H (upd H x o) h h' := by
 have hx : ∀ b, H b = none → b ≠ x := fun b n z => by subst z; rw [n] at mu; exact mu
 have hb : ∀ b, H b = none → b ≠ e := fun b n z => by
  subst z
  rcases he with r | r
  ·exact hx b n r
  ·rw [n] at r; cases r
 have hm : ∀ b u, H b = some u → ¬ Mut (some u) → b ≠ x := fun b u q nm z => by subst z; rw [q] at mu; exact nm mu
 refine ⟨fun b u q n _ _ => k b u (hb b n) q, fun b u q n _ _ => ⟨u.slots, k b u (hb b n) q⟩, fun b u q n _ => by rw [upd_ne (hx b n)]; exact n, fun b u q _ => ?_,
  fun b xs q => by rw [upd_ne (hm b _ q fun z => z)]; exact q, fun b u xs q => by rw [upd_ne (hm b _ q fun z => z)]; exact q, fun b ps q => ⟨#[], by rw [upd_ne (hm b _ q fun z => z), q]; simp⟩⟩
 by_cases hbe : b = e
 ·subst hbe; exact heo
 ·exact ⟨u, k b u hbe q⟩
end
def trk (h : Heap) (H : Hp) : List Addr := (List.range h.objs.size).filter fun a => (H a).isSome
def hidT (h : Heap) (H : Hp) : Heap := PySem.W.hideAll h (trk h H)
theorem hidT_size (h : Heap) (H : Hp) : (hidT h H).objs.size = h.objs.size := PySem.W.hideAll_size _ _
theorem hidT_get {h : Heap} {H : Hp} {b : Addr} {o : Obj} (e : h.get? b = some o) (n : H b = none) : (hidT h H).get? b = some o :=
 PySem.W.hideAll_get _ e fun hm => by
  have q : (H b).isSome = true := (List.mem_filter.mp hm).2
  rw [n] at q; simp at q
theorem of_hidT {h : Heap} {H : Hp} {b : Addr} {o : Obj} (e : (hidT h H).get? b = some o) : h.get? b = some o ∧ H b = none := by
 have e' : h.get? b = some o := PySem.W.of_hideAll (trk h H) e
 refine ⟨e', ?_⟩
 cases q : H b with
 | none => rfl
 | some x =>
  have hm : b ∈ trk h H := List.mem_filter.mpr ⟨List.mem_range.mpr (Heap.lt_size e'), by simp [q]⟩
  have z : (hidT h H).get? b = none := PySem.W.hideAll_none (trk h H) hm
  rw [z] at e; cases e
def allNews (g h : Heap) (L : Addr) : List (Addr × Obj) := (List.range h.objs.size).filterMap fun a => if a = L ∨ (g.get? a).isSome = true then none else (h.get? a).map fun o => (a, o)
def rest (g h : Heap) (L d : Addr) : List (Addr × Obj) := (allNews g h L).filter fun p => decide (p.1 ≠ d)
end L2
namespace L2
open PySem PySem.Spec PyProof.Rows
structure Mod (K : PySem.W.Frag) (mg : Str → Option Value) (base : Heap) : Prop where
 kin : K.In base
 glob : base.Ns mainGlobals mg
 blt : ∃ mb, base.Ns builtinsNs mb ∧ ∀ x : Str, x ≠ "__name__" → mb x = bootBuiltins x
 nolimit : base.NoLimit
 sys : ∃ mm, base.Ns sysModules mm
structure Cx where
 prog : Program
 w : World
 K : PySem.W.Frag
 mg : Str → Option Value
 base : Heap
 A : Around
 N : List Str
 s₀ : Shared
 H₀ : Hp
 env : Env
 outer : List Env
 stack : List Env
 ex : List Addr
 fn : Str → Bool
 calm : Bool
 pn : List (Addr × Obj)
 xe : Value → Shared → Prop
def frs (l : List Env) : List Addr := l.filterMap (·.frame)
abbrev Cx.fs (X : Cx) : List Addr := frs X.outer
def Vis (sc : Scope) (x : Str) : Prop := sc.names.lookup x = some .local ∨ sc.names.lookup x = some .cell ∨ sc.names.lookup x = some .free
def Loc (sc : Scope) (x : Str) : Prop := sc.names.lookup x = some .local ∨ sc.names.lookup x = some .cell
def Look (env : Env) (h : Heap) (m : Str → Option Value) (x : Str) (u : Value) : Prop :=
 (env.kindOf x = some .local ∧ m x = some u) ∨ ((env.kindOf x = some .cell ∨ env.kindOf x = some .free) ∧ ∃ c, env.cells.lookup x = some c ∧ h.IsCell c (some u))
structure Cx.Ok (X : Cx) : Prop where
 mod : Mod X.K X.mg X.base
 kind : X.env.scope.kind = .function
 glob : X.env.globals = mainGlobals
 blt : X.env.builtins = builtinsNs
 above : X.s₀.heap.objs.size ≤ X.env.locals
 inj : ∀ x y c, X.env.cells.lookup x = some c → X.env.cells.lookup y = some c → x = y
 has : ∀ x, (X.env.kindOf x = some .cell ∨ X.env.kindOf x = some .free) → ∃ c, X.env.cells.lookup x = some c
 cab : ∀ x c, X.fn x = true → X.env.cells.lookup x = some c → X.s₀.heap.objs.size ≤ c
 hd : X.calm = true → X.A.handled = none
 frames : X.A.frames = some X.stack
 stk : X.stack = X.outer ∨ (X.stack = X.env :: X.outer ∧ X.env.frame = some X.env.locals)
 exf : ∀ b ∈ X.ex, b ≠ X.env.locals ∧ ∀ x c, X.env.cells.lookup x = some c → c ≠ b
 bs : ∀ b o, X.base.get? b = some o → X.s₀.heap.get? b = some o ∧ X.H₀ b = none
 bsz : X.base.objs.size ≤ X.s₀.heap.objs.size
 noex : ∀ b o, X.base.get? b = some o → b ∉ X.ex
 exfs : ∀ b ∈ X.ex, b ∉ X.fs
 funs : X.s₀.heap.FunFrames X.base X.outer
 frf : ∀ b ∈ X.fs, X.H₀ b = none
structure Inv (X : Cx) (pins : List (Addr × Obj)) (σ : List (Option V)) (H : Hp) (s : Shared) : Prop where
 ok : X.Ok
 os : s.os = X.s₀.os
 bare : AllBare s.gens
 base : Un X.fs X.ex X.H₀ H X.s₀.heap s.heap
 loc : ∃ m, s.heap.Ns X.env.locals m ∧ ∀ (i : Nat) (x : Str) (v : V), X.N[i]? = some x → σ[i]? = some (some v) → Vis X.env.scope x → ∃ u, RelV v u ∧ Look X.env s.heap m x u
 cell : ∀ x c, X.env.cells.lookup x = some c → ∃ v, s.heap.IsCell c v
 free : H X.env.locals = none
 freeC : ∀ x c, X.env.cells.lookup x = some c → H c = none
 pin : ∀ p ∈ X.pn ++ pins, s.heap.get? p.1 = some p.2 ∧ H p.1 = none ∧ p.1 ≠ X.env.locals ∧ p.1 ∉ X.fs ∧ ∀ v, p.2.data ≠ .cell v
 hok : HOk X.prog X.w H s.heap
 len : σ.length = X.N.length
section
variable {X : Cx} {pins : List (Addr × Obj)} {σ : List (Option V)} {H H' : Hp} {s : Shared} {h' : Heap}
theorem Cx.Ok.nofr (ok : X.Ok) {b : Addr} {o : Obj} (e : X.base.get? b = some o) : b ∉ X.fs := fun hb => by
 have := (ok.funs.mem hb).1
 rw [e] at this; cases this
theorem Inv.bs (I : Inv X pins σ H s) : ∀ b o, X.base.get? b = some o → s.heap.get? b = some o ∧ H b = none := fun b o e =>
 ⟨I.base.keep b o (I.ok.bs b o e).1 (I.ok.bs b o e).2 (I.ok.nofr e) (I.ok.noex b o e), I.base.free b o (I.ok.bs b o e).1 (I.ok.bs b o e).2 (I.ok.noex b o e)⟩
theorem Inv.bk (I : Inv X pins σ H s) : ∀ b o, X.base.get? b = some o → s.heap.get? b = some o := fun b o e => (I.bs b o e).1
theorem Inv.mod (I : Inv X pins σ H s) : Mod X.K X.mg X.base := I.ok.mod
theorem Inv.kIn (I : Inv X pins σ H s) : X.K.In s.heap := I.ok.mod.kin.keeps I.bk
theorem Inv.lt (I : Inv X pins σ H s) : X.env.locals < s.heap.objs.size := let ⟨_, hn, _⟩ := I.loc; hn.lt
theorem Inv.sz (I : Inv X pins σ H s) : X.s₀.heap.objs.size ≤ s.heap.objs.size := Nat.le_trans I.ok.above (Nat.le_of_lt I.lt)
theorem Inv.nofs (I : Inv X pins σ H s) {a : Addr} (h : s.heap.objs.size ≤ a) : a ∉ X.fs := fun hb => by
 obtain ⟨_, o, ho, _⟩ := I.ok.funs.mem hb
 exact absurd (Nat.lt_of_lt_of_le (Heap.lt_size ho) (Nat.le_trans I.sz h)) (Nat.lt_irrefl _)
theorem Inv.cne (I : Inv X pins σ H s) : ∀ x c, X.env.cells.lookup x = some c → c ≠ X.env.locals := fun x c e z => by
 obtain ⟨v, o, ho, hd⟩ := I.cell x c e
 obtain ⟨m, ⟨o', es, ep, ho', hd', _⟩, _⟩ := I.loc
 rw [z, ho'] at ho; cases ho; rw [hd'] at hd; cases hd
theorem Inv.funs (I : Inv X pins σ H s) : s.heap.FunFrames X.base X.outer := by
 have all : ∀ (l : List Env), (∀ b ∈ frs l, b ∈ X.fs) → X.s₀.heap.FunFrames X.base l → s.heap.FunFrames X.base l := by
  intro l
  induction l with
  | nil => intro _ _; trivial
  | cons env r ih =>
   intro hs hl
   obtain ⟨hk, ⟨L, o, hf, hn, ho, hd⟩, hr⟩ := hl
   have hL : L ∈ X.fs := hs L (by unfold frs; rw [List.filterMap_cons, hf]; exact List.mem_cons_self)
   obtain ⟨sl, e⟩ := I.base.slot L o ho (I.ok.frf L hL) hL fun z => I.ok.exfs L z hL
   exact ⟨hk, ⟨L, _, hf, hn, e, hd⟩, ih (fun b hb => hs b (by unfold frs; rw [List.filterMap_cons, hf]; exact List.mem_cons_of_mem _ hb)) hr⟩
 exact all X.outer (fun _ hb => hb) I.ok.funs
theorem Inv.stack (I : Inv X pins σ H s) : s.heap.FunFrames X.base X.stack := by
 rcases I.ok.stk with e | ⟨e, hf⟩
 ·rw [e]; exact I.funs
 ·rw [e]
  obtain ⟨m, hn, _⟩ := I.loc
  refine .cons (by rw [I.ok.kind]; decide) hf hn ?_ I.funs
  exact Heap.get?_none_of_le (Nat.le_trans I.ok.bsz I.ok.above)
theorem Inv.stkSub (I : Inv X pins σ H s) : ∀ b ∈ frs X.stack, b ∈ X.env.locals :: X.fs := fun b hb => by
 rcases I.ok.stk with e | ⟨e, hf⟩
 ·rw [e] at hb; exact List.mem_cons_of_mem _ hb
 ·rw [e] at hb
  unfold frs at hb
  rw [List.filterMap_cons, hf] at hb
  exact hb
theorem Inv.stkFree (I : Inv X pins σ H s) : ∀ b ∈ frs X.stack, H b = none := fun b hb => by
 rcases List.mem_cons.mp (I.stkSub b hb) with e | hb
 ·rw [e]; exact I.free
 ·obtain ⟨_, o, ho, _⟩ := I.ok.funs.mem hb
  exact I.base.free b o ho (I.ok.frf b hb) fun z => I.ok.exfs b z hb
theorem Inv.step {g' : Array GenState} {t' : Nat} {d' : Drawn} {ch : List Addr} (I : Inv X pins σ H s)
  (hch : ∀ b ∈ ch, (b ∈ X.ex ∨ X.s₀.heap.objs.size ≤ b) ∧ b ≠ X.env.locals ∧ (∀ x c, X.env.cells.lookup x = some c → c ≠ b) ∧ ∀ p ∈ X.pn ++ pins, p.1 ≠ b)
  (keep : ∀ b o, b ≠ X.env.locals → b ∉ X.fs → b ∉ ch → s.heap.get? b = some o → H b = none → h'.get? b = some o)
  (slot : ∀ b o, b ≠ X.env.locals → b ∈ X.fs → b ∉ ch → s.heap.get? b = some o → H b = none → ∃ sl, h'.get? b = some { o with slots := sl }) (free : ∀ b o, b ∉ ch → s.heap.get? b = some o → H b = none → H' b = none)
  (there : ∀ b o, b ∉ ch → s.heap.get? b = some o → ∃ o', h'.get? b = some o')
  (tups : ∀ b xs, H b = some (.tup xs) → H' b = some (.tup xs)) (frzs : ∀ b o u, H b = some (.frz o u) → H' b = some (.frz o u)) (tbls : ∀ b ps, H b = some (.tbl ps) → ∃ more, H' b = some (.tbl (ps ++ more)))
  (ns : ∀ m, s.heap.Ns X.env.locals m → h'.Ns X.env.locals m) (hok : HOk X.prog X.w H' h') (hg : AllBare g') :
  Inv X pins σ H' { s with heap := h', gens := g', drawn := d', toks := t' } := by
 have neL : ∀ b o, X.s₀.heap.get? b = some o → b ≠ X.env.locals := fun b o e => Nat.ne_of_lt (Nat.lt_of_lt_of_le (Heap.lt_size e) I.ok.above)
 have neC : ∀ b o, X.s₀.heap.get? b = some o → b ∉ X.ex → b ∉ ch := fun b o e hx hb => by
  rcases (hch b hb).1 with z | z
  ·exact hx z
  ·exact absurd (Nat.lt_of_lt_of_le (Heap.lt_size e) z) (Nat.lt_irrefl _)
 have cellK : ∀ x c, X.env.cells.lookup x = some c → ∀ v, s.heap.IsCell c v → h'.IsCell c v := fun x c e v ⟨o, ho, hd⟩ => by
  have nch : c ∉ ch := fun z => (hch c z).2.2.1 x c e rfl
  by_cases hc : c ∈ X.fs
  ·obtain ⟨sl, q⟩ := slot c o (I.cne x c e) hc nch ho (I.freeC x c e)
   exact ⟨_, q, hd⟩
  ·exact ⟨o, keep c o (I.cne x c e) hc nch ho (I.freeC x c e), hd⟩
 refine ⟨I.ok, I.os, hg, ⟨fun b o e n hb hx => ?_, fun b o e n hb hx => ?_, fun b o e n hx => ?_, fun b o e hx => ?_, fun b xs e => tups b xs (I.base.tups b xs e), fun b o xs e => frzs b o xs (I.base.frzs b o xs e), fun b ps e => ?_⟩, ?_, fun x c e => ?_, ?_, fun x c e => ?_, fun p hp => ?_, hok, I.len⟩
 ·exact keep b o (neL b o e) hb (neC b o e hx) (I.base.keep b o e n hb hx) (I.base.free b o e n hx)
 ·obtain ⟨sl, e1⟩ := I.base.slot b o e n hb hx
  obtain ⟨sl', e2⟩ := slot b _ (neL b o e) hb (neC b o e hx) e1 (I.base.free b o e n hx)
  exact ⟨sl', e2⟩
 ·obtain ⟨o', e1⟩ := I.base.there b o e hx
  exact free b o' (neC b o e hx) e1 (I.base.free b o e n hx)
 ·obtain ⟨o', e1⟩ := I.base.there b o e hx
  exact there b o' (neC b o e hx) e1
 ·obtain ⟨m1, e1⟩ := I.base.tbls b ps e
  obtain ⟨m2, e2⟩ := tbls b _ e1
  exact ⟨m1 ++ m2, by rw [e2, Array.append_assoc]⟩
 ·obtain ⟨m, hn, hl⟩ := I.loc
  refine ⟨m, ns m hn, fun i x v e1 e2 e3 => ?_⟩
  obtain ⟨u, r, l⟩ := hl i x v e1 e2 e3
  refine ⟨u, r, ?_⟩
  rcases l with l | ⟨k, c, e, z⟩
  ·exact .inl l
  ·exact .inr ⟨k, c, e, cellK x c e _ z⟩
 ·obtain ⟨v, z⟩ := I.cell x c e
  exact ⟨v, cellK x c e v z⟩
 ·obtain ⟨m, ⟨o, _, _, ho, _⟩, _⟩ := I.loc
  exact free _ o (fun z => (hch _ z).2.1 rfl) ho I.free
 ·obtain ⟨v, o, ho, hd⟩ := I.cell x c e
  exact free c o (fun z => (hch c z).2.2.1 x c e rfl) ho (I.freeC x c e)
 ·obtain ⟨e, n, ne, nf, d⟩ := I.pin p hp
  have nch : p.1 ∉ ch := fun z => (hch p.1 z).2.2.2 p hp rfl
  exact ⟨keep p.1 p.2 ne nf nch e n, free p.1 p.2 nch e n, ne, nf, d⟩
theorem Inv.un {t' : Nat} (I : Inv X pins σ H s) (u : Un X.fs [] H H' s.heap h') (hok : HOk X.prog X.w H' h') : Inv X pins σ H' { s with heap := h', toks := t' } := by
 obtain ⟨m, ⟨o, es, ep, ho, r⟩, _⟩ := id I.loc
 obtain ⟨sl, hL⟩ := u.any ho I.free (by simp)
 exact I.step (g' := s.gens) (d' := s.drawn) (ch := []) (fun _ z => nomatch z) (fun b o _ hb _ e n => u.keep b o e n hb (by simp)) (fun b o _ hb _ e n => u.slot b o e n hb (by simp)) (fun b o _ e n => u.free b o e n (by simp)) (fun b o _ e => u.there b o e (by simp)) u.tups u.frzs u.tbls (fun m' hm => by
  obtain ⟨o', es', ep', ho', r'⟩ := hm
  rw [ho] at ho'; cases ho'
  exact ⟨_, es', ep', hL, r'⟩) hok I.bare
theorem Inv.call {g' : Array GenState} {t' : Nat} {d' : Drawn} {ch : List Addr} (I : Inv X pins σ H s) (u : Un (frs X.stack) ch H H' s.heap h') (hok : HOk X.prog X.w H' h') (hg : AllBare g')
  (hch : ∀ b ∈ ch, (b ∈ X.ex ∨ X.s₀.heap.objs.size ≤ b) ∧ b ≠ X.env.locals ∧ (∀ x c, X.env.cells.lookup x = some c → c ≠ b) ∧ ∀ p ∈ X.pn ++ pins, p.1 ≠ b) :
  Inv X pins σ H' { s with heap := h', gens := g', drawn := d', toks := t' } := by
 obtain ⟨m, ⟨o, es, ep, ho, r⟩, _⟩ := id I.loc
 obtain ⟨sl, hL⟩ := u.any ho I.free fun z => (hch _ z).2.1 rfl
 exact I.step (ch := ch) hch (fun b o hL hb hc e n => u.keep b o e n (fun z => (List.mem_cons.mp (I.stkSub b z)).elim hL hb) hc) (fun b o _ _ hc e n => u.any e n hc) (fun b o hc e n => u.free b o e n hc) (fun b o hc e => u.there b o e hc) u.tups u.frzs u.tbls (fun m' hm => by
  obtain ⟨o', es', ep', ho', r'⟩ := hm
  rw [ho] at ho'; cases ho'
  exact ⟨_, es', ep', hL, r'⟩) hok hg
theorem Inv.turned {t' : Nat} {it : Addr} (I : Inv X pins σ H s) (k : ∀ b o, b ≠ it → s.heap.get? b = some o → h'.get? b = some o) (hn : H it = none) (hL : it ≠ X.env.locals)
  (h1 : it ∈ X.ex ∨ X.s₀.heap.objs.size ≤ it) (h2 : ∀ x c, X.env.cells.lookup x = some c → c ≠ it) (h3 : ∀ p ∈ X.pn ++ pins, p.1 ≠ it) : Inv X pins σ H { s with heap := h', toks := t' } := by
 have nit : ∀ b u, H b = some u → b ≠ it := fun b u e z => by rw [z, hn] at e; cases e
 refine I.step (g' := s.gens) (d' := s.drawn) (ch := [it]) (fun b hb => ?_) (fun b o _ _ hc e _ => k b o (fun z => hc (by simp [z])) e) (fun b o _ _ hc e _ => ⟨o.slots, k b o (fun z => hc (by simp [z])) e⟩) (fun _ _ _ _ n => n)
  (fun b o hc e => ⟨o, k b o (fun z => hc (by simp [z])) e⟩) (fun _ _ e => e) (fun _ _ _ e => e) (fun b ps e => ⟨#[], by rw [e]; simp⟩) (fun m hm => ?_) (fun b u e => ?_) I.bare
 ·have e : b = it := by simpa using hb
  subst e
  exact ⟨h1, hL, h2, h3⟩
 ·obtain ⟨o, es, ep, ho, r⟩ := hm
  exact ⟨o, es, ep, k _ o (Ne.symm hL) ho, r⟩
 ·refine (I.hok b u e).stay (fun c v hc q => k c v ?_ q) (fun _ q => q) fun _ _ q => q
  rcases hc with z | z
  ·rw [z]; exact nit b u e
  ·exact nit c _ z
theorem Inv.tok (I : Inv X pins σ H s) (t : Nat) : Inv X pins σ H { s with toks := t } := I.un (h' := s.heap) (t' := t) Un.refl I.hok
theorem Inv.kept {t' : Nat} (I : Inv X pins σ H s) (k : ∀ b u, s.heap.get? b = some u → h'.get? b = some u) : Inv X pins σ H { s with heap := h', toks := t' } := I.un (Un.kept k) (I.hok.kept k)
theorem Inv.laid {a : Addr} {o : HO} {t' : Nat} (I : Inv X pins σ H s) (k : ∀ b u, s.heap.get? b = some u → h'.get? b = some u) (hp : s.heap.objs.size ≤ a) (new : ObjOk X.prog X.w (upd H a o) h' a o) :
  Inv X pins σ (upd H a o) { s with heap := h', toks := t' } := I.un (Un.laid k hp (I.hok.fresh hp)) (I.hok.laid k hp new)
theorem Inv.write {x e : Addr} {o : HO} {t' : Nat} (I : Inv X pins σ H s) (mu : Mut (H x)) (he : e = x ∨ H e = some (.own x)) (k : ∀ b u, b ≠ e → s.heap.get? b = some u → h'.get? b = some u) (heo : ∃ u, h'.get? e = some u)
  (new : ObjOk X.prog X.w (upd H x o) h' x o) : Inv X pins σ (upd H x o) { s with heap := h', toks := t' } := I.un (Un.write mu he k heo) (I.hok.write mu he k heo new)
theorem Inv.pins_of {pins' : List (Addr × Obj)} (I : Inv X pins σ H s) (h : ∀ p ∈ pins', s.heap.get? p.1 = some p.2 ∧ H p.1 = none ∧ p.1 ≠ X.env.locals ∧ p.1 ∉ X.fs ∧ ∀ v, p.2.data ≠ .cell v) : Inv X pins' σ H s :=
 ⟨I.ok, I.os, I.bare, I.base, I.loc, I.cell, I.free, I.freeC, fun p hp => (List.mem_append.mp hp).elim (fun z => I.pin p (List.mem_append_left _ z)) (h p), I.hok, I.len⟩
theorem nodup_ix {N : List Str} (hN : N.Nodup) {i j : Nat} {x : Str} (a : N[i]? = some x) (b : N[j]? = some x) : i = j := by
 obtain ⟨h1, e1⟩ := List.getElem?_eq_some_iff.mp a
 obtain ⟨h2, e2⟩ := List.getElem?_eq_some_iff.mp b
 exact (List.getElem_inj hN).mp (e1.trans e2.symm)
theorem store_ok2 {M : Model} {A : Around} {E : Value → Shared → Prop} {i : Nat} {x : Str} {v : V} {u : Value} {Q : Unit → Shared → Prop} (I : Inv X pins σ H s) (hN : X.N.Nodup) (hi : X.N[i]? = some x) (hx : Loc X.env.scope x) (r : RelV v u)
  (h : ∀ s', Inv X pins (σ.set i (some v)) H s' → (∃ a, Heap.SameBut a s.heap s'.heap ∧ (a = X.env.locals ∨ X.env.cells.lookup x = some a)) → Q () s') (hf : X.fn x = true ∨ X.env.scope.names.lookup x = some .local := by first | exact .inl rfl | exact .inr rfl | assumption) : wpAny M A (storeName X.env x u) Q E s := by
 obtain ⟨m, hn, hl⟩ := id I.loc
 have hcls : (X.env.scope.kind == .class || (X.env.scope.kind == .module && X.env.locals != X.env.globals)) = false := by rw [I.ok.kind]; rfl
 have hiσ : i < σ.length := by rw [I.len]; exact (List.getElem?_eq_some_iff.mp hi).1
 have cne := I.cne
 have tracked : ∀ {a : Addr} {h' : Heap}, (∃ o, s.heap.get? a = some o ∧ H a = none) → Heap.SameBut a s.heap h' → HOk X.prog X.w H h' := fun {a h'} ha hs b ob e => by
  obtain ⟨_, _, hfree⟩ := ha
  refine (I.hok b ob e).stay (fun c w' hc q => (hs.2 c ?_).trans q) (fun _ q => q) fun _ _ q => q
  rintro rfl
  rcases hc with rfl | hc
  ·rw [hfree] at e; cases e
  ·rw [hfree] at hc; cases hc
 rcases hx with hk | hk
 ·refine wpAny_storeName_local hk hn (fun h' hn' hs => ?_) hcls
  obtain ⟨oL, _, _, hoL, _⟩ := id hn
  refine h _ ⟨I.ok, I.os, I.bare, ⟨fun b o e n hb hx => ?_, fun b o e n hb hx => ?_, I.base.free, fun b o e hx => ?_, I.base.tups, I.base.frzs, I.base.tbls⟩, ⟨_, hn', fun j y v' e1 e2 e3 => ?_⟩, fun y c e => ?_, I.free, I.freeC, fun p hp => ?_, tracked ⟨oL, hoL, I.free⟩ hs, by simpa using I.len⟩ ⟨_, hs, .inl rfl⟩
  ·exact (hs.2 b (Nat.ne_of_lt (Nat.lt_of_lt_of_le (Heap.lt_size e) I.ok.above))).trans (I.base.keep b o e n hb hx)
  ·obtain ⟨sl, e1⟩ := I.base.slot b o e n hb hx
   exact ⟨sl, (hs.2 b (Nat.ne_of_lt (Nat.lt_of_lt_of_le (Heap.lt_size e) I.ok.above))).trans e1⟩
  ·obtain ⟨o', e1⟩ := I.base.there b o e hx
   exact ⟨o', (hs.2 b (Nat.ne_of_lt (Nat.lt_of_lt_of_le (Heap.lt_size e) I.ok.above))).trans e1⟩
  ·by_cases hj : j = i
   ·subst hj
    rw [hi] at e1; cases e1
    rw [List.getElem?_set_self hiσ] at e2
    cases e2
    exact ⟨u, r, .inl ⟨hk, by simp⟩⟩
   ·rw [List.getElem?_set_ne (Ne.symm hj)] at e2
    obtain ⟨u', r', q⟩ := hl j y v' e1 e2 e3
    refine ⟨u', r', ?_⟩
    rcases q with ⟨k, e⟩ | ⟨k, c, e, z⟩
    ·refine .inl ⟨k, ?_⟩
     have : y ≠ x := fun e => hj (nodup_ix hN e1 (e ▸ hi))
     simp [this, e]
    ·exact .inr ⟨k, c, e, z.sameBut hs (cne y c e)⟩
  ·obtain ⟨w', z⟩ := I.cell y c e
   exact ⟨w', z.sameBut hs (cne y c e)⟩
  ·obtain ⟨e, n, ne, nf, d⟩ := I.pin p hp
   exact ⟨(hs.2 p.1 ne).trans e, n, ne, nf, d⟩
 ·have hfn : X.fn x = true := by
   rcases hf with z | z
   ·exact z
   ·rw [z] at hk; cases hk
  obtain ⟨c, hc⟩ := I.ok.has x (.inl hk)
  obtain ⟨w', z⟩ := I.cell x c hc
  refine wpAny_storeName_cell I.ok.kind hk hc z (fun h' hc' hs => ?_)
  obtain ⟨oc, hoc, hocd⟩ := id z
  refine h { s with heap := h' } ⟨I.ok, I.os, I.bare, ⟨fun b o e n hb hx => ?_, fun b o e n hb hx => ?_, I.base.free, fun b o e hx => ?_, I.base.tups, I.base.frzs, I.base.tbls⟩, ⟨m, hn.sameBut hs (Ne.symm (cne x c hc)), fun j y v' e1 e2 e3 => ?_⟩, fun y c' e => ?_, I.free, I.freeC, fun p hp => ?_, tracked ⟨oc, hoc, I.freeC x c hc⟩ hs, by simpa using I.len⟩ ⟨c, hs, .inr hc⟩
  ·exact (hs.2 b (Nat.ne_of_lt (Nat.lt_of_lt_of_le (Heap.lt_size e) (I.ok.cab x c hfn hc)))).trans (I.base.keep b o e n hb hx)
  ·obtain ⟨sl, e1⟩ := I.base.slot b o e n hb hx
   exact ⟨sl, (hs.2 b (Nat.ne_of_lt (Nat.lt_of_lt_of_le (Heap.lt_size e) (I.ok.cab x c hfn hc)))).trans e1⟩
  ·obtain ⟨o', e1⟩ := I.base.there b o e hx
   exact ⟨o', (hs.2 b (Nat.ne_of_lt (Nat.lt_of_lt_of_le (Heap.lt_size e) (I.ok.cab x c hfn hc)))).trans e1⟩
  ·by_cases hj : j = i
   ·subst hj
    rw [hi] at e1; cases e1
    rw [List.getElem?_set_self hiσ] at e2
    cases e2
    exact ⟨u, r, .inr ⟨.inl hk, c, hc, hc'⟩⟩
   ·rw [List.getElem?_set_ne (Ne.symm hj)] at e2
    obtain ⟨u', r', q⟩ := hl j y v' e1 e2 e3
    refine ⟨u', r', ?_⟩
    rcases q with q | ⟨k, c', e, z'⟩
    ·exact .inl q
    ·refine .inr ⟨k, c', e, z'.sameBut hs ?_⟩
     rintro rfl
     exact hj (nodup_ix hN e1 (I.ok.inj _ _ _ e hc ▸ hi))
  ·by_cases hcc : c' = c
   ·subst hcc; exact ⟨_, hc'⟩
   ·obtain ⟨w2, z2⟩ := I.cell y c' e
    exact ⟨w2, z2.sameBut hs hcc⟩
  ·obtain ⟨e, n, ne, nf, d⟩ := I.pin p hp
   refine ⟨(hs.2 p.1 ?_).trans e, n, ne, nf, d⟩
   intro q
   rw [q, hoc] at e
   have q' : oc = p.2 := Option.some.inj e
   exact d w' (by rw [← q']; exact hocd)
theorem store_ok {M : Model} {A : Around} {E : Value → Shared → Prop} {i : Nat} {x : Str} {v : V} {u : Value} {Q : Unit → Shared → Prop} (I : Inv X pins σ H s) (hN : X.N.Nodup) (hi : X.N[i]? = some x) (hx : Loc X.env.scope x) (r : RelV v u)
  (h : ∀ s', Inv X pins (σ.set i (some v)) H s' → Q () s') (hf : X.fn x = true ∨ X.env.scope.names.lookup x = some .local := by first | exact .inl rfl | exact .inr rfl | assumption) : wpAny M A (storeName X.env x u) Q E s :=
 store_ok2 I hN hi hx r (fun s' I' _ => h s' I') hf
theorem Inv.call' {s' : Shared} {ch : List Addr} (I : Inv X pins σ H s) (ho : s'.os = s.os) (u : Un (frs X.stack) ch H H' s.heap s'.heap) (hok : HOk X.prog X.w H' s'.heap) (hg : AllBare s'.gens)
  (hch : ∀ b ∈ ch, (b ∈ X.ex ∨ X.s₀.heap.objs.size ≤ b) ∧ b ≠ X.env.locals ∧ (∀ x c, X.env.cells.lookup x = some c → c ≠ b) ∧ ∀ p ∈ X.pn ++ pins, p.1 ≠ b) : Inv X pins σ H' s' := by
 obtain ⟨h', g', d', t', o'⟩ := s'
 have e : o' = s.os := ho
 subst e
 exact I.call (g' := g') (t' := t') (d' := d') u hok hg hch
end
abbrev XK := Value → Option Addr → Hp → Prop
abbrev St := List (Option V)
abbrev VK := V → Hp → Prop
abbrev TE := St → Hp → VK → Prop
abbrev TT := St → Hp → (Bool → Hp → Prop) → Prop
abbrev TA := St → Hp → (List V → Hp → Prop) → Prop
structure Ends where
 nx : St → Hp → Prop
 rt : VK
 bk : St → Hp → Prop := fun _ _ => False
 ct : St → Hp → Prop := fun _ _ => False
abbrev TS := Ends → St → Hp → Prop
def EP (X : Cx) (pins : List (Addr × Obj)) (σ : St) (Q : VK) (u : Value) (s' : Shared) : Prop := ∃ v H', Inv X pins σ H' s' ∧ RelV v u ∧ Q v H'
def TP (X : Cx) (pins : List (Addr × Obj)) (σ : St) (Q : Bool → Hp → Prop) (b : Bool) (s' : Shared) : Prop := ∃ H', Inv X pins σ H' s' ∧ Q b H'
def AP (X : Cx) (pins : List (Addr × Obj)) (σ : St) (Q : List V → Hp → Prop) (us : List Value) (s' : Shared) : Prop := ∃ vs H', Inv X pins σ H' s' ∧ Vals vs us ∧ Q vs H'
def SP (X : Cx) (pins : List (Addr × Obj)) (D : Ends) (f : Flow) (s' : Shared) : Prop :=
 match f with
 | .next => ∃ σ' H', Inv X pins σ' H' s' ∧ D.nx σ' H'
 | .brk => ∃ σ' H', Inv X pins σ' H' s' ∧ D.bk σ' H'
 | .cont => ∃ σ' H', Inv X pins σ' H' s' ∧ D.ct σ' H'
 | .ret u => ∃ v σ' H', Inv X pins σ' H' s' ∧ RelV v u ∧ D.rt v H'
def PE (X : Cx) (e : Expr) (t : TE) : Prop :=
 ∀ (pins : List (Addr × Obj)) (s : Shared) (σ : St) (H : Hp) (Q : VK), Inv X pins σ H s → t σ H Q → wpAny (model X.prog X.w) X.A (eval e X.env) (EP X pins σ Q) X.xe s
def PT (X : Cx) (e : Expr) (t : TT) : Prop :=
 ∀ (pins : List (Addr × Obj)) (s : Shared) (σ : St) (H : Hp) (Q : Bool → Hp → Prop), Inv X pins σ H s → t σ H Q → wpAny (model X.prog X.w) X.A (isTrue e X.env (eval e X.env)) (TP X pins σ Q) X.xe s
def PW (X : Cx) (e : Expr) (t : TT) : Prop :=
 ∀ (whole : Sem Value) (pins : List (Addr × Obj)) (s : Shared) (σ : St) (H : Hp) (Q : Bool → Hp → Prop), Inv X pins σ H s → t σ H Q → wpAny (model X.prog X.w) X.A (isTrue e X.env whole) (TP X pins σ Q) X.xe s
theorem PW.pt {X : Cx} {e : Expr} {t : TT} (h : PW X e t) : PT X e t := h _
def PA (X : Cx) (es : List Expr) (t : TA) : Prop :=
 ∀ (pos : Pos) (pins : List (Addr × Obj)) (s : Shared) (σ : St) (H : Hp) (Q : List V → Hp → Prop), Inv X pins σ H s → t σ H Q → wpAny (model X.prog X.w) X.A (spliced (backTo pos (starEach es X.env))) (AP X pins σ Q) X.xe s
def PS (X : Cx) (st : Stmt) (t : TS) : Prop :=
 ∀ (pins : List (Addr × Obj)) (s : Shared) (σ : St) (H : Hp) (D : Ends), Inv X pins σ H s → t D σ H → wpAny (model X.prog X.w) X.A (exec st X.env) (SP X pins D) X.xe s
def PSs (X : Cx) (st : List Stmt) (t : TS) : Prop :=
 ∀ (pins : List (Addr × Obj)) (s : Shared) (σ : St) (H : Hp) (D : Ends), Inv X pins σ H s → t D σ H → wpAny (model X.prog X.w) X.A (execs st X.env) (SP X pins D) X.xe s
theorem thn {α : Type} {t : Sem α} {Q Q' : α → Shared → Prop} {M : Model} {A : Around} {E : Value → Shared → Prop} {s : Shared} (h : wpAny M A t Q E s) (hQ : ∀ a s, Q a s → Q' a s) : wpAny M A t Q' E s := wpAny_mono h hQ fun _ _ x => x
end L2
namespace L2
open PySem PySem.Spec PyProof.Rows
section
variable {X : Cx}
def tVar (i : Nat) : TE := fun σ H Q => ∃ v, σ[i]? = some (some v) ∧ Q v H
def tC (v : V) : TE := fun _ H Q => Q v H
theorem pe_var {i : Nat} {x : Str} {pos : Pos} (hN : X.N[i]? = some x) (hv : Vis X.env.scope x) (hd : (x == ("__debug__" : Str)) = false := by decide) (hcd : (x == ("__classdict__" : Str)) = false := by decide) : PE X (.Name x pos) (tVar i) := by
 intro pins s σ H Q I h
 obtain ⟨v, e, h⟩ := h
 obtain ⟨m, hn, hl⟩ := I.loc
 obtain ⟨u, r, l⟩ := hl i x v hN e hv
 have fin : EP X pins σ Q u s := ⟨v, H, I, r, h⟩
 rcases l with ⟨hk, hm⟩ | ⟨hk, c, hc, hcell⟩
 ·exact wpAny_Name (wpAny_loadName_local I.ok.kind hk hn hm fin) hd
 ·rcases hk with hk | hk
  ·exact wpAny_Name (wpAny_loadName_cell I.ok.kind hk hc hcell fin) hd
  ·exact wpAny_Name (wpAny_loadName_free I.ok.kind hk hc hcell fin hcd) hd
theorem pe_int {i j pos} : PE X (.Constant (.int i) j pos) (tC (.int i)) := fun _ _ _ H _ I h => wpAny_Constant_int ⟨.int i, H, I.tok _, ⟨_, rfl⟩, h⟩
theorem pe_bl {b j pos} : PE X (.Constant (.bool b) j pos) (tC (.bl b)) := fun _ _ _ H _ I h => Constant_bool ⟨.bl b, H, I, rfl, h⟩
theorem pe_str {x j pos} : PE X (.Constant (.str x) j pos) (tC (.str x)) := fun _ _ _ H _ I h => Calls.Constant_str ⟨.str x, H, I.tok _, ⟨_, rfl⟩, h⟩
def Gl (X : Cx) (x : Str) : Prop := X.env.kindOf x = some .globalImplicit
theorem ld_glob {E : Value → Shared → Prop} {pins : List (Addr × Obj)} {s : Shared} {σ : St} {H : Hp} {x : Str} {u : Value} {pos : Pos} {Q : Value → Shared → Prop} (I : Inv X pins σ H s) (hg : Gl X x) (hm : X.mg x = some u) (h : Q u s)
  (hd : (x == ("__debug__" : Str)) = false := by decide) : wpAny (model X.prog X.w) X.A (eval (.Name x pos) X.env) Q E s :=
 Calls.Name_function_global I.ok.kind hg (Calls.loadGlobal_global (by rw [I.ok.glob]; exact I.mod.glob.keeps I.bk) hm h) hd
theorem ld_blt {E : Value → Shared → Prop} {pins : List (Addr × Obj)} {s : Shared} {σ : St} {H : Hp} {x : Str} {u : Value} {pos : Pos} {Q : Value → Shared → Prop} (I : Inv X pins σ H s) (hg : Gl X x) (hm : X.mg x = none) (hv : bootBuiltins x = some u) (h : Q u s)
  (hn : x ≠ "__name__" := by decide) (hd : (x == ("__debug__" : Str)) = false := by decide) : wpAny (model X.prog X.w) X.A (eval (.Name x pos) X.env) Q E s := by
 obtain ⟨mb, h1, h2⟩ := I.mod.blt
 exact Calls.Name_function_global I.ok.kind hg (Calls.loadGlobal_builtin (by rw [I.ok.glob]; exact I.mod.glob.keeps I.bk) hm (by rw [I.ok.blt]; exact h1.keeps I.bk) ((h2 x hn).trans hv) h) hd
theorem pe_glob {x : Str} {v : V} {u : Value} {pos : Pos} (hg : Gl X x) (hm : X.mg x = some u) (r : RelV v u) (hd : (x == ("__debug__" : Str)) = false := by decide) : PE X (.Name x pos) (tC v) :=
 fun _ _ _ H _ I h => ld_glob I hg hm ⟨v, H, I, r, h⟩ hd
theorem pe_bltn {x : Str} {v : V} {u : Value} {pos : Pos} (hg : Gl X x) (hm : X.mg x = none) (hv : bootBuiltins x = some u) (r : RelV v u) (hn : x ≠ "__name__" := by decide) (hd : (x == ("__debug__" : Str)) = false := by decide) : PE X (.Name x pos) (tC v) :=
 fun _ _ _ H _ I h => ld_blt I hg hm hv ⟨v, H, I, r, h⟩ hn hd
variable {a b : Expr} {ta tb : TE} {pos : Pos}
def PC (X : Cx) (op : CmpOp) (a b : Expr) (t : TE) : Prop :=
 ∀ (pins : List (Addr × Obj)) (s : Shared) (σ : St) (H : Hp) (Q : VK), Inv X pins σ H s → t σ H Q →
  wpAny (model X.prog X.w) X.A (eval a X.env) (fun v s₁ => wpAny (model X.prog X.w) X.A (eval b X.env) (fun u s₂ => wpAny (model X.prog X.w) X.A (compareOp op v u) (EP X pins σ Q) X.xe s₂) X.xe s₁) X.xe s
def tB (t : TE) : TT := fun σ H Q => t σ H fun x H1 => ∃ c, x = .bl c ∧ Q c H1
theorem pt_cmp {op : CmpOp} {t : TE} (h : PC X op a b t) (h1 : behindInMarks op b = false := by first | exact nobehind _ (by decide) (by decide) | rfl) : PT X (.Compare a [op] [b] pos) (tB t) := by
 intro pins s σ H Q I hw
 refine wpAny_isTrue_Compare1 (thn (h pins s σ H _ I hw) fun v s1 h1 => thn h1 fun u s2 h2 => thn h2 fun c s3 ⟨x, H1, I1, r1, q1⟩ => ?_) h1
 obtain ⟨d, rfl, q⟩ := q1
 cases r1
 exact wpAny_truthy_bool ⟨H1, I1, q⟩
theorem pt_val {e : Expr} {t : TE} (h : PE X e t) (he : ∀ whole, isTrue e X.env whole = (do let v ← whole; standAt e.pos; holding [v] (truthy v)) := by intro _; rfl) : PT X e (tB t) := by
 intro pins s σ H Q I hw
 refine isTrue_plain (thn (h pins s σ H _ I hw) fun v s1 ⟨x, H1, I1, r1, q1⟩ => ?_) (he _)
 obtain ⟨d, rfl, q⟩ := q1
 cases r1
 exact wpAny_truthy_bool ⟨H1, I1, q⟩
variable {tA tB' : TT} {rest : List Expr}
def tOr (t u : TT) : TT := fun σ H Q => t σ H fun c H1 => if c = true then Q true H1 else u σ H1 Q
def tNot (t : TT) : TT := fun σ H Q => t σ H fun c H1 => Q (!c) H1
theorem pw_or1 (ha : PT X a tA) : PW X (.BoolOp .Or [a] pos) tA := by
 intro wh pins s σ H Q I h
 refine isTrue_or (thn (ha pins s σ H Q I h) fun c s1 e => ?_)
 cases c with
 | false => exact isTrue_or_nil e
 | true => exact e
theorem pw_or (ha : PT X a tA) (hb : PW X (.BoolOp .Or (b :: rest) pos) tB') : PW X (.BoolOp .Or (a :: b :: rest) pos) (tOr tA tB') := by
 intro wh pins s σ H Q I h
 refine isTrue_or (thn (ha pins s σ H _ I h) fun c s1 ⟨H1, I1, q1⟩ => ?_)
 cases c with
 | true => exact ⟨H1, I1, q1⟩
 | false => exact hb wh pins s1 σ H1 Q I1 q1
theorem pt_not (ha : PT X a tA) : PT X (.UnaryOp .Not a pos) (tNot tA) := by
 intro pins s σ H Q I h
 exact isTrue_not (ha pins s σ H (fun c H1 => Q (!c) H1) I h)
def tAndV (ta tb : TE) : TE := fun σ H Q => ta σ H fun x H1 => ∃ c, x = .bl c ∧ if c = true then tb σ H1 Q else Q (.bl false) H1
def tNotV (ta : TE) : TE := fun σ H Q => ta σ H fun x H1 => ∃ c, x = .bl c ∧ Q (.bl (!c)) H1
theorem pe_one {op} {t : TE} (h : PE X a t) : PE X (.BoolOp op [a] pos) t := fun pins s σ H Q I hw => BoolOp_one (h pins s σ H Q I hw)
theorem pe_and (ha : PE X a ta) (hb : PE X (.BoolOp .And (b :: rest) pos) tb) : PE X (.BoolOp .And (a :: b :: rest) pos) (tAndV ta tb) := by
 intro pins s σ H Q I h
 refine BoolOp_and (thn (ha pins s σ H _ I h) fun v s1 ⟨x, H1, I1, r1, q1⟩ => ?_)
 obtain ⟨c, rfl, q1⟩ := q1
 cases r1
 refine wpAny_truthy_bool ?_
 cases c with
 | true => exact hb pins s1 σ H1 Q I1 q1
 | false => exact ⟨.bl false, H1, I1, rfl, q1⟩
theorem pe_not (ha : PE X a ta) : PE X (.UnaryOp .Not a pos) (tNotV ta) := by
 intro pins s σ H Q I h
 refine UnaryOp_ (thn (ha pins s σ H _ I h) fun v s1 ⟨x, H1, I1, r1, q1⟩ => ?_)
 obtain ⟨c, rfl, q1⟩ := q1
 cases r1
 exact not_of (wpAny_truthy_bool ⟨.bl (!c), H1, I1, rfl, q1⟩)
end
end L2
namespace L2
open PySem PySem.Spec PyProof.Rows
def SqL (K : PySem.W.Frag) (H : Hp) (a : Addr) (xs : List V) : Prop :=
 Rd H a (.lst xs) ∨
  ∃ (o : Obj) (its : Array Value) (n : Nat), K.lookup a = some o ∧ o.cls = .type "list" ∧ o.dict = none ∧ o.data = .seq its n ∧ its.size ≤ sizeLine ∧ Vals xs its.toList
def SqT (K : PySem.W.Frag) (H : Hp) (a : Addr) (xs : List V) : Prop :=
 Rd H a (.tup xs) ∨
  ∃ (o : Obj) (its : Array Value) (n : Nat), K.lookup a = some o ∧ o.cls = .type "tuple" ∧ o.data = .seq its n ∧ its.size ≤ sizeLine ∧ Vals xs its.toList
def absV : Value → Option V
 | .none => some .non
 | .bool b => some (.bl b)
 | .int i _ => some (.int i)
 | .str x _ => some (.str x)
 | .bytes b _ => some (.byt b)
 | .float b _ => some (.flt b)
 | .ref a => some (.ref a)
 | .type n => some (.ty n)
 | _ => none
theorem RelV.abs {x : V} {u : Value} (r : RelV x u) : absV u = some x := by
 cases x with
 | non => cases r; rfl
 | bl _ => cases r; rfl
 | int _ => obtain ⟨t, rfl⟩ := r; rfl
 | str _ => obtain ⟨t, rfl⟩ := r; rfl
 | byt _ => obtain ⟨t, rfl⟩ := r; rfl
 | flt _ => obtain ⟨t, rfl⟩ := r; rfl
 | ref _ => cases r; rfl
 | ty _ => cases r; rfl
theorem RelV.inj {x y : V} {u : Value} (r : RelV x u) (q : RelV y u) : x = y := Option.some.inj (r.abs.symm.trans q.abs)
theorem Vals.inj : ∀ {xs ys : List V} {us : List Value}, Vals xs us → Vals ys us → xs = ys
 | _, _, _, .nil, .nil => rfl
 | _, _, _, .cons r t, .cons r' t' => by rw [r.inj r', Vals.inj t t']
section
variable {X : Cx} {pins : List (Addr × Obj)} {σ : St} {H : Hp} {s : Shared} {a : Addr} {xs ys : List V}
theorem SqL.of {K : PySem.W.Frag} (h : H a = some (.lst xs)) : SqL K H a xs := .inl (.inl h)
theorem SqT.of {K : PySem.W.Frag} (h : H a = some (.tup xs)) : SqT K H a xs := .inl (.inl h)
theorem Inv.list (I : Inv X pins σ H s) (h : SqL X.K H a xs) : ∃ its : List Value, Vals xs its ∧ PlainL s.heap a its.toArray ∧ xs.length ≤ sizeLine := by
 rcases h with h | ⟨o, its, n, hk, hc, hd, hs, hz, r⟩
 ·obtain ⟨z, its, n, r, e⟩ := h.ok I.hok
  exact ⟨its, r, ⟨_, n, e, rfl, rfl, rfl⟩, z⟩
 ·refine ⟨its.toList, r, ⟨o, n, I.kIn a o hk, hc, hd, by simpa using hs⟩, ?_⟩
  have e := r.length
  simp only [Array.length_toList] at e
  omega
theorem Inv.tuple (I : Inv X pins σ H s) (h : SqT X.K H a xs) : ∃ its : List Value, Vals xs its ∧ IsTup s.heap a its.toArray ∧ xs.length ≤ sizeLine := by
 rcases h with h | ⟨o, its, n, hk, hc, hs, hz, r⟩
 ·obtain ⟨z, its, r, p⟩ := h.ok I.hok
  exact ⟨its, r, p, z⟩
 ·refine ⟨its.toList, r, ⟨o, I.kIn a o hk, hc, n, by simpa using hs⟩, ?_⟩
  have e := r.length
  simp only [Array.length_toList] at e
  omega
theorem Inv.list_inj (I : Inv X pins σ H s) (h : SqL X.K H a xs) (h' : SqL X.K H a ys) : xs = ys := by
 obtain ⟨its, r, ⟨o, n, e, _, _, d⟩, _⟩ := I.list h
 obtain ⟨its', r', ⟨o', n', e', _, _, d'⟩, _⟩ := I.list h'
 rw [e] at e'; cases e'
 rw [d] at d'
 injection d' with d1 _
 have : its = its' := by simpa using congrArg Array.toList d1
 subst this
 exact r.inj r'
theorem Inv.tuple_inj (I : Inv X pins σ H s) (h : SqT X.K H a xs) (h' : SqT X.K H a ys) : xs = ys := by
 obtain ⟨its, r, ⟨o, e, _, n, d⟩, _⟩ := I.tuple h
 obtain ⟨its', r', ⟨o', e', _, n', d'⟩, _⟩ := I.tuple h'
 rw [e] at e'; cases e'
 rw [d] at d'
 injection d' with d1 _
 have : its = its' := by simpa using congrArg Array.toList d1
 subst this
 exact r.inj r'
end
abbrev Cx.wish (X : Cx) (E : Value → Shared → Prop) : Cx := { X with xe := E }
abbrev Cx.nox (X : Cx) : Cx := X.wish fun _ _ => False
theorem Cx.Ok.wish {X : Cx} (ok : X.Ok) (E : Value → Shared → Prop) : (X.wish E).Ok :=
 ⟨ok.mod, ok.kind, ok.glob, ok.blt, ok.above, ok.inj, ok.has, ok.cab, ok.hd, ok.frames, ok.stk, ok.exf, ok.bs, ok.bsz, ok.noex, ok.exfs, ok.funs, ok.frf⟩
theorem Cx.Ok.unwish {X : Cx} {E : Value → Shared → Prop} (ok : (X.wish E).Ok) : X.Ok :=
 ⟨ok.mod, ok.kind, ok.glob, ok.blt, ok.above, ok.inj, ok.has, ok.cab, ok.hd, ok.frames, ok.stk, ok.exf, ok.bs, ok.bsz, ok.noex, ok.exfs, ok.funs, ok.frf⟩
section
variable {X : Cx} {pins : List (Addr × Obj)} {σ : St} {H : Hp} {s : Shared} {E : Value → Shared → Prop}
theorem Inv.wish (I : Inv X pins σ H s) (E : Value → Shared → Prop) : Inv (X.wish E) pins σ H s := ⟨I.ok.wish E, I.os, I.bare, I.base, I.loc, I.cell, I.free, I.freeC, I.pin, I.hok, I.len⟩
theorem Inv.unwish (I : Inv (X.wish E) pins σ H s) : Inv X pins σ H s := ⟨I.ok.unwish, I.os, I.bare, I.base, I.loc, I.cell, I.free, I.freeC, I.pin, I.hok, I.len⟩
theorem SP.unwish {D : Ends} {f : Flow} {s' : Shared} (h : SP (X.wish E) pins D f s') : SP X pins D f s' := by
 cases f with
 | next => obtain ⟨σ', H', I, q⟩ := h; exact ⟨σ', H', I.unwish, q⟩
 | brk => obtain ⟨σ', H', I, q⟩ := h; exact ⟨σ', H', I.unwish, q⟩
 | cont => obtain ⟨σ', H', I, q⟩ := h; exact ⟨σ', H', I.unwish, q⟩
 | ret u => obtain ⟨v, σ', H', I, r, q⟩ := h; exact ⟨v, σ', H', I.unwish, r, q⟩
theorem PSs.nox {st : List Stmt} {t : TS} (h : PSs X.nox st t) : PSs X st t := fun pins s σ H D I hw =>
 wpAny_mono (h pins s σ H D (I.wish _) hw) (fun _ _ q => q.unwish) fun _ _ z => False.elim z
end
section
variable {X : Cx} {st : Stmt} {rest : List Stmt} {t u : TS} {e : Expr} {te : TE} {pos : Pos}
def tNext : TS := fun D σ H => D.nx σ H
def tSeq (t u : TS) : TS := fun D σ H => t { D with nx := u D } σ H
theorem pss_nil : PSs X [] tNext := fun _ _ σ H _ I h => wpAny_execs_nil ⟨σ, H, I, h⟩
theorem pss_cons (h1 : PS X st t) (h2 : PSs X rest u) : PSs X (st :: rest) (tSeq t u) := by
 intro pins s σ H D I h
 refine wpAny_execs_cons (thn (h1 pins s σ H { D with nx := u D } I h) fun f s1 q => ?_)
 cases f with
 | next =>
  obtain ⟨σ', H', I', q⟩ := q
  exact h2 pins s1 σ' H' D I' q
 | ret v => exact q
 | brk => exact q
 | cont => exact q
theorem pss_one (h1 : PS X st t) : PSs X [st] t := by
 intro pins s σ H D I h
 refine wpAny_execs_cons (thn (h1 pins s σ H D I h) fun f s1 q => ?_)
 cases f with
 | next => exact wpAny_execs_nil q
 | ret v => exact q
 | brk => exact q
 | cont => exact q
theorem Inv.quiet {pins : List (Addr × Obj)} {σ : St} {H : Hp} {s : Shared} (I : Inv X pins σ H s) : interactive X.env = false := by simp [interactive, I.ok.kind]
def tDrop (te : TE) : TS := fun D σ H => te σ H fun _ H1 => D.nx σ H1
theorem ps_expr (he : PE X e te) (hs : swapsWith e none pos.line X.env = pure false := by rfl) : PS X (.Expr e pos) (tDrop te) := by
 intro pins s σ H D I h
 exact wpAny_Expr_any (thn (he pins s σ H _ I h) fun v s1 ⟨x, H1, I1, r1, q1⟩ => ⟨σ, H1, I1, q1⟩) I.quiet hs
def tRet (te : TE) : TS := fun D σ H => te σ H D.rt
theorem ps_ret (he : PE X e te) : PS X (.Return (some e) pos) (tRet te) := by
 intro pins s σ H D I h
 exact wpAny_Return_some (thn (he pins s σ H _ I h) fun v s1 ⟨x, H1, I1, r1, q1⟩ => ⟨x, σ, H1, I1, r1, q1⟩)
def tIfS (c : TT) (t u : TS) : TS := fun D σ H => c σ H fun b H1 => if b = true then t D σ H1 else u D σ H1
theorem ps_if {c : Expr} {a b : List Stmt} {tc : TT} (hc : PT X c tc) (ha : PSs X a t) (hb : PSs X b u) : PS X (.If c a b pos) (tIfS tc t u) := by
 intro pins s σ H D I h
 refine wpAny_If (thn (hc pins s σ H _ I h) fun d s1 ⟨H1, I1, q1⟩ => ?_)
 cases d with
 | true => exact ha pins s1 σ H1 D I1 q1
 | false => exact hb pins s1 σ H1 D I1 q1
def tNever : TS := fun _ _ _ => False
theorem ps_never : PS X st tNever := fun _ _ _ _ _ _ h => h.elim
end
abbrev TG := V → St → Hp → (St → Hp → Prop) → Prop
abbrev TGs := List V → St → Hp → (St → Hp → Prop) → Prop
def PG (X : Cx) (target : Expr) (t : TG) : Prop :=
 ∀ (pins : List (Addr × Obj)) (s : Shared) (σ : St) (H : Hp) (v : V) (u : Value) (Q : St → Hp → Prop), Inv X pins σ H s → RelV v u → t v σ H Q →
  wpAny (model X.prog X.w) X.A (assign target X.env u) (fun _ s' => ∃ σ' H', Inv X pins σ' H' s' ∧ Q σ' H') X.xe s
def PGs (X : Cx) (ts : List Expr) (t : TGs) : Prop :=
 ∀ (pins : List (Addr × Obj)) (s : Shared) (σ : St) (H : Hp) (vs : List V) (us : List Value) (Q : St → Hp → Prop), Inv X pins σ H s → Vals vs us → t vs σ H Q →
  wpAny (model X.prog X.w) X.A (assignInOrder ((assignEach ts X.env).map (·.2)) us) (fun _ s' => ∃ σ' H', Inv X pins σ' H' s' ∧ Q σ' H') X.xe s
abbrev TSet := V → V → V → Hp → (Hp → Prop) → Prop
def PSet (X : Cx) (t : TSet) : Prop :=
 ∀ (pins : List (Addr × Obj)) (s : Shared) (σ : St) (H : Hp) (o i v : V) (ov iv u : Value) (Q : Hp → Prop), Inv X pins σ H s → RelV o ov → RelV i iv → RelV v u → t o i v H Q →
  wpAny (model X.prog X.w) X.A (setItem ov iv u) (fun _ s' => ∃ H', Inv X pins σ H' s' ∧ Q H') X.xe s
section
variable {X : Cx} {pos : Pos}
def gName (i : Nat) : TG := fun v σ H Q => Q (σ.set i (some v)) H
theorem pg_name {i : Nat} {x : Str} (hN : X.N.Nodup) (hi : X.N[i]? = some x) (hx : Loc X.env.scope x) (hf : X.fn x = true ∨ X.env.scope.names.lookup x = some .local := by first | exact .inl rfl | exact .inr rfl | assumption) : PG X (.Name x pos) (gName i) := by
 intro pins s σ H v u Q I r h
 exact wpAny_assign_Name (store_ok I hN hi hx r (fun s' I' => ⟨_, H, I', h⟩) hf)
def gNil : TGs := fun vs σ H Q => vs = [] ∧ Q σ H
def gCons (t : TG) (u : TGs) : TGs := fun vs σ H Q => ∃ v r, vs = v :: r ∧ t v σ H fun σ' H' => u r σ' H' Q
theorem pgs_nil : PGs X [] gNil := by
 intro pins s σ H vs us Q I r h
 obtain ⟨e, h⟩ := h
 subst e
 cases r
 exact assignInOrder_nil ⟨σ, H, I, h⟩
theorem pgs_cons {e : Expr} {es : List Expr} {t : TG} {u : TGs} (h1 : PG X e t) (h2 : PGs X es u)
  (hs : (assignEach (e :: es) X.env).map (·.2) = assign e X.env :: (assignEach es X.env).map (·.2) := by rfl) : PGs X (e :: es) (gCons t u) := by
 intro pins s σ H vs us Q I r h
 obtain ⟨v, vr, e1, h⟩ := h
 subst e1
 cases r with
 | cons r rr =>
  rw [hs]
  refine assignInOrder_cons (thn (h1 pins s σ H _ _ _ I r h) fun _ s1 ⟨σ1, H1, I1, q1⟩ => ?_)
  exact h2 pins s1 σ1 H1 _ _ Q I1 rr q1
def gTup (K : PySem.W.Frag) (n : Nat) (t : TGs) : TG := fun v σ H Q => ∃ a xs, v = .ref a ∧ SqT K H a xs ∧ xs.length = n ∧ t xs σ H Q
theorem pg_tup {es : List Expr} {k : Nat} {t : TGs} {n : Nat} (hc : X.calm = true) (h : PGs X es t)
  (hn : (assignEach es X.env).length = n := by rfl) (hst : (assignEach es X.env).findIdx? (·.1) = none := by rfl) : PG X (.Tuple es k pos) (gTup X.K n t) := by
 intro pins s σ H v u Q I r hw
 obtain ⟨a, xs, e1, hq, hl, hw⟩ := hw
 subst e1
 cases r
 obtain ⟨its, rv, ht, hz⟩ := I.tuple hq
 refine assign_Tuple_tuple (I.ok.hd hc) ht (by simp [hn, ← hl, rv.length]) hst fun h' hx => ?_
 have I1 : Inv X pins σ H { s with heap := h' } := I.kept (t' := s.toks) fun b o e => hx b o (Nat.ne_of_lt (Heap.lt_size e)) e
 exact h pins _ σ H xs _ Q I1 (by simpa using rv) hw
def gSub (to ti : TE) (t : TSet) : TG := fun v σ H Q => to σ H fun o H1 => ti σ H1 fun i H2 => t o i v H2 fun H3 => Q σ H3
theorem pg_sub {o i : Expr} {to ti : TE} {t : TSet} (ho : PE X o to) (hi : PE X i ti) (hs : PSet X t)
  (ha : ∀ v, assign (.Subscript o i pos) X.env v = (do
   let ov ← holding [v] (eval o X.env)
   let iv ← holding [v, ov] (eval i X.env)
   standAt pos
   holding [v, ov, iv] (setItem ov iv v)
   release [v, ov, iv] []) := by intro _; rfl) : PG X (.Subscript o i pos) (gSub to ti t) := by
 intro pins s σ H v u Q I r h
 rw [ha]
 refine wpAny_bind (wpAny_holding (thn (ho pins s σ H _ I h) fun ov s1 ⟨x, H1, I1, r1, q1⟩ => ?_))
 refine wpAny_bind (wpAny_holding (thn (hi pins s1 σ H1 _ I1 q1) fun iv s2 ⟨y, H2, I2, r2, q2⟩ => ?_))
 refine wpAny_bind (wpAny_standAt (wpAny_bind (wpAny_holding (thn (hs pins s2 σ H2 x y v ov iv u _ I2 r1 r2 r q2) fun _ s3 ⟨H3, I3, q3⟩ => ?_))))
 exact wpAny_release ⟨σ, H3, I3, q3⟩
def tAsg (te : TE) (g : TG) : TS := fun D σ H => te σ H fun x H1 => g x σ H1 D.nx
theorem ps_asg {tg e : Expr} {te : TE} {g : TG} (he : PE X e te) (hg : PG X tg g) (hs : swapsWithSole [tg] e pos.line X.env = pure false := by rfl) (hw : swappedStores [tg] e X.env = pure none := by rfl)
  (h1 : (assignEach [tg] X.env).map (·.2) = [assign tg X.env] := by rfl) : PS X (.Assign [tg] e pos) (tAsg te g) := by
 intro pins s σ H D I h
 refine wpAny_Assign_stores (thn (he pins s σ H _ I h) fun v s1 ⟨x, H1, I1, r1, q1⟩ => ?_) hs hw
 rw [h1]
 exact thn (hg pins s1 σ H1 x v _ I1 r1 q1) fun _ s2 q => q
theorem ps_set {i : Nat} {x : Str} {e : Expr} {te : TE} {pos' : Pos} (hN : X.N.Nodup) (hi : X.N[i]? = some x) (hx : Loc X.env.scope x) (he : PE X e te) (hs : swapsWith e (some (.Name x pos')) pos.line X.env = pure false := by rfl) (hf : X.fn x = true ∨ X.env.scope.names.lookup x = some .local := by first | exact .inl rfl | exact .inr rfl | assumption) :
  PS X (.Assign [.Name x pos'] e pos) (tAsg te (gName i)) := by
 intro pins s σ H D I h
 refine wpAny_Assign_Name (thn (he pins s σ H _ I h) fun v s1 ⟨y, H1, I1, r1, q1⟩ => ?_) hs
 exact store_ok I1 hN hi hx r1 (fun s2 I2 => ⟨_, H1, I2, q1⟩) hf
end
section
variable {X : Cx} {pos : Pos}
end
structure It where
 go : Nat → Hp → Prop
 yld : Nat → Hp → V → Hp → Prop
 stop : Nat → Hp → Prop
def FpOk (X : Cx) (pins : List (Addr × Obj)) (H : Hp) (b : Addr) : Prop :=
 H b = none ∧ b ≠ X.env.locals ∧ b ∉ X.fs ∧ (b ∈ X.ex ∨ X.s₀.heap.objs.size ≤ b) ∧ (∀ x c, X.env.cells.lookup x = some c → c ≠ b) ∧ ∀ p ∈ X.pn ++ pins, p.1 ≠ b
theorem Inv.fpOk {X : Cx} {pins : List (Addr × Obj)} {σ : St} {H H' : Hp} {s : Shared} {b : Addr} (I : Inv X pins σ H s) (hb : s.heap.objs.size ≤ b) (hn : H' b = none) : FpOk X pins H' b := by
 refine ⟨hn, Nat.ne_of_gt (Nat.lt_of_lt_of_le I.lt hb), I.nofs hb, .inr (Nat.le_trans I.sz hb), fun x c e z => ?_, fun p hp z => ?_⟩
 ·obtain ⟨v, q⟩ := I.cell x c e
  exact absurd (Nat.lt_of_lt_of_le q.lt (by rw [z]; exact hb)) (Nat.lt_irrefl _)
 ·exact absurd (Nat.lt_of_lt_of_le (Heap.lt_size (I.pin p hp).1) (by rw [z]; exact hb)) (Nat.lt_irrefl _)
structure Turn (P : Program) (w : World) (K : PySem.W.Frag) (tg : Expr) (J : It) (fp : List Addr) (it : Addr) (tn : Nat → Heap → Prop) : Prop where
 mem : it ∈ fp
 obj : ∀ i h, tn i h → ∀ b ∈ fp, ∃ o, h.get? b = some o ∧ ∀ v, o.data ≠ .cell v
 keep : ∀ i h h', tn i h → (∀ b ∈ fp, ∀ o, h.get? b = some o → h'.get? b = some o) → tn i h'
 item : ∀ (X : Cx), X.prog = P → X.w = w → X.K = K → X.calm = true → ∀ (i : Nat) (pins : List (Addr × Obj)) (s : Shared) (σ : St) (H : Hp) (E : Value → Shared → Prop), Inv X pins σ H s → (∀ b ∈ fp, FpOk X pins H b) → tn i s.heap → J.go i H →
  wpAny (model P w) X.A (pyNext (.ref it)) (fun r s1 => ∃ u, r = some u ∧
   wpAny (model P w) X.A (letOwnedTupleGo tg (.ref it) u) (fun _ s2 => ∃ x H', Inv X pins σ H' s2 ∧ RelV x u ∧ J.yld i H x H' ∧ tn (i + 1) s2.heap ∧ ∀ b ∈ fp, H' b = none) E s1) E s
 done : ∀ (X : Cx), X.prog = P → X.w = w → X.K = K → X.calm = true → ∀ (i : Nat) (pins : List (Addr × Obj)) (s : Shared) (σ : St) (H : Hp) (E : Value → Shared → Prop), Inv X pins σ H s → (∀ b ∈ fp, FpOk X pins H b) → tn i s.heap → J.stop i H →
  wpAny (model P w) X.A (pyNext (.ref it)) (fun r s1 => r = none ∧ Inv X pins σ H s1) E s
 self : ∀ (A : Around) (i : Nat) (s : Shared) (Q : Value → Shared → Prop) (E : Value → Shared → Prop), tn i s.heap → Q (.ref it) s → wpAny (model P w) A (pyIter (.ref it)) Q E s
abbrev TI := St → Hp → (It → Hp → Prop) → Prop
def PIE (X : Cx) (pins : List (Addr × Obj)) (σ : St) (tg : Expr) (R : It → Hp → Prop) (itv : Value) (s2 : Shared) : Prop :=
 ∃ (it : Addr) (fp : List Addr) (tn : Nat → Heap → Prop) (J : It) (H' : Hp), itv = .ref it ∧ Inv X pins σ H' s2 ∧ Turn X.prog X.w X.K tg J fp it tn ∧ tn 0 s2.heap ∧ (∀ b ∈ fp, FpOk X pins H' b) ∧ R J H'
def PI (X : Cx) (tg iter : Expr) (wi : TI) : Prop :=
 ∀ (pins : List (Addr × Obj)) (s : Shared) (σ : St) (H : Hp) (R : It → Hp → Prop), Inv X pins σ H s → wi σ H R →
  wpAny (model X.prog X.w) X.A (eval iter X.env) (fun v s1 => wpAny (model X.prog X.w) X.A (pyIter v) (PIE X pins σ tg R) X.xe s1) X.xe s
theorem go_of {M : Model} {A : Around} {E : Value → Shared → Prop} {s : Shared} {tg : Expr} {it : Addr} {u : Value} {o : Obj} {n : String} {vs : Array Value} {Q : Unit → Shared → Prop} (ho : s.heap.get? it = some o) (hc : o.cls = .type n) (hd : o.data = .fields vs)
    (hn : ["enumerate", "zip", "dict_itemiterator", "dict_reverseitemiterator", "odict_iterator", "itertools.zip_longest", "itertools.pairwise"].contains n = false) (hQ : Q () s) : wpAny M A (letOwnedTupleGo tg (.ref it) u) Q E s := by
  unfold letOwnedTupleGo
  cases tg <;> first
    | exact wpAny_pure hQ
    | (cases u <;> first
        | exact wpAny_pure hQ
        | (refine wpAny_bind (wpAny_load ho ?_)
           rw [hc, hd]
           show wpAny M A (if (["enumerate", "zip", "dict_itemiterator", "dict_reverseitemiterator", "odict_iterator", "itertools.zip_longest", "itertools.pairwise"].contains n && vs[0]? == some (rawInt _)) = true then _ else _) Q E s
           rw [if_neg (by intro h; rw [hn, Bool.false_and] at h; cases h)]
           exact wpAny_pure hQ))
def Itl (K : PySem.W.Frag) (a : Addr) : It :=
 ⟨fun i H => ∃ xs x, SqL K H a xs ∧ xs[i]? = some x, fun i H x H' => H' = H ∧ ∀ xs, SqL K H a xs → xs[i]? = some x, fun i H => ∃ xs, SqL K H a xs ∧ xs.length ≤ i⟩
def Itt (K : PySem.W.Frag) (a : Addr) : It :=
 ⟨fun i H => ∃ xs x, SqT K H a xs ∧ xs[i]? = some x, fun i H x H' => H' = H ∧ ∀ xs, SqT K H a xs → xs[i]? = some x, fun i H => ∃ xs, SqT K H a xs ∧ xs.length ≤ i⟩
def Itr (lo : Int) (n : Nat) : It := ⟨fun i _ => i < n, fun i H x H' => H' = H ∧ x = .int (lo + i), fun i _ => n ≤ i⟩
theorem turn_list {P : Program} {w : World} {K : PySem.W.Frag} {tg : Expr} (a it : Addr) : Turn P w K tg (Itl K a) [it] it (fun i h => h.IsListIter it a i) where
 mem := by simp
 obj := fun i h st b hb => by
  have e : b = it := by simpa using hb
  subst e
  obtain ⟨o, e, c, d⟩ := st
  exact ⟨o, e, fun v z => by rw [d] at z; cases z⟩
 keep := fun i h h' st k => st.at fun o e => k it (by simp) o e
 item := by
  intro X hP hw hK hc i pins s σ H E I hf st hg
  subst hP hw hK
  obtain ⟨xs, x, hq, hx⟩ := hg
  obtain ⟨its, rv, p, hz⟩ := I.list hq
  obtain ⟨u, hu, ru⟩ := rv.get hx
  obtain ⟨f0, f1, f2, f3, f4, f5⟩ := hf it (by simp)
  refine wpAny_pyNext_list_item st p.isList (x := u) (by simpa using hu) fun h' st' sb => ?_
  have I1 : Inv X pins σ H { s with heap := h' } := I.turned (t' := s.toks) (fun b o hb e => (sb.2 b hb).trans e) f0 f1 f3 f4 f5
  obtain ⟨o, e, c, d⟩ := id st'
  exact ⟨u, rfl, go_of (s := { s with heap := h' }) e c d (by decide) ⟨x, H, I1, ru, ⟨rfl, fun ys hy => by rw [I.list_inj hy hq]; exact hx⟩, st', fun b hb => (hf b hb).1⟩⟩
 done := by
  intro X hP hw hK hc i pins s σ H E I hf st hg
  subst hP hw hK
  obtain ⟨xs, hq, hx⟩ := hg
  obtain ⟨its, rv, p, hz⟩ := I.list hq
  obtain ⟨f0, f1, f2, f3, f4, f5⟩ := hf it (by simp)
  have hl := rv.length
  exact wpAny_pyNext_list_end (I.ok.hd hc) st p.isList (by simp; omega) fun h' eb => ⟨rfl, I.turned (t' := s.toks) (fun b o hb e => eb b o hb e) f0 f1 f3 f4 f5⟩
 self := fun _ _ _ _ _ st h => wpAny_pyIter_listiter st h
theorem turn_tuple {P : Program} {w : World} {K : PySem.W.Frag} {tg : Expr} (a it : Addr) : Turn P w K tg (Itt K a) [it] it (fun i h => h.IsTupleIter it a i) where
 mem := by simp
 obj := fun i h st b hb => by
  have e : b = it := by simpa using hb
  subst e
  obtain ⟨o, e, c, d⟩ := st
  exact ⟨o, e, fun v z => by rw [d] at z; cases z⟩
 keep := fun i h h' st k => st.at fun o e => k it (by simp) o e
 item := by
  intro X hP hw hK hc i pins s σ H E I hf st hg
  subst hP hw hK
  obtain ⟨xs, x, hq, hx⟩ := hg
  obtain ⟨its, rv, p, hz⟩ := I.tuple hq
  obtain ⟨u, hu, ru⟩ := rv.get hx
  obtain ⟨f0, f1, f2, f3, f4, f5⟩ := hf it (by simp)
  refine wpAny_pyNext_tuple_item st (show s.heap.IsTuple a its.toArray from p) (x := u) (by simpa using hu) fun h' st' sb => ?_
  have I1 : Inv X pins σ H { s with heap := h' } := I.turned (t' := s.toks) (fun b o hb e => (sb.2 b hb).trans e) f0 f1 f3 f4 f5
  obtain ⟨o, e, c, d⟩ := id st'
  exact ⟨u, rfl, go_of (s := { s with heap := h' }) e c d (by decide) ⟨x, H, I1, ru, ⟨rfl, fun ys hy => by rw [I.tuple_inj hy hq]; exact hx⟩, st', fun b hb => (hf b hb).1⟩⟩
 done := by
  intro X hP hw hK hc i pins s σ H E I hf st hg
  subst hP hw hK
  obtain ⟨xs, hq, hx⟩ := hg
  obtain ⟨its, rv, p, hz⟩ := I.tuple hq
  obtain ⟨f0, f1, f2, f3, f4, f5⟩ := hf it (by simp)
  have hl := rv.length
  exact wpAny_pyNext_tuple_end (I.ok.hd hc) st (show s.heap.IsTuple a its.toArray from p) (by simp; omega) fun h' eb => ⟨rfl, I.turned (t' := s.toks) (fun b o hb e => eb b o hb e) f0 f1 f3 f4 f5⟩
 self := fun _ _ _ _ _ st h => wpAny_pyIter_tupleiter st h
theorem turn_range {P : Program} {w : World} {K : PySem.W.Frag} {tg : Expr} (it : Addr) (lo : Int) (n : Nat) : Turn P w K tg (Itr lo n) [it] it (fun i h => IsRangeIter h it (lo + (i : Nat) * 1) ((n : Int) - (i : Nat)) 1) where
 mem := by simp
 obj := fun i h st b hb => by
  have e : b = it := by simpa using hb
  subst e
  exact ⟨_, st, fun v z => by
   have z' : Data.fields _ = Data.cell v := z
   cases z'⟩
 keep := fun i h h' st k => k it (by simp) _ st
 item := by
  intro X hP hw hK hc i pins s σ H E I hf st hg
  subst hP hw hK
  obtain ⟨f0, f1, f2, f3, f4, f5⟩ := hf it (by simp)
  have W := Walks.range (prog := X.prog) (w := X.w) (I.ok.hd hc) it lo 1 n
  refine W.item i s _ _ hg st fun v h' tk hv st' kk => ?_
  obtain ⟨t, rfl⟩ := hv
  have I1 : Inv X pins σ H { s with heap := h', toks := tk } := I.turned (fun b o hb e => kk b o (by simpa using hb) e) f0 f1 f3 f4 f5
  refine ⟨_, rfl, go_of (s := { s with heap := h', toks := tk }) (n := "range_iterator") st' rfl rfl (by decide) ⟨.int (lo + i), H, I1, ⟨t, ?_⟩, ⟨rfl, rfl⟩, st', fun b hb => (hf b hb).1⟩⟩
  rw [Int.mul_one]
 done := by
  intro X hP hw hK hc i pins s σ H E I hf st hg
  subst hP hw hK
  obtain ⟨f0, f1, f2, f3, f4, f5⟩ := hf it (by simp)
  exact wpAny_pyNext_range_end (I.ok.hd hc) st (by have : n ≤ i := hg; omega) fun h' eb => ⟨rfl, I.turned (t' := s.toks) (fun b o hb e => eb b o hb e) f0 f1 f3 f4 f5⟩
 self := fun _ _ _ _ _ st h => wpAny_pyIter_rangeiter st h
end L2
namespace L2
open PySem PySem.Spec PyProof.Rows
section
variable {X : Cx} {tg : Expr}
def iList (K : PySem.W.Frag) (tl : TE) : TI := fun σ H R => tl σ H fun x H1 => ∃ a, x = .ref a ∧ (∃ xs, SqL K H1 a xs) ∧ R (Itl K a) H1
def iTup (K : PySem.W.Frag) (tl : TE) : TI := fun σ H R => tl σ H fun x H1 => ∃ a, x = .ref a ∧ (∃ xs, SqT K H1 a xs) ∧ R (Itt K a) H1
theorem pi_list {l : Expr} {tl : TE} (hl : PE X l tl) : PI X tg l (iList X.K tl) := by
 intro pins s σ H R I h
 refine thn (hl pins s σ H _ I h) fun v s1 ⟨x, H1, I1, r1, q1⟩ => ?_
 obtain ⟨a, e, ⟨xs, hq⟩, q⟩ := q1
 subst e
 cases r1
 obtain ⟨its, rv, p, hz⟩ := I1.list hq
 refine wpAny_pyIter_list p.isList ?_
 refine ⟨s1.heap.objs.size, [s1.heap.objs.size], _, _, H1, rfl, I1.kept (t' := s1.toks) fun b o e => Heap.get?_push_of_some _ e, turn_list a _, ⟨_, Heap.get?_push_size _ rfl, rfl, rfl⟩, fun b hb => ?_, q⟩
 have e : b = s1.heap.objs.size := by simpa using hb
 subst e
 exact I1.fpOk (Nat.le_refl _) (I1.hok.fresh (Nat.le_refl _))
theorem pi_tup {l : Expr} {tl : TE} (hl : PE X l tl) : PI X tg l (iTup X.K tl) := by
 intro pins s σ H R I h
 refine thn (hl pins s σ H _ I h) fun v s1 ⟨x, H1, I1, r1, q1⟩ => ?_
 obtain ⟨a, e, ⟨xs, hq⟩, q⟩ := q1
 subst e
 cases r1
 obtain ⟨its, rv, p, hz⟩ := I1.tuple hq
 refine wpAny_pyIter_tuple (show s1.heap.IsTuple a its.toArray from p) ?_
 refine ⟨s1.heap.objs.size, [s1.heap.objs.size], _, _, H1, rfl, I1.kept (t' := s1.toks) fun b o e => Heap.get?_push_of_some _ e, turn_tuple a _, ⟨_, Heap.get?_push_size _ rfl, rfl, rfl⟩, fun b hb => ?_, q⟩
 have e : b = s1.heap.objs.size := by simpa using hb
 subst e
 exact I1.fpOk (Nat.le_refl _) (I1.hok.fresh (Nat.le_refl _))
theorem range_it {pins : List (Addr × Obj)} {σ : St} {H : Hp} {s : Shared} {R : It → Hp → Prop} {E : Value → Shared → Prop} {lo hi : Int} {t u v : Tok} {tk : Nat} (I : Inv X pins σ H s) (h1 : -(2 ^ 62) ≤ lo) (h2 : lo < 2 ^ 62) (h3 : -(2 ^ 62) ≤ hi) (h4 : hi < 2 ^ 62)
  (q : R (Itr lo (hi - lo).toNat) H) : wpAny (model X.prog X.w) X.A (pyIter (.ref s.heap.objs.size)) (PIE X pins σ tg R) E { s with heap := s.heap.push { cls := .type "range", data := .fields #[.int lo t, .int hi u, .int 1 v] }, toks := tk } := by
 refine wpAny_pyIter_range (IsRange.new ..) (small_one h1 h2 h3 h4) ?_
 have I1 : Inv X pins σ H { s with heap := s.heap.push { cls := .type "range", data := .fields #[.int lo t, .int hi u, .int 1 v] }, toks := tk } := I.kept fun b o e => Heap.get?_push_of_some _ e
 refine ⟨(s.heap.push { cls := .type "range", data := .fields #[.int lo t, .int hi u, .int 1 v] }).objs.size, [(s.heap.push { cls := .type "range", data := .fields #[.int lo t, .int hi u, .int 1 v] }).objs.size], _, _, H, rfl,
  I1.kept (t' := tk) fun b o e => Heap.get?_push_of_some _ e, turn_range _ lo (hi - lo).toNat, ?_, fun b hb => ?_, q⟩
 ·have e1 : lo + ((0 : Nat) : Int) * 1 = lo := by simp
  have e2 : (((hi - lo).toNat : Nat) : Int) - ((0 : Nat) : Int) = Builtin.Range.rangeSize lo hi 1 := by rw [rangeSize_one]; split <;> omega
  show IsRangeIter _ _ (lo + ((0 : Nat) : Int) * 1) ((((hi - lo).toNat : Nat) : Int) - ((0 : Nat) : Int)) 1
  rw [e1, e2]
  exact Heap.get?_push_size _ rfl
 ·have e : b = (s.heap.push { cls := .type "range", data := .fields #[.int lo t, .int hi u, .int 1 v] }).objs.size := by simpa using hb
  subst e
  exact I1.fpOk (Nat.le_refl _) (I1.hok.fresh (Nat.le_refl _))
def iRng1 (ta : TA) : TI := fun σ H R => ta σ H fun vs H1 => ∃ j : Int, vs = [.int j] ∧ -(2 ^ 62) ≤ j ∧ j < 2 ^ 62 ∧ R (Itr 0 j.toNat) H1
theorem pi_range1 {a : Expr} {ta : TA} {p pos : Pos} (hg : Gl X "range") (hm : X.mg "range" = none) (ha : PA X [a] ta) (hs : starEach [a] X.env = [(false, eval a X.env)] := by rfl) : PI X tg (.Call (.Name "range" p) [a] [] pos) (iRng1 ta) := by
 intro pins s σ H R I h
 refine Call_ (ld_blt I hg hm boot_range (PyProof.Rows.callWith_type1 (thn (ha pos pins s σ H _ I h) fun us s1 ⟨vs, H1, I1, r1, q1⟩ => ?_) hs rfl))
 obtain ⟨j, e, q1, q2, q⟩ := q1
 subst e
 cases r1 with
 | cons r rr =>
  cases rr
  obtain ⟨t, rfl⟩ := r
  exact call_range_1 (range_it I1 (by omega) (by omega) q1 q2 (by simpa using q))
def tFor (wi : TI) (g : TG) (tb : TS) : TS := fun D σ H => wi σ H fun J H1 => ∃ W : Nat → Nat → St → Hp → Prop, (∃ m, W 0 m σ H1) ∧ ∀ i m σ H, W i m σ H →
 (J.stop i H ∧ D.nx σ H) ∨ (J.go i H ∧ ∃ N : St → Hp → Prop, (∀ σ' H', N σ' H' → ∃ m', m' < m ∧ W (i + 1) m' σ' H') ∧ ∀ x H', J.yld i H x H' → g x σ H' fun σ2 H2 => tb { D with nx := N, ct := N, bk := D.nx } σ2 H2)
def pinsAt (fp : List Addr) (h : Heap) : List (Addr × Obj) := fp.filterMap fun b => (h.get? b).map fun o => (b, o)
theorem mem_pinsAt {fp : List Addr} {h : Heap} {b : Addr} {o : Obj} (hb : b ∈ fp) (e : h.get? b = some o) : (b, o) ∈ pinsAt fp h := List.mem_filterMap.mpr ⟨b, hb, by rw [e]; rfl⟩
theorem of_pinsAt {fp : List Addr} {h : Heap} {p : Addr × Obj} (hp : p ∈ pinsAt fp h) : p.1 ∈ fp ∧ h.get? p.1 = some p.2 := by
 obtain ⟨b, hb, e⟩ := List.mem_filterMap.mp hp
 cases q : h.get? b with
 | none => rw [q] at e; cases e
 | some o =>
  rw [q] at e
  have e' : (b, o) = p := Option.some.inj e
  subst e'
  exact ⟨hb, q⟩
theorem Inv.pinned {pins : List (Addr × Obj)} {σ : St} {H : Hp} {s : Shared} {fp : List Addr} (I : Inv X pins σ H s) (hf : ∀ b ∈ fp, FpOk X pins H b) (ho : ∀ b ∈ fp, ∃ o, s.heap.get? b = some o ∧ ∀ v, o.data ≠ .cell v) : Inv X (pins ++ pinsAt fp s.heap) σ H s :=
 I.pins_of fun p hp => (List.mem_append.mp hp).elim (fun z => I.pin p (List.mem_append_right _ z)) fun z => by
  obtain ⟨hb, e⟩ := of_pinsAt z
  obtain ⟨f0, f1, f2, _⟩ := hf p.1 hb
  obtain ⟨o, e', d⟩ := ho p.1 hb
  rw [e] at e'; cases e'
  exact ⟨e, f0, f1, f2, d⟩
theorem Inv.unpinned {pins pl : List (Addr × Obj)} {σ : St} {H : Hp} {s : Shared} (I : Inv X (pins ++ pl) σ H s) : Inv X pins σ H s := I.pins_of fun p hp => I.pin p (List.mem_append_right _ (List.mem_append_left _ hp))
theorem ps_for {iter : Expr} {body : List Stmt} {wi : TI} {g : TG} {tb : TS} {pos : Pos} (hp : PassesOwn (model X.prog X.w) X.A X.env X.xe) (hc : X.calm = true) (hi : PI X tg iter wi) (hg : PG X tg g) (hb : PSs X body tb)
  (hs : ∀ x, foldedSetIterable iter X.env x = pure x := by intro _; rfl) : PS X (.For tg iter body [] pos) (tFor wi g tb) := by
 intro pins s σ H D I h
 refine wpAny_For (thn (hi pins s σ H _ I h) fun v s1 h1 => thn h1 fun itv s2 h2 => ?_) hs
 obtain ⟨it, fp, tn, J, H2, e, I2, T, st2, f2, W, ⟨m0, w0⟩, turn⟩ := h2
 subst e
 have stat : ∀ {H' : Hp}, (∀ b ∈ fp, H' b = none) → ∀ b ∈ fp, FpOk X pins H' b := fun hn b hb => ⟨hn b hb, (f2 b hb).2⟩
 refine codeAny_forLoop_any (fun n s' => ∃ i σ' H', Inv X pins σ' H' s' ∧ tn i s'.heap ∧ (∀ b ∈ fp, H' b = none) ∧ W i n σ' H') ?_ m0 ⟨0, σ, H2, I2, st2, fun b hb => (f2 b hb).1, w0⟩
 rintro n s3 ⟨i, σ3, H3, I3, st3, fr3, w3⟩
 rcases turn i n σ3 H3 w3 with ⟨stop, qn⟩ | ⟨go, N, hN, step⟩
 ·refine wpAny_passesOwn hp (thn (T.done X rfl rfl rfl hc i pins s3 σ3 H3 X.xe I3 (stat fr3) st3 stop) fun r s4 ⟨hr, I4⟩ => ?_)
  subst hr
  exact wpAny_execs_nil ⟨σ3, H3, I4, qn⟩
 ·refine wpAny_passesOwn hp (thn (T.item X rfl rfl rfl hc i pins s3 σ3 H3 X.xe I3 (stat fr3) st3 go) fun r s4 ⟨u, hr, h4⟩ => ?_)
  subst hr
  refine wpAny_passesOwn hp (thn h4 fun _ s5 ⟨x, H5, I5, r5, y5, st5, fr5⟩ => ?_)
  have I5' := I5.pinned (stat fr5) (T.obj _ _ st5)
  refine wpAny_passesOwn hp (thn (hg _ s5 σ3 H5 x u _ I5' r5 (step x H5 y5)) fun _ s6 ⟨σ6, H6, I6, q6⟩ => ?_)
  refine wpAny_passesOwn hp (thn (hb _ s6 σ6 H6 _ I6 q6) fun f s7 q7 => ?_)
  have again : ∀ {σ7 : St} {H7 : Hp}, Inv X (pins ++ pinsAt fp s5.heap) σ7 H7 s7 → N σ7 H7 → ∃ m, m < n ∧ ∃ i σ' H', Inv X pins σ' H' s7 ∧ tn i s7.heap ∧ (∀ b ∈ fp, H' b = none) ∧ W i m σ' H' := fun {σ7 H7} I7 n7 => by
   obtain ⟨m', hm, w7⟩ := hN σ7 H7 n7
   refine ⟨m', hm, i + 1, σ7, H7, I7.unpinned, T.keep _ _ _ st5 fun b hb o e => (I7.pin (b, o) (List.mem_append_right _ (List.mem_append_right _ (mem_pinsAt hb e)))).1, fun b hb => ?_, w7⟩
   obtain ⟨o, e, d⟩ := T.obj _ _ st5 b hb
   exact (I7.pin (b, o) (List.mem_append_right _ (List.mem_append_right _ (mem_pinsAt hb e)))).2.1
  cases f with
  | next => obtain ⟨σ7, H7, I7, n7⟩ := q7; exact again I7 n7
  | cont => obtain ⟨σ7, H7, I7, n7⟩ := q7; exact again I7 n7
  | brk => obtain ⟨σ7, H7, I7, q7⟩ := q7; exact ⟨σ7, H7, I7.unpinned, q7⟩
  | ret v => obtain ⟨x7, σ7, H7, I7, r7, q7⟩ := q7; exact ⟨x7, σ7, H7, I7.unpinned, r7, q7⟩
end
theorem for_list {K : PySem.W.Frag} {a : Addr} {xs : List V} {g : TG} {tb : TS} {D : Ends} {σ : St} {H : Hp} (Pv : Nat → St → Hp → Prop) (h0 : Pv 0 σ H) (hl : ∀ i σ H, i ≤ xs.length → Pv i σ H → SqL K H a xs)
  (hs : ∀ i x σ H, xs[i]? = some x → Pv i σ H → g x σ H fun σ2 H2 => tb { D with nx := Pv (i + 1), ct := Pv (i + 1), bk := D.nx } σ2 H2) (hd : ∀ σ H, Pv xs.length σ H → D.nx σ H) :
  ∃ W : Nat → Nat → St → Hp → Prop, (∃ m, W 0 m σ H) ∧ ∀ i m σ H, W i m σ H →
   ((Itl K a).stop i H ∧ D.nx σ H) ∨ ((Itl K a).go i H ∧ ∃ N : St → Hp → Prop, (∀ σ' H', N σ' H' → ∃ m', m' < m ∧ W (i + 1) m' σ' H') ∧ ∀ x H', (Itl K a).yld i H x H' → g x σ H' fun σ2 H2 => tb { D with nx := N, ct := N, bk := D.nx } σ2 H2) := by
 refine ⟨fun i m σ H => m = xs.length - i ∧ i ≤ xs.length ∧ Pv i σ H, ⟨xs.length, by simp, Nat.zero_le _, h0⟩, ?_⟩
 rintro i m σ H ⟨rfl, hi, p⟩
 have q := hl i σ H hi p
 by_cases hlt : i < xs.length
 ·refine .inr ⟨⟨xs, xs[i], q, by simp [hlt]⟩, Pv (i + 1), fun σ' H' p' => ⟨xs.length - (i + 1), by omega, rfl, hlt, p'⟩, fun x H' y => ?_⟩
  obtain ⟨e, y⟩ := y
  subst e
  exact hs i x σ _ (y xs q) p
 ·have e : i = xs.length := by omega
  subst e
  exact .inl ⟨⟨xs, q, Nat.le_refl _⟩, hd σ H p⟩
theorem for_tup {K : PySem.W.Frag} {a : Addr} {xs : List V} {g : TG} {tb : TS} {D : Ends} {σ : St} {H : Hp} (Pv : Nat → St → Hp → Prop) (h0 : Pv 0 σ H) (hl : ∀ i σ H, i ≤ xs.length → Pv i σ H → SqT K H a xs)
  (hs : ∀ i x σ H, xs[i]? = some x → Pv i σ H → g x σ H fun σ2 H2 => tb { D with nx := Pv (i + 1), ct := Pv (i + 1), bk := D.nx } σ2 H2) (hd : ∀ σ H, Pv xs.length σ H → D.nx σ H) :
  ∃ W : Nat → Nat → St → Hp → Prop, (∃ m, W 0 m σ H) ∧ ∀ i m σ H, W i m σ H →
   ((Itt K a).stop i H ∧ D.nx σ H) ∨ ((Itt K a).go i H ∧ ∃ N : St → Hp → Prop, (∀ σ' H', N σ' H' → ∃ m', m' < m ∧ W (i + 1) m' σ' H') ∧ ∀ x H', (Itt K a).yld i H x H' → g x σ H' fun σ2 H2 => tb { D with nx := N, ct := N, bk := D.nx } σ2 H2) := by
 refine ⟨fun i m σ H => m = xs.length - i ∧ i ≤ xs.length ∧ Pv i σ H, ⟨xs.length, by simp, Nat.zero_le _, h0⟩, ?_⟩
 rintro i m σ H ⟨rfl, hi, p⟩
 have q := hl i σ H hi p
 by_cases hlt : i < xs.length
 ·refine .inr ⟨⟨xs, xs[i], q, by simp [hlt]⟩, Pv (i + 1), fun σ' H' p' => ⟨xs.length - (i + 1), by omega, rfl, hlt, p'⟩, fun x H' y => ?_⟩
  obtain ⟨e, y⟩ := y
  subst e
  exact hs i x σ _ (y xs q) p
 ·have e : i = xs.length := by omega
  subst e
  exact .inl ⟨⟨xs, q, Nat.le_refl _⟩, hd σ H p⟩
end L2
namespace L2
open PySem PySem.Spec PyProof.Rows
abbrev R2 := V → V → Hp → VK → Prop
def OpR (X : Cx) (f : Value → Value → Sem Value) (r : R2) : Prop :=
 ∀ (pins : List (Addr × Obj)) (s : Shared) (σ : St) (H : Hp) (x y : V) (v u : Value) (Q : VK), Inv X pins σ H s → RelV x v → RelV y u → r x y H Q →
  wpAny (model X.prog X.w) X.A (f v u) (EP X pins σ Q) X.xe s
def UnR (X : Cx) (f : Value → Sem Value) (r : V → Hp → VK → Prop) : Prop :=
 ∀ (pins : List (Addr × Obj)) (s : Shared) (σ : St) (H : Hp) (x : V) (v : Value) (Q : VK), Inv X pins σ H s → RelV x v → r x H Q →
  wpAny (model X.prog X.w) X.A (f v) (EP X pins σ Q) X.xe s
def CallR (X : Cx) (f : Value) (r : List V → Hp → VK → Prop) : Prop :=
 ∀ (pins : List (Addr × Obj)) (s : Shared) (σ : St) (H : Hp) (xs : List V) (us : List Value) (Q : VK), Inv X pins σ H s → Vals xs us → r xs H Q →
  wpAny (model X.prog X.w) X.A (call f us) (EP X pins σ Q) X.xe s
def tOp (r : R2) (ta tb : TE) : TE := fun σ H Q => ta σ H fun x H1 => tb σ H1 fun y H2 => r x y H2 Q
def tUn (r : V → Hp → VK → Prop) (ta : TE) : TE := fun σ H Q => ta σ H fun x H1 => r x H1 Q
def rI (C : Int → Int → Prop) (g : Int → Int → V) : R2 := fun x y H Q => ∃ i j, x = .int i ∧ y = .int j ∧ C i j ∧ Q (g i j) H
def rI0 (g : Int → Int → V) : R2 := fun x y H Q => ∃ i j, x = .int i ∧ y = .int j ∧ Q (g i j) H
def rU (g : Int → V) : V → Hp → VK → Prop := fun x H Q => ∃ i, x = .int i ∧ Q (g i) H
section
variable {X : Cx} {a b c : Expr} {ta tb tc : TE} {pos : Pos}
theorem binT (ha : PE X a ta) (hb : PE X b tb) {pins : List (Addr × Obj)} {s : Shared} {σ : St} {H : Hp} {R : V → V → Hp → Prop} (I : Inv X pins σ H s)
  (h : ta σ H fun x H1 => tb σ H1 fun y H2 => R x y H2) {Q : Value → Shared → Prop} {f : Value → Value → Sem Value}
  (hf : ∀ v u s2 x y H2, Inv X pins σ H2 s2 → RelV x v → RelV y u → R x y H2 → wpAny (model X.prog X.w) X.A (f v u) Q X.xe s2) :
  wpAny (model X.prog X.w) X.A (eval a X.env) (fun v s₁ => wpAny (model X.prog X.w) X.A (eval b X.env) (fun u s₂ => wpAny (model X.prog X.w) X.A (f v u) Q X.xe s₂) X.xe s₁) X.xe s := by
 refine thn (ha pins s σ H _ I h) fun v s1 ⟨x, H1, I1, r1, q1⟩ => ?_
 refine thn (hb pins s1 σ H1 _ I1 q1) fun u s2 ⟨y, H2, I2, r2, q2⟩ => ?_
 exact hf v u s2 x y H2 I2 r1 r2 q2
theorem pe_op {op : Operator} {r : R2} (ho : OpR X (binaryOp op) r) (ha : PE X a ta) (hb : PE X b tb) : PE X (.BinOp a op b pos) (tOp r ta tb) := by
 intro pins s σ H Q I h
 exact wpAny_BinOp (binT ha hb I h fun v u s2 x y H2 I2 rx ry q => ho pins s2 σ H2 x y v u Q I2 rx ry q)
theorem pe_un {op : UnaryOp} {r : V → Hp → VK → Prop} (ho : UnR X (unaryOp op) r) (ha : PE X a ta) : PE X (.UnaryOp op a pos) (tUn r ta) := by
 intro pins s σ H Q I h
 exact UnaryOp_ (thn (ha pins s σ H _ I h) fun v s1 ⟨x, H1, I1, r1, q1⟩ => ho pins s1 σ H1 x v Q I1 r1 q1)
theorem opI {f : Value → Value → Sem Value} {C : Int → Int → Prop} {g : Int → Int → Int}
  (rule : ∀ (i j : Int) (t u : Tok) (s : Shared) (Q : Value → Shared → Prop) (E : Value → Shared → Prop), C i j → Q (.int (g i j) s.toks) { s with toks := s.toks + 1 } → wpAny (model X.prog X.w) X.A (f (.int i t) (.int j u)) Q E s) :
  OpR X f (rI C fun i j => .int (g i j)) := by
 intro pins s σ H x y v u Q I rx ry h
 obtain ⟨i, j, rfl, rfl, hc, q⟩ := h
 obtain ⟨t, rfl⟩ := rx
 obtain ⟨t', rfl⟩ := ry
 exact rule i j t t' s _ _ hc ⟨.int (g i j), H, I.tok _, ⟨_, rfl⟩, q⟩
theorem opI0 {f : Value → Value → Sem Value} {g : Int → Int → Int}
  (rule : ∀ (i j : Int) (t u : Tok) (s : Shared) (Q : Value → Shared → Prop) (E : Value → Shared → Prop), Q (.int (g i j) s.toks) { s with toks := s.toks + 1 } → wpAny (model X.prog X.w) X.A (f (.int i t) (.int j u)) Q E s) :
  OpR X f (rI0 fun i j => .int (g i j)) := by
 intro pins s σ H x y v u Q I rx ry h
 obtain ⟨i, j, rfl, rfl, q⟩ := h
 obtain ⟨t, rfl⟩ := rx
 obtain ⟨t', rfl⟩ := ry
 exact rule i j t t' s _ _ ⟨.int (g i j), H, I.tok _, ⟨_, rfl⟩, q⟩
theorem opB0 {f : Value → Value → Sem Value} {g : Int → Int → Bool}
  (rule : ∀ (i j : Int) (t u : Tok) (s : Shared) (Q : Value → Shared → Prop) (E : Value → Shared → Prop), Q (.bool (g i j)) s → wpAny (model X.prog X.w) X.A (f (.int i t) (.int j u)) Q E s) :
  OpR X f (rI0 fun i j => .bl (g i j)) := by
 intro pins s σ H x y v u Q I rx ry h
 obtain ⟨i, j, rfl, rfl, q⟩ := h
 obtain ⟨t, rfl⟩ := rx
 obtain ⟨t', rfl⟩ := ry
 exact rule i j t t' s _ _ ⟨.bl (g i j), H, I, rfl, q⟩
def CDiv (i j : Int) : Prop := 0 < j ∧ j < 1073741824
def CPow (i j : Int) : Prop := 0 ≤ j ∧ j ≤ 1000000 ∧ i.natAbs < 2 ^ 64
def CMul (i j : Int) : Prop := (-(2 ^ 64) < i ∧ i < 2 ^ 64) ∨ (-(2 ^ 64) < j ∧ j < 2 ^ 64)
theorem CMul.ok {i j : Int} (h : CMul i j) : IntMulOk i j := by
 rcases h with ⟨h1, h2⟩ | ⟨h1, h2⟩
 ·exact .of_left (intBits_le_64 h1 h2)
 ·exact .of_right (intBits_le_64 h1 h2)
theorem op_add : OpR X (binaryOp .Add) (rI0 fun i j => .int (i + j)) := opI0 fun _ _ _ _ _ _ _ q => add_int q
theorem op_sub : OpR X (binaryOp .Sub) (rI0 fun i j => .int (i - j)) := opI0 fun _ _ _ _ _ _ _ q => sub_int q
theorem op_mul : OpR X (binaryOp .Mult) (rI CMul fun i j => .int (i * j)) := opI fun _ _ _ _ _ _ _ hc q => mul_int q hc.ok
theorem op_fdiv : OpR X (binaryOp .FloorDiv) (rI CDiv fun i j => .int (i / j)) := opI fun i j _ _ _ _ _ hc q => by
 have h1 : (0 : Int) < j := hc.1
 have h2 : j < 1073741824 := hc.2
 exact floordiv_int (by omega) (by rw [Int.fdiv_eq_ediv_of_nonneg i (by omega)]; exact q) (.inl (PyProof.noPylong_small (by omega)))
theorem op_mod : OpR X (binaryOp .Mod) (rI (fun _ j => 0 < j) fun i j => .int (i % j)) := opI fun i j _ _ _ _ _ hc q => by
 have h1 : (0 : Int) < j := hc
 exact mod_int' (by omega) (by rw [Int.fmod_eq_emod_of_nonneg i (by omega)]; exact q)
theorem op_pow : OpR X (binaryOp .Pow) (rI CPow fun i j => .int (i ^ j.toNat)) := opI fun _ _ _ _ _ _ _ hc q => pow_int_small hc.1 hc.2.1 hc.2.2 q
theorem unI {f : Value → Sem Value} {g : Int → Int}
  (rule : ∀ (i : Int) (t : Tok) (s : Shared) (Q : Value → Shared → Prop) (E : Value → Shared → Prop), Q (.int (g i) s.toks) { s with toks := s.toks + 1 } → wpAny (model X.prog X.w) X.A (f (.int i t)) Q E s) :
  UnR X f (rU fun i => .int (g i)) := by
 intro pins s σ H x v Q I rx h
 obtain ⟨i, rfl, q⟩ := h
 obtain ⟨t, rfl⟩ := rx
 exact rule i t s _ _ ⟨.int (g i), H, I.tok _, ⟨_, rfl⟩, q⟩
theorem un_neg : UnR X (unaryOp .USub) (rU fun i => .int (-i)) := unI fun _ _ _ _ _ q => neg_int q
end
def scal : V → V → Bool
 | .non, .non => true | .non, .int _ => true | .int _, .non => true | .non, .bl _ => true | .bl _, .non => true | .non, .str _ => true | .str _, .non => true
 | .int _, .int _ => true | .bl _, .bl _ => true | .str _, .str _ => true | .byt _, .byt _ => true
 | .int _, .str _ => true | .str _, .int _ => true | .bl _, .str _ => true | .str _, .bl _ => true
 | _, _ => false
def rEq : R2 := fun x y H Q => scal x y = true ∧ Q (.bl (decide (x = y))) H
def rNe : R2 := fun x y H Q => scal x y = true ∧ Q (.bl (!decide (x = y))) H
theorem dec_int {i j : Int} : decide (V.int i = V.int j) = (i == j) := by
 rw [Bool.eq_iff_iff]
 simp
theorem dec_bl {i j : Bool} : decide (V.bl i = V.bl j) = (i == j) := by
 rw [Bool.eq_iff_iff]
 simp
theorem dec_str {i j : Str} : decide (V.str i = V.str j) = (i == j) := by
 rw [Bool.eq_iff_iff]
 simp
theorem dec_byt {i j : Array UInt8} : decide (V.byt i = V.byt j) = (i.toList == j.toList) := by
 rw [Bool.eq_iff_iff]
 cases i
 cases j
 simp
section
variable {X : Cx} {a b c : Expr} {ta tb tc : TE} {pos : Pos}
theorem fin_bl {pins : List (Addr × Obj)} {σ : St} {H : Hp} {s : Shared} {Q : VK} {k k' : Bool} (I : Inv X pins σ H s) (q : Q (.bl k) H) (e : k = k') : EP X pins σ Q (.bool k') s := by
 subst e
 exact ⟨.bl k, H, I, rfl, q⟩
theorem op_eq : OpR X (compareOp .Eq) rEq := by
 intro pins s σ H x y v u Q I rx ry h
 obtain ⟨hs, q⟩ := h
 cases x with
 | non =>
  cases rx
  cases y with
  | non => cases ry; exact PySem.EqNone.eq_none_none (fin_bl I q (by simp))
  | bl j => cases ry; exact PySem.EqNone.eq_none_bool (fin_bl I q (by simp))
  | int j => obtain ⟨t', rfl⟩ := ry; exact PySem.EqNone.eq_none_int (fin_bl I q (by simp))
  | str j => obtain ⟨t', rfl⟩ := ry; exact PySem.EqNone.eq_none_str (fin_bl I q (by simp))
  | _ => exact absurd (show false = true from hs) Bool.false_ne_true
 | bl i =>
  cases rx
  cases y with
  | non => cases ry; exact PySem.EqNone.eq_bool_none (fin_bl I q (by simp))
  | bl j => cases ry; exact eq_bool (fin_bl I q dec_bl)
  | str j => obtain ⟨t', rfl⟩ := ry; exact PySem.EqMixed.eq_bool_str (fin_bl I q (by simp))
  | _ => exact absurd (show false = true from hs) Bool.false_ne_true
 | int i =>
  obtain ⟨t, rfl⟩ := rx
  cases y with
  | non => cases ry; exact PySem.EqNone.eq_int_none (fin_bl I q (by simp))
  | int j => obtain ⟨t', rfl⟩ := ry; exact eq_int (fin_bl I q dec_int)
  | str j => obtain ⟨t', rfl⟩ := ry; exact PySem.EqMixed.eq_int_str (fin_bl I q (by simp))
  | _ => exact absurd (show false = true from hs) Bool.false_ne_true
 | str i =>
  obtain ⟨t, rfl⟩ := rx
  cases y with
  | non => cases ry; exact PySem.EqNone.eq_str_none (fin_bl I q (by simp))
  | bl j => cases ry; exact PySem.EqMixed.eq_str_bool (fin_bl I q (by simp))
  | int j => obtain ⟨t', rfl⟩ := ry; exact PySem.EqMixed.eq_str_int (fin_bl I q (by simp))
  | str j => obtain ⟨t', rfl⟩ := ry; exact eq_str (fin_bl I q dec_str)
  | _ => exact absurd (show false = true from hs) Bool.false_ne_true
 | byt i =>
  obtain ⟨t, rfl⟩ := rx
  cases y with
  | byt j => obtain ⟨t', rfl⟩ := ry; exact PySem.W.eq_bytes (fin_bl I q dec_byt)
  | _ => exact absurd (show false = true from hs) Bool.false_ne_true
 | _ => cases y <;> exact absurd (show false = true from hs) Bool.false_ne_true
theorem op_ne : OpR X (compareOp .NotEq) rNe := by
 intro pins s σ H x y v u Q I rx ry h
 obtain ⟨hs, q⟩ := h
 cases x with
 | non =>
  cases rx
  cases y with
  | non => cases ry; exact PySem.EqNone.ne_none_none (fin_bl I q (by simp))
  | bl j => cases ry; exact PySem.EqNone.ne_none_bool (fin_bl I q (by simp))
  | int j => obtain ⟨t', rfl⟩ := ry; exact PySem.EqNone.ne_none_int (fin_bl I q (by simp))
  | str j => obtain ⟨t', rfl⟩ := ry; exact PySem.EqNone.ne_none_str (fin_bl I q (by simp))
  | _ => exact absurd (show false = true from hs) Bool.false_ne_true
 | bl i =>
  cases rx
  cases y with
  | non => cases ry; exact PySem.EqNone.ne_bool_none (fin_bl I q (by simp))
  | bl j => cases ry; exact ne_bool (fin_bl I q (congrArg not dec_bl))
  | str j => obtain ⟨t', rfl⟩ := ry; exact PySem.EqMixed.ne_bool_str (fin_bl I q (by simp))
  | _ => exact absurd (show false = true from hs) Bool.false_ne_true
 | int i =>
  obtain ⟨t, rfl⟩ := rx
  cases y with
  | non => cases ry; exact PySem.EqNone.ne_int_none (fin_bl I q (by simp))
  | int j => obtain ⟨t', rfl⟩ := ry; exact ne_int (fin_bl I q (congrArg not dec_int))
  | str j => obtain ⟨t', rfl⟩ := ry; exact PySem.EqMixed.ne_int_str (fin_bl I q (by simp))
  | _ => exact absurd (show false = true from hs) Bool.false_ne_true
 | str i =>
  obtain ⟨t, rfl⟩ := rx
  cases y with
  | non => cases ry; exact PySem.EqNone.ne_str_none (fin_bl I q (by simp))
  | bl j => cases ry; exact PySem.EqMixed.ne_str_bool (fin_bl I q (by simp))
  | int j => obtain ⟨t', rfl⟩ := ry; exact PySem.EqMixed.ne_str_int (fin_bl I q (by simp))
  | str j => obtain ⟨t', rfl⟩ := ry; exact ne_str (fin_bl I q (congrArg not dec_str))
  | _ => exact absurd (show false = true from hs) Bool.false_ne_true
 | byt i =>
  obtain ⟨t, rfl⟩ := rx
  cases y with
  | byt j => obtain ⟨t', rfl⟩ := ry; exact PySem.W.ne_bytes (fin_bl I q (congrArg not dec_byt))
  | _ => exact absurd (show false = true from hs) Bool.false_ne_true
 | _ => cases y <;> exact absurd (show false = true from hs) Bool.false_ne_true
theorem op_lt : OpR X (compareOp .Lt) (rI0 fun i j => .bl (decide (i < j))) := opB0 fun _ _ _ _ _ _ _ q => lt_int q
theorem op_le : OpR X (compareOp .LtE) (rI0 fun i j => .bl (decide (i ≤ j))) := opB0 fun _ _ _ _ _ _ _ q => le_int q
theorem op_gt : OpR X (compareOp .Gt) (rI0 fun i j => .bl (decide (j < i))) := opB0 fun _ _ _ _ _ _ _ q => gt_int q
theorem op_in_str : OpR X (compareOp .In) (fun x y H Q => ∃ i j, x = .str i ∧ y = .str j ∧ Q (.bl (!(Builtin.Str.occurrences j i 0 j.length 1).isEmpty)) H) := by
 intro pins s σ H x y v u Q I rx ry h
 obtain ⟨i, j, rfl, rfl, q⟩ := h
 obtain ⟨t, rfl⟩ := rx
 obtain ⟨t', rfl⟩ := ry
 exact in_str (fin_bl I q rfl)
theorem nomark (b : Expr) {op : CmpOp} (h : op ≠ .In := by decide) (h2 : op ≠ .NotIn := by decide) : behindInMarks op b = false := by
 have e1 : (op == CmpOp.In) = false := by cases op <;> first | rfl | exact absurd rfl h
 have e2 : (op == CmpOp.NotIn) = false := by cases op <;> first | rfl | exact absurd rfl h2
 cases b <;> simp [behindInMarks, e1, e2]
theorem pe_cmpR {op : CmpOp} {r : R2} (ho : OpR X (compareOp op) r) (ha : PE X a ta) (hb : PE X b tb) (hm : behindInMarks op b = false) : PE X (.Compare a [op] [b] pos) (tOp r ta tb) := by
 intro pins s σ H Q I h
 exact wpAny_Compare1 (binT ha hb I h fun v u s2 x y H2 I2 rx ry q => ho pins s2 σ H2 x y v u Q I2 rx ry q) hm
def tTest (t : TE) : TT := fun σ H Q => t σ H fun x H' => ∃ k, x = .bl k ∧ Q k H'
theorem pt_cmpR {op : CmpOp} {r : R2} (ho : OpR X (compareOp op) r) (ha : PE X a ta) (hb : PE X b tb) (hm : behindInMarks op b = false) : PT X (.Compare a [op] [b] pos) (tTest (tOp r ta tb)) := by
 intro pins s σ H Q I h
 refine wpAny_isTrue_Compare1 (thn (ha pins s σ H _ I h) fun v s1 ⟨x, H1, I1, r1, q1⟩ => thn (hb pins s1 σ H1 _ I1 q1) fun u s2 ⟨y, H2, I2, r2, q2⟩ =>
  thn (ho pins s2 σ H2 x y v u _ I2 r1 r2 q2) fun c s3 ⟨z, H3, I3, r3, k, e, q3⟩ => ?_) hm
 subst e
 cases r3
 exact wpAny_truthy_bool ⟨H3, I3, q3⟩
def tChain (r r' : R2) (ta tb tc : TE) : TE := fun σ H Q => ta σ H fun x H1 => tb σ H1 fun y H2 => r x y H2 fun z H3 => ∃ k, z = .bl k ∧
 (if k = true then tc σ H3 fun w' H4 => r' y w' H4 Q else Q (.bl false) H3)
theorem pt_chain {op op' : CmpOp} {r r' : R2} (ho : OpR X (compareOp op) r) (ho' : OpR X (compareOp op') r') (ha : PE X a ta) (hb : PE X b tb) (hc : PE X c tc)
  (hm : lastMarks [op, op'] [b, c] = false := by with_unfolding_all rfl) : PT X (.Compare a [op, op'] [b, c] pos) (tTest (tChain r r' ta tb tc)) := by
 intro pins s σ H Q I h
 refine isTrue_chain (thn (ha pins s σ H _ I h) fun v s1 ⟨x, H1, I1, r1, q1⟩ => test_link (thn (hb pins s1 σ H1 _ I1 q1) fun u s2 ⟨y, H2, I2, r2, q2⟩ =>
  thn (ho pins s2 σ H2 x y v u _ I2 r1 r2 q2) fun d s3 ⟨z, H3, I3, r3, k, e, q3⟩ => ?_)) hm
 subst e
 cases r3
 refine wpAny_truthy_bool ?_
 cases k with
 | false =>
  obtain ⟨k', e', q'⟩ := q3
  cases e'
  exact ite_ff ⟨H3, I3, q'⟩
 | true =>
  refine ite_tt (test_last (thn (hc pins s3 σ H3 _ I3 q3) fun w' s4 ⟨z', H4, I4, r4, q4⟩ => thn (ho' pins s4 σ H4 y z' u w' _ I4 r2 r4 q4) fun d' s5 ⟨z2, H5, I5, r5, k2, e2, q5⟩ => ?_))
  subst e2
  cases r5
  exact wpAny_truthy_bool ⟨H5, I5, q5⟩
theorem line63 : (sizeLine : Nat) < 2 ^ 63 := by rw [sizeLine_eq]; decide
theorem vals1 {x : V} {us : List Value} (r : Vals [x] us) : ∃ u, us = [u] ∧ RelV x u := by
 cases r with
 | cons r1 r2 => cases r2; exact ⟨_, rfl, r1⟩
theorem vals2 {x y : V} {us : List Value} (r : Vals [x, y] us) : ∃ u w', us = [u, w'] ∧ RelV x u ∧ RelV y w' := by
 cases r with
 | cons r1 r2 =>
  cases r2 with
  | cons r3 r4 => cases r4; exact ⟨_, _, rfl, r1, r3⟩
theorem call_abs : CallR X (.builtin "abs") (fun xs H Q => ∃ i, xs = [.int i] ∧ Q (.int (if i < 0 then -i else i)) H) := by
 intro pins s σ H xs us Q I r h
 obtain ⟨i, rfl, q⟩ := h
 obtain ⟨u, rfl, t, rfl⟩ := vals1 r
 exact call_abs_int fun u tk => ⟨.int (if i < 0 then -i else i), H, I.tok _, ⟨_, rfl⟩, q⟩
theorem call_max2 (hc : X.calm = true) : CallR X (.builtin "max") (fun xs H Q => ∃ i j, xs = [.int i, .int j] ∧ Q (.int (if j > i then j else i)) H) := by
 intro pins s σ H xs us Q I r h
 obtain ⟨i, j, rfl, q⟩ := h
 obtain ⟨u, w', rfl, ⟨t, rfl⟩, ⟨t', rfl⟩⟩ := vals2 r
 refine max_two_ints (I.ok.hd hc) fun h' tk k => ⟨_, H, I.kept k, ?_, q⟩
 by_cases hj : j > i
 ·rw [if_pos hj, if_pos hj]; exact ⟨_, rfl⟩
 ·rw [if_neg hj, if_neg hj]; exact ⟨_, rfl⟩
theorem call_divmod : CallR X (.builtin "divmod") (fun xs H Q => ∃ i j, xs = [.int i, .int j] ∧ CDiv i j ∧ ∀ p, H p = none → Q (.ref p) (upd H p (.tup [.int (i / j), .int (i % j)]))) := by
 intro pins s σ H xs us Q I r h
 obtain ⟨i, j, rfl, ⟨h1, h2⟩, q⟩ := h
 obtain ⟨u, w', rfl, ⟨t, rfl⟩, ⟨t', rfl⟩⟩ := vals2 r
 refine divmod_int (by omega) ?_ (.inl (PyProof.noPylong_small (by omega)))
 rw [Int.fdiv_eq_ediv_of_nonneg i (by omega), Int.fmod_eq_emod_of_nonneg i (by omega)]
 have hn : H s.heap.objs.size = none := I.hok.fresh (Nat.le_refl _)
 refine ⟨.ref s.heap.objs.size, _, ?_, rfl, q _ hn⟩
 refine I.laid (fun b o e => Heap.get?_push_of_some _ e) (Nat.le_refl _) ⟨by simp only [List.length_cons, List.length_nil]; rw [sizeLine_eq]; decide, [.int (i / j) s.toks, .int (i % j) (s.toks + 1)], .cons ⟨_, rfl⟩ (.cons ⟨_, rfl⟩ .nil), ?_⟩
 exact ⟨_, Heap.get?_push_size s.heap rfl, rfl, 0, rfl⟩
end
end L2
namespace L2
open PySem PySem.Spec PyProof.Rows
structure ObjM (h : Heap) (x dx C : Addr) (mA : Str → Option Value) : Prop where
 obj : h.get? x = some (PySem.W.instObj C dx)
 ns : h.Ns1 dx mA
 ne : dx ≠ x
theorem lookIn_ns {h : Heap} {dx : Addr} {mA : Str → Option Value} (n : h.Ns1 dx mA) : ∃ od, h.get? dx = some od ∧ ∀ name, PySem.W.lookIn name od = some (mA name) := by
 obtain ⟨o, es, ep, ho, hd, hk, _, hm⟩ := n
 refine ⟨o, ho, fun name => ?_⟩
 have e := hm name
 unfold nsFind findBy at e
 rw [← Array.find?_toList] at e
 unfold PySem.W.lookIn
 rw [hd]
 dsimp only
 split
 ·rename_i y q
  rw [q] at e
  exact congrArg some e
 ·rename_i q
  rw [q] at e
  have a : es.toList.any (·.refKey) = false := by
   rw [List.any_eq_false]
   intro y hy
   obtain ⟨z, t, hkey⟩ := hk y (Array.mem_toList_iff.mp hy)
   simp [DictEntry.refKey, hkey]
  have a' : ¬ es.toList.any (·.refKey) = true := by rw [a]; exact Bool.false_ne_true
  rw [if_neg a']
  exact congrArg some e
theorem ObjM.look {h : Heap} {x dx C : Addr} {mA : Str → Option Value} (I : ObjM h x dx C mA) : ∃ od, PySem.W.InstAt h x (PySem.W.instObj C dx) C (some od) ∧ ∀ name, PySem.W.lookIn name od = some (mA name) :=
 let ⟨od, ho, hl⟩ := lookIn_ns I.ns
 ⟨od, ⟨I.obj, rfl, rfl, ho⟩, hl⟩
section
variable {prog : Program} {w : World} {A : Around} {E : Value → Shared → Prop} {s : Shared} {K : PySem.W.Frag} {x dx C f : Addr} {mA : Str → Option Value} {name : Str} {v : Value}
theorem get_map {expr : Bool} {Q : Value → Shared → Prop} (X : K.In s.heap) (I : ObjM s.heap x dx C mA) (hg : PySem.W.plainGet K C name = true) (hh : PySem.W.hasDictIn K C = true)
  (ha : PySem.W.findIn K (.ref C) name = some none) (hv : mA name = some v) (hv' : PySem.W.handedIn v = true) (h : Q v { s with toks := s.toks + 1 }) :
  wpAny (model prog w) A (getAttr (.ref x) name expr) Q E s := by
 obtain ⟨od, J, hl⟩ := I.look
 exact PySem.W.get_value X J (PySem.W.plainGet_of hg).1 (PySem.W.findObj_own hh ha rfl (by rw [hl, hv])) hv' h
theorem get_meth {pl : Sem Bool} {Q : Value × List Value → Shared → Prop} (X : K.In s.heap) (I : ObjM s.heap x dx C mA) (hg : PySem.W.plainGet K C name = true)
  (hf : PySem.W.findIn K (.ref C) name = some (some (.ref f))) (ht : PySem.W.isFn K (.ref f) = true) (hv : mA name = none) (h : Q (.ref f, [.ref x]) s) :
  wpAny (model prog w) A (getMethod (.ref x) name pl) Q E s := by
 obtain ⟨od, J, hl⟩ := I.look
 exact PySem.W.method_fn X J (PySem.W.plainGet_of hg).1 (PySem.W.plainGet_of hg).2 hf (beq_iff_eq.mp ht) (by show (PySem.W.lookIn name od).map (·.isSome) = some false; rw [hl, hv]; rfl) h
theorem set_map {ns : List Str} {Q : Unit → Shared → Prop} (X : K.In s.heap) (I : ObjM s.heap x dx C mA)
  (hs : PySem.W.findIn K (.ref C) "__setattr__" = some (some (.builtin "object.__setattr__"))) (hp : PySem.W.plainOver K C = true) (ht : PySem.W.takerIn K C name = some none) (hh : PySem.W.hasDictIn K C = true)
  (hw : PySem.Within mA ns) (hsz : ns.length ≤ sizeLine)
  (h : ∀ h', ObjM h' x dx C (fun y => if y = name then some v else mA y) → Heap.SameBut dx s.heap h' → Q () { s with heap := h', toks := s.toks + 2 }) :
  wpAny (model prog w) A (setAttr (.ref x) name v) Q E s := by
 obtain ⟨od, J, hl⟩ := I.look
 refine PySem.W.set_plain X J hs (PySem.W.osa_open (s := { s with toks := s.toks + 1 }) (r := none) X J hp ht fun b => ?_)
 obtain ⟨cd, hc, hd'⟩ := PySem.W.any_some hh
 have hx : s.heap.get? x = some ⟨.ref C, some dx, .plain, #[]⟩ := I.obj
 refine wpAny_bind (wpAny_pure (wpAny_bind (wpAny_bind (wpAny_loadPart hx (wpAny_bind (PySem.W.Looks.here (s := { s with toks := s.toks + 1 }) (PySem.W.looks_clsIn X hc) ?_))))))
 rw [hd']
 refine wpAny_pure (a := some dx) (wpAny_bind (wpAny_pure (wpAny_bind ?_)))
 refine wpAny_nsSet1 (s := { s with toks := s.toks + 1 }) I.ns fun h' hn2 hs2 => ?_
 obtain ⟨oD, esD, epD, hoD, hdD, hcD⟩ := hn2.count (PySem.Within.cons name v hw)
 refine wpAny_bind (wpAny_lookBehind hoD (by rw [hdD]; exact pastItsLine_dict (Nat.le_trans hcD (by rw [List.length_cons]; omega))) ?_)
 exact wpAny_pure (h _ ⟨(hs2.2 _ (Ne.symm I.ne)).trans I.obj, hn2, I.ne⟩ hs2)
theorem make_map {R : Result → Shared → Prop} {vs : List Value} {kw : List (Str × Value)} (X : K.In s.heap) (hm : PySem.W.makesIn K C = true)
  (hi : PySem.W.findIn K (.ref C) "__init__" = some (some (.ref f))) (hf : PySem.W.typeIn K (.ref f) = some (.type "function"))
  (h : codeAny (model prog w) (A.under (.builtin "type.__call__" ⟨.ref C :: vs, kw⟩)) (.call (.ref f) ⟨.ref (s.heap.objs.size + 1) :: vs, kw⟩) (PySem.W.InitBack (s.heap.objs.size + 1) R)
   { s with heap := (s.heap.push PySem.W.emptyDict).push (PySem.W.instObj C s.heap.objs.size) }) :
  codeAny (model prog w) A (.call (.ref C) ⟨vs, kw⟩) R s := by
 obtain ⟨hh, g, d, t, os⟩ := s
 exact PySem.W.make_core (PySem.W.makes_of X hm) (PySem.W.looks_findIn X hi) (fun self => PySem.W.bind_fn X self hf) (.inl rfl) h
end
def putF (f : Str) (v : V) : List (Str × V) → List (Str × V)
 | [] => [(f, v)]
 | (g, x) :: r => if g = f then (g, v) :: r else (g, x) :: putF f v r
theorem lookup_putF (f g : Str) (v : V) : ∀ fs : List (Str × V), (putF f v fs).lookup g = if g = f then some v else fs.lookup g
 | [] => by
  show List.lookup g [(f, v)] = _
  by_cases h : g = f
  ·have hb : (g == f) = true := beq_iff_eq.mpr h
   simp only [List.lookup, hb, if_pos h]
  ·have hb : (g == f) = false := beq_eq_false_iff_ne.mpr h
   simp only [List.lookup, hb, if_neg h]
 | (k, x) :: r => by
  have ih := lookup_putF f g v r
  rw [show putF f v ((k, x) :: r) = (if k = f then (k, v) :: r else (k, x) :: putF f v r) from rfl]
  by_cases hk : k = f
  ·rw [if_pos hk]
   by_cases h : g = k
   ·have hb : (g == k) = true := beq_iff_eq.mpr h
    simp only [List.lookup, hb, if_pos (h.trans hk)]
   ·have hb : (g == k) = false := beq_eq_false_iff_ne.mpr h
    simp only [List.lookup, hb, if_neg (fun e : g = f => h (e.trans hk.symm))]
  ·rw [if_neg hk]
   by_cases h : g = k
   ·have hb : (g == k) = true := beq_iff_eq.mpr h
    simp only [List.lookup, hb, if_neg (fun e : g = f => hk (h.symm.trans e))]
   ·have hb : (g == k) = false := beq_eq_false_iff_ne.mpr h
    simp only [List.lookup, hb]
    exact ih
theorem keys_putF (f : Str) (v : V) : ∀ fs : List (Str × V), f ∈ (putF f v fs).map (·.1) ∧ ∀ g, g ∈ fs.map (·.1) → g ∈ (putF f v fs).map (·.1)
 | [] => ⟨by simp [putF], fun g h => by simp at h⟩
 | (k, x) :: r => by
  obtain ⟨i1, i2⟩ := keys_putF f v r
  rw [show putF f v ((k, x) :: r) = (if k = f then (k, v) :: r else (k, x) :: putF f v r) from rfl]
  by_cases hk : k = f
  ·rw [if_pos hk]
   subst hk
   exact ⟨by simp, fun g h => by simpa using h⟩
  ·rw [if_neg hk]
   refine ⟨?_, fun g h => ?_⟩
   ·rw [List.map_cons]
    exact List.mem_cons_of_mem _ i1
   ·rw [List.map_cons] at h ⊢
    rcases List.mem_cons.mp h with e | e
    ·exact List.mem_cons.mpr (.inl e)
    ·exact List.mem_cons_of_mem _ (i2 g e)
theorem length_putF (f : Str) (v : V) : ∀ fs : List (Str × V), (putF f v fs).length ≤ fs.length + 1
 | [] => by simp [putF]
 | (k, x) :: r => by
  have ih := length_putF f v r
  rw [show putF f v ((k, x) :: r) = (if k = f then (k, v) :: r else (k, x) :: putF f v r) from rfl]
  by_cases hk : k = f
  ·rw [if_pos hk, List.length_cons, List.length_cons]; omega
  ·rw [if_neg hk, List.length_cons, List.length_cons]; omega
theorem RelO.some_of {v : V} {o : Option Value} (r : RelO (some v) o) : ∃ u, o = some u ∧ RelV v u := by
 cases o with
 | none => exact (show False from r).elim
 | some u => exact ⟨u, rfl, r⟩
theorem RelO.none_of {o : Option Value} (r : RelO none o) : o = none := by
 cases o with
 | none => rfl
 | some u => exact (show False from r).elim
theorem handed_of {v : V} {u : Value} (r : RelV v u) : PySem.W.handedIn u = true := by
 cases v with
 | non => cases (show u = Value.none from r); rfl
 | bl b => cases (show u = Value.bool b from r); rfl
 | int i => obtain ⟨t, e⟩ := (show ∃ t, u = Value.int i t from r); cases e; rfl
 | str x => obtain ⟨t, e⟩ := (show ∃ t, u = Value.str x t from r); cases e; rfl
 | byt b => obtain ⟨t, e⟩ := (show ∃ t, u = Value.bytes b t from r); cases e; rfl
 | flt b => obtain ⟨t, e⟩ := (show ∃ t, u = Value.float b t from r); cases e; rfl
 | ref a => cases (show u = Value.ref a from r); rfl
 | ty n => cases (show u = Value.type n from r); rfl
section
variable {P : Program} {w : World} {H H' : Hp} {h h' : Heap} {a C dx : Addr} {fs fs' : List (Str × V)}
theorem ins_get (hok : HOk P w H h) (e : H a = some (.ins C dx fs)) : ∃ mA, ObjM h a dx C mA ∧ (∀ f, RelO (fs.lookup f) (mA f)) ∧ PySem.Within mA (fs.map (·.1)) ∧ fs.length ≤ 1000 ∧ H dx = some (.own a) := by
 obtain ⟨d, z, ne, ob, mA, n, r, q⟩ := (show ObjOk P w H h a (.ins C dx fs) from hok a _ e)
 exact ⟨mA, ⟨ob, n, ne⟩, r, q, z, d⟩
end
structure Cls (K : PySem.W.Frag) (C : Addr) : Prop where
 pg : PySem.W.plainGet K C Str.empty = true
 hd : PySem.W.hasDictIn K C = true
 po : PySem.W.plainOver K C = true
 sa : PySem.W.findIn K (.ref C) "__setattr__" = some (some (.builtin "object.__setattr__"))
theorem Cls.get {K : PySem.W.Frag} {C : Addr} (c : Cls K C) (f : Str) : PySem.W.plainGet K C f = true := c.pg
def NoAttr (K : PySem.W.Frag) (C : Addr) (f : Str) : Prop := PySem.W.findIn K (.ref C) f = some none
theorem NoAttr.taker {K : PySem.W.Frag} {C : Addr} {f : Str} (n : NoAttr K C f) : PySem.W.takerIn K C f = some none := by
 unfold PySem.W.takerIn
 rw [show PySem.W.findIn K (.ref C) f = some none from n]
 rfl
structure Con (K : PySem.W.Frag) (C : Addr) (f : Str) (v : V) (u : Value) : Prop where
 at_ : PySem.W.findIn K (.ref C) f = some (some u)
 rel : RelV v u
 get : PySem.W.specialIn K u "__get__" = some none
 cp : PySem.W.copiedNames.contains f = false
structure Meth (K : PySem.W.Frag) (C : Addr) (m : Str) (f : Addr) : Prop where
 at_ : PySem.W.findIn K (.ref C) m = some (some (.ref f))
 fn : PySem.W.isFn K (.ref f) = true
 kp : PySem.W.keepIn K (.ref f) = true
section
variable {X : Cx} {pins : List (Addr × Obj)} {σ : St} {H : Hp} {s : Shared} {a C dx : Addr} {fs : List (Str × V)} {f : Str} {v : V} {A : Around} {E : Value → Shared → Prop}
theorem getattr_ok {b : Bool} {Q : Value → Shared → Prop} (I : Inv X pins σ H s) (e : H a = some (.ins C dx fs)) (c : Cls X.K C) (n : NoAttr X.K C f) (l : fs.lookup f = some v)
  (h : ∀ u s', Inv X pins σ H s' → RelV v u → Q u s') : wpAny (model X.prog X.w) A (getAttr (.ref a) f b) Q E s := by
 obtain ⟨mA, O, r, _, _, _⟩ := ins_get I.hok e
 obtain ⟨u, hu, ru⟩ := RelO.some_of (v := v) (o := mA f) (by rw [← l]; exact r f)
 exact get_map I.kIn O (c.get f) c.hd n hu (handed_of ru) (h u _ (I.tok _) ru)
theorem getmeth_ok {m : Str} {g : Addr} {pl : Sem Bool} {Q : Value × List Value → Shared → Prop} (I : Inv X pins σ H s) (e : H a = some (.ins C dx fs)) (c : Cls X.K C) (k : Meth X.K C m g) (l : fs.lookup m = none)
  (h : Q (.ref g, [.ref a]) s) : wpAny (model X.prog X.w) A (getMethod (.ref a) m pl) Q E s := by
 obtain ⟨mA, O, r, _, _, _⟩ := ins_get I.hok e
 have hn : mA m = none := RelO.none_of (by rw [← l]; exact r m)
 exact get_meth I.kIn O (c.get m) k.at_ k.fn hn h
theorem setattr_ok {y : V} {u : Value} {Q : Unit → Shared → Prop} (I : Inv X pins σ H s) (e : H a = some (.ins C dx fs)) (c : Cls X.K C) (n : NoAttr X.K C f) (hl : fs.length < 1000) (ry : RelV y u)
  (h : ∀ s', Inv X pins σ (upd H a (.ins C dx (putF f y fs))) s' → Q () s') : wpAny (model X.prog X.w) A (setAttr (.ref a) f u) Q E s := by
 obtain ⟨mA, O, r, wi, _, ho⟩ := ins_get I.hok e
 have hz : (fs.map (·.1)).length ≤ sizeLine := by rw [List.length_map, sizeLine_eq]; omega
 refine set_map I.kIn O c.sa c.po n.taker c.hd wi hz fun h' O' sb => h _ ?_
 have hd : ∃ o, h'.get? dx = some o := let ⟨o, _, _, e', _⟩ := O'.ns; ⟨o, e'⟩
 refine I.write (x := a) (e := dx) (by rw [e]; exact True.intro) (.inr ho) (fun b q hb z => (sb.2 b hb).trans z) hd ?_
 refine ⟨by rw [upd_ne O.ne]; exact ho, ?_, O.ne, O'.obj, _, O'.ns, fun g => ?_, fun g hg => ?_⟩
 ·have := length_putF f y fs; omega
 ·show RelO ((putF f y fs).lookup g) (if g = f then some u else mA g)
  rw [lookup_putF]
  by_cases q : g = f
  ·rw [if_pos q, if_pos q]; exact ry
  ·rw [if_neg q, if_neg q]; exact r g
 ·by_cases q : g = f
  ·rw [q]; exact (keys_putF f y fs).1
  ·refine (keys_putF f y fs).2 g (wi g fun z => hg ?_)
   show (if g = f then some u else mA g) = none
   rw [if_neg q]; exact z
theorem Inv.made (I : Inv X pins σ H s) : Inv X pins σ (upd (upd H s.heap.objs.size (.own (s.heap.objs.size + 1))) (s.heap.objs.size + 1) (.ins C s.heap.objs.size []))
  { s with heap := (s.heap.push PySem.W.emptyDict).push (PySem.W.instObj C s.heap.objs.size) } := by
 have e1 : (s.heap.push PySem.W.emptyDict).get? s.heap.objs.size = some PySem.W.emptyDict := Heap.get?_push_size s.heap rfl
 have e2 : ((s.heap.push PySem.W.emptyDict).push (PySem.W.instObj C s.heap.objs.size)).get? (s.heap.objs.size + 1) = some (PySem.W.instObj C s.heap.objs.size) := by
  have := Heap.get?_push_size (s.heap.push PySem.W.emptyDict) (o := PySem.W.instObj C s.heap.objs.size) rfl
  rwa [Heap.size_push] at this
 have e3 : (s.heap.push PySem.W.emptyDict).Ns s.heap.objs.size (fun _ => none) := ⟨PySem.W.emptyDict, #[], _, e1, rfl, (fun e he => absurd he (by simp)), fun _ => rfl⟩
 have I1 := I.laid (a := s.heap.objs.size) (o := .own (s.heap.objs.size + 1)) (h' := s.heap.push PySem.W.emptyDict) (t' := s.toks) (fun b u q => Heap.get?_push_of_some _ q) (Nat.le_refl _) ⟨_, e1⟩
 refine I1.laid (a := s.heap.objs.size + 1) (o := .ins C s.heap.objs.size []) (t' := s.toks) (fun b u q => Heap.get?_push_of_some _ q) (Nat.le_of_eq (Heap.size_push _ _)) ?_
 have ne : s.heap.objs.size ≠ s.heap.objs.size + 1 := Nat.ne_of_lt (Nat.lt_succ_self _)
 refine ⟨by rw [upd_ne ne, upd_same], Nat.zero_le _, ne, e2, fun _ => none, (Heap.Ns1.of_empty e3).at fun o q => Heap.get?_push_of_some _ q, fun _ => True.intro, fun y hy => absurd rfl hy⟩
theorem attr_of {prog : Program} {w : World} {env : Env} {e : Expr} {f : Str} {pos : Pos} {s : Shared} {Q : Value → Shared → Prop} (hb : attributeBase e f env (eval e env) = eval e env)
  (h : wpAny (model prog w) A (eval e env) (fun o s₁ => wpAny (model prog w) A (getAttr o f true) Q E s₁) E s) : wpAny (model prog w) A (eval (.Attribute e f pos) env) Q E s :=
 Attribute_any_ h (by rw [arm_eval_Attribute, hb])
end
def tFld (K : PySem.W.Frag) (ta : TE) (f : Str) : TE := fun σ H Q => ta σ H fun x H1 => ∃ a C dx fs v, x = .ref a ∧ H1 a = some (.ins C dx fs) ∧ Cls K C ∧ NoAttr K C f ∧ fs.lookup f = some v ∧ Q v H1
def sFld (K : PySem.W.Frag) (ta tv : TE) (f : Str) : TS := fun D σ H => tv σ H fun y H1 => ta σ H1 fun x H2 => ∃ a C dx fs, x = .ref a ∧ H2 a = some (.ins C dx fs) ∧ Cls K C ∧ NoAttr K C f ∧ fs.length < 1000 ∧
 D.nx σ (upd H2 a (.ins C dx (putF f y fs)))
section
variable {X : Cx} {o e value : Expr} {f : Str} {pos pos' tpos : Pos} {ta tv : TE}
theorem pe_fld (he : PE X e ta) (hb : attributeBase e f X.env (eval e X.env) = eval e X.env) : PE X (.Attribute e f pos) (tFld X.K ta f) := by
 intro pins s σ H Q I h
 refine attr_of hb (thn (he pins s σ H _ I h) fun u s1 ⟨x, H1, I1, rx, a, C, dx, fs, v, ex, ea, c, n, l, q⟩ => ?_)
 subst ex
 obtain rfl : u = Value.ref a := rx
 exact getattr_ok I1 ea c n l fun u' s2 I2 ru => ⟨v, H1, I2, ru, q⟩
theorem ps_fld (ha : PE X o ta) (hv : PE X value tv) (hs : swapsWith value (some (.Attribute o f pos')) pos.line X.env = pure false) : PS X (.Assign [.Attribute o f pos'] value pos) (sFld X.K ta tv f) := by
 intro pins s σ H D I h
 refine plainObj_wpAny_Assign_Attribute (thn (hv pins s σ H _ I h) fun u s1 ⟨y, H1, I1, ry, q⟩ => thn (ha pins s1 σ H1 _ I1 q) fun ov s2 ⟨x, H2, I2, rx, a, C, dx, fs, ex, ea, c, n, l, q2⟩ => ?_) hs
 subst ex
 obtain rfl : ov = Value.ref a := rx
 exact setattr_ok I2 ea c n l ry fun s3 I3 => ⟨σ, _, I3, q2⟩
end
section
variable {X : Cx} {pins : List (Addr × Obj)} {σ : St} {H : Hp} {s : Shared} {A : Around} {E : Value → Shared → Prop} {Q : Value → Shared → Prop} {c : Value} {b : Bool}
inductive TyOf (K : PySem.W.Frag) (H : Hp) : V → Value → Prop where
 | non : TyOf K H .non (.type "NoneType")
 | bl (x : Bool) : TyOf K H (.bl x) (.type "bool")
 | int (i : Int) : TyOf K H (.int i) (.type "int")
 | str (x : Str) : TyOf K H (.str x) (.type "str")
 | flt (x : UInt64) : TyOf K H (.flt x) (.type "float")
 | lst {a : Addr} {xs : List V} (e : H a = some (.lst xs)) : TyOf K H (.ref a) (.type "list")
 | frz {a : Addr} {o : Obj} {xs : List V} (e : H a = some (.frz o (.lst xs))) : TyOf K H (.ref a) (.type "list")
 | tup {a : Addr} {xs : List V} (e : H a = some (.tup xs)) : TyOf K H (.ref a) (.type "tuple")
 | dK {a : Addr} {kvs : List (Key × V)} (e : H a = some (.dK kvs)) : TyOf K H (.ref a) (.type "dict")
 | dT {a : Addr} {kvs : List (List Key × V)} (e : H a = some (.dT kvs)) : TyOf K H (.ref a) (.type "dict")
 | ins {a C dx : Addr} {fs : List (Str × V)} (e : H a = some (.ins C dx fs)) (cl : Cls K C) (ha : PySem.W.findIn K (.ref C) "__class__" = some (some (.builtin "object.__class__")))
   (hn : PySem.W.specialIn K (.builtin "object.__class__") "__get__" = some (some (.builtin "getset_descriptor.__get__"))) (htk : PySem.W.takesIn K (.builtin "object.__class__") = some true)
   (hm : PySem.W.mroIn K C (.type "object") = some true) : TyOf K H (.ref a) (.ref C)
theorem isinst_ok {x : V} {u t : Value} (I : Inv X pins σ H s) (rx : RelV x u) (ty : TyOf X.K H x t) (e : PySem.W.kitOne X.K t c = some b) (h : ∀ tk, Q (.bool b) { s with toks := tk }) :
  wpAny (model X.prog X.w) A (call (.builtin "isinstance") [u, c]) Q E s := by
 cases ty with
 | non => cases (show u = Value.none from rx); exact PySem.W.kia_one PySem.W.kitx_none I.kIn True.intro e (fun z => nomatch z) h
 | bl y => cases (show u = Value.bool y from rx); exact PySem.W.kia_one PySem.W.kitx_bool I.kIn True.intro e (fun z => nomatch z) h
 | int i => obtain ⟨t, q⟩ := (show ∃ t, u = Value.int i t from rx); cases q; exact PySem.W.kia_one PySem.W.kitx_int I.kIn True.intro e (fun z => nomatch z) h
 | str y => obtain ⟨t, q⟩ := (show ∃ t, u = Value.str y t from rx); cases q; exact PySem.W.kia_one PySem.W.kitx_str I.kIn True.intro e (fun z => nomatch z) h
 | flt y => obtain ⟨t, q⟩ := (show ∃ t, u = Value.float y t from rx); cases q; exact PySem.W.kia_one PySem.W.kitx_float I.kIn True.intro e (fun z => nomatch z) h
 | @lst a xs ea =>
  cases (show u = Value.ref a from rx)
  obtain ⟨_, _, n, _, h1⟩ := (show ObjOk X.prog X.w H s.heap a (.lst xs) from I.hok a _ ea)
  exact PySem.W.kia_one PySem.W.kitx_list I.kIn ⟨_, h1, rfl⟩ e (fun z => nomatch z) h
 | @frz a ob xs ea =>
  cases (show u = Value.ref a from rx)
  obtain ⟨_, _, _, n, _, h1⟩ := (show ObjOk X.prog X.w H s.heap a (.frz ob (.lst xs)) from I.hok a _ ea)
  exact PySem.W.kia_one PySem.W.kitx_list I.kIn ⟨_, h1, rfl⟩ e (fun z => nomatch z) h
 | @tup a xs ea =>
  cases (show u = Value.ref a from rx)
  obtain ⟨_, _, _, p⟩ := (show ObjOk X.prog X.w H s.heap a (.tup xs) from I.hok a _ ea)
  obtain ⟨o, h1, h2, _⟩ := p
  exact PySem.W.kia_one PySem.W.kitx_tuple I.kIn ⟨o, h1, h2⟩ e (fun z => nomatch z) h
 | @dK a kvs ea =>
  cases (show u = Value.ref a from rx)
  obtain ⟨_, _, vs, _, p⟩ := (show ObjOk X.prog X.w H s.heap a (.dK kvs) from I.hok a _ ea)
  obtain ⟨o, es, ep, h1, h2, _⟩ := p
  exact PySem.W.kia_one PySem.W.kitx_dict I.kIn ⟨o, h1, h2.1⟩ e (fun z => nomatch z) h
 | @dT a kvs ea =>
  cases (show u = Value.ref a from rx)
  obtain ⟨_, _, xs, _, o, es, ep, h1, h2, _⟩ := (show ObjOk X.prog X.w H s.heap a (.dT kvs) from I.hok a _ ea)
  exact PySem.W.kia_one PySem.W.kitx_dict I.kIn ⟨o, h1, h2.1⟩ e (fun z => nomatch z) h
 | @ins a C dx fs ea cl ha hn htk hm =>
  cases (show u = Value.ref a from rx)
  obtain ⟨mA, O, _⟩ := ins_get I.hok ea
  obtain ⟨od, J, _⟩ := O.look
  exact PySem.W.kia_one (PySem.W.kitx_own (cl.get _) cl.hd ha hn htk hm) I.kIn J e (fun z => nomatch z) h
end
end L2
namespace L2
open PySem PySem.Spec PyProof.Rows
structure Room (k : Nat) (A : Around) : Prop where
 hd : A.handled = none
 gd : A.guards = some []
 dp : A.depth + 3 * k + 5 < recursionLimit
 un : A.units + 16 * k + 200 < cLine
theorem Room.mono {j k : Nat} {A : Around} (r : Room k A) (h : j ≤ k) : Room j A := ⟨r.hd, r.gd, by have := r.dp; omega, by have := r.un; omega⟩
theorem Room.deeper {k : Nat} {A : Around} (r : Room (k + 1) A) (env : Env) : Room k (A.deeper env) :=
 ⟨r.hd, r.gd, by have := r.dp; show A.depth + 1 + 3 * k + 5 < _; omega, by have := r.un; show A.units + 3 + 16 * k + 200 < _; omega⟩
theorem make_depth {A : Around} {C : Addr} {us : List Value} {kw : List (Str × Value)} : (A.under (.builtin "type.__call__" ⟨.ref C :: us, kw⟩)).depth = A.depth + 1 := by
 first | rfl | simp [Around.under, Code.weight, Code.isCreation, Code.isGuard, Code.isCaller, Code.frames, Code.isFrame, guardIds]
theorem make_units {A : Around} {C : Addr} {us : List Value} {kw : List (Str × Value)} : (A.under (.builtin "type.__call__" ⟨.ref C :: us, kw⟩)).units = A.units + 1 := by
 first | rfl | simp [Around.under, Code.cUnits, Code.frames, Code.isFrame]
theorem make_guards {A : Around} {C : Addr} {us : List Value} {kw : List (Str × Value)} : (A.under (.builtin "type.__call__" ⟨.ref C :: us, kw⟩)).guards = A.guards := by
  first
    | rfl
    | (show pushGuards (Code.guards _) A.guards = A.guards
       have e : Code.guards (.builtin "type.__call__" ⟨.ref C :: us, kw⟩) = [] := by first | rfl | (simp [Code.guards, Code.isGuard, guardIds])
       rw [e, pushGuards_eq]
       cases A.guards <;> simp)
theorem Room.make {k : Nat} {A : Around} (r : Room (k + 1) A) (C : Addr) (us : List Value) (kw : List (Str × Value)) : Room k (A.under (.builtin "type.__call__" ⟨.ref C :: us, kw⟩)) :=
 ⟨r.hd, by rw [make_guards]; exact r.gd, by have := r.dp; rw [make_depth]; omega, by have := r.un; rw [make_units]; omega⟩
theorem Room.depth {k : Nat} {A : Around} (r : Room k A) : A.depth < recursionLimit := by have := r.dp; omega
theorem Room.units {k : Nat} {A : Around} (r : Room k A) : A.units + 64 < cLine := by have := r.un; omega
def tNil : TA := fun _ H Q => Q [] H
def tCons (ta : TE) (tr : TA) : TA := fun σ H Q => ta σ H fun x H1 => tr σ H1 fun xs H2 => Q (x :: xs) H2
section
variable {X : Cx} {e : Expr} {es : List Expr} {te : TE} {t : TA} {pos : Pos}
theorem pa_nil : PA X [] tNil := fun _ _ _ _ H Q I h => Calls.spliced_nil ⟨[], H, I, .nil, h⟩
theorem pa_cons (ha : PE X e te) (hr : PA X es t) (hs : starEach (e :: es) X.env = (false, eval e X.env) :: starEach es X.env := by rfl) : PA X (e :: es) (tCons te t) := by
 intro pos pins s σ H Q I h
 rw [hs]
 show wpAny _ _ (spliced ((false, eval e X.env) :: backTo pos (starEach es X.env))) _ _ s
 refine Calls.spliced_cons (thn (ha pins s σ H _ I h) fun u s1 ⟨x, H1, I1, r1, q1⟩ => ?_)
 exact thn (hr pos pins s1 σ H1 _ I1 q1) fun us s2 ⟨xs, H2, I2, r2, q2⟩ => ⟨x :: xs, H2, I2, .cons r1 r2, q2⟩
def tTup (t : TA) : TE := fun σ H Q => t σ H fun xs H1 => xs.length ≤ sizeLine ∧ ∀ p, H1 p = none → Q (.ref p) (upd H1 p (.tup xs))
def tLst (t : TA) : TE := fun σ H Q => t σ H fun xs H1 => xs.length ≤ sizeLine ∧ ∀ p, H1 p = none → Q (.ref p) (upd H1 p (.lst xs))
theorem pe_tup {x1} (h : PA X es t) : PE X (.Tuple es x1 pos) (tTup t) := by
 intro pins s σ H Q I hq
 refine wpAny_Tuple_spliced (thn (h pos pins s σ H _ I hq) fun us s1 ⟨xs, H1, I1, r, z, q⟩ => ⟨by rw [← r.length]; exact z, ?_⟩)
 have hf : H1 s1.heap.objs.size = none := I1.hok.fresh (Nat.le_refl _)
 refine ⟨.ref s1.heap.objs.size, upd H1 s1.heap.objs.size (.tup xs), I1.laid (t' := s1.toks) (fun b u e => Heap.get?_push_of_some _ e) (Nat.le_refl _) ?_, rfl, q _ hf⟩
 exact ⟨z, us, r, ⟨_, Heap.get?_push_size _ rfl, rfl, _, rfl⟩⟩
theorem pe_lst (h : PA X es t) : PE X (.List es pos) (tLst t) := by
 intro pins s σ H Q I hq
 refine wpAny_List_spliced (thn (h pos pins s σ H _ I hq) fun us s1 ⟨xs, H1, I1, r, z, q⟩ => ⟨by rw [← r.length]; exact z, ?_⟩)
 have hf : H1 s1.heap.objs.size = none := I1.hok.fresh (Nat.le_refl _)
 refine ⟨.ref s1.heap.objs.size, upd H1 s1.heap.objs.size (.lst xs), I1.laid (t' := s1.toks) (fun b u e => Heap.get?_push_of_some _ e) (Nat.le_refl _) ?_, rfl, q _ hf⟩
 exact ⟨z, us, 0, r, Heap.get?_push_size _ rfl⟩
end
abbrev Sp := List V → Hp → VK → XK → Prop
abbrev CXT := List Env → Hp → Shared → XK → Value → Shared → Prop
structure Env0 (P : Program) (w : World) (K : PySem.W.Frag) (mg : Str → Option Value) (base : Heap) (A : Around) (outer : List Env) (s : Shared) (H : Hp) : Prop where
 frames : A.frames = some outer
 mod : Mod K mg base
 bs : ∀ b o, base.get? b = some o → s.heap.get? b = some o ∧ H b = none
 bsz : base.objs.size ≤ s.heap.objs.size
 funs : s.heap.FunFrames base outer
 frf : ∀ b ∈ frs outer, H b = none
 hok : HOk P w H s.heap
 bare : AllBare s.gens
def CE (outer : List Env) (P : Program) (w : World) (H : Hp) (s : Shared) (Q : VK) (u : Value) (s' : Shared) : Prop :=
 ∃ v H', s'.os = s.os ∧ AllBare s'.gens ∧ Un (frs outer) [] H H' s.heap s'.heap ∧ HOk P w H' s'.heap ∧ RelV v u ∧ Q v H'
def CR (CX : CXT) (outer : List Env) (P : Program) (w : World) (H : Hp) (s : Shared) (Q : VK) (E : XK) (r : Result) (s' : Shared) : Prop :=
 match r with
 | .ok (.ret u) => CE outer P w H s Q u s'
 | .ok _ => False
 | .error e => CX outer H s E e s'
structure FnOk (P : Program) (w : World) (K : PySem.W.Frag) (mg : Str → Option Value) (base : Heap) (CX : CXT) (k : Nat) (f : Addr) (fd : FuncData) (ps : List Str) (sp : Sp) : Prop where
 len : ∀ vs H Q E, sp vs H Q E → vs.length = ps.length
 run : ∀ (A : Around) (outer : List Env) (s : Shared) (H : Hp) (args : Args) (us : List Value) (vs : List V) (Q : VK) (E : XK), Room k A → Env0 P w K mg base A outer s H → BindsTo s fd args (ps.zip us) → Vals vs us → sp vs H Q E →
  codeAny (model P w) A (.call (.ref f) args) (CR CX outer P w H s Q E) s
theorem Env0.make {P : Program} {w : World} {K : PySem.W.Frag} {mg : Str → Option Value} {base : Heap} {A : Around} {outer : List Env} {s : Shared} {H : Hp} (e : Env0 P w K mg base A outer s H) (C : Addr) (us : List Value) (kw : List (Str × Value)) :
  Env0 P w K mg base (A.under (.builtin "type.__call__" ⟨.ref C :: us, kw⟩)) outer s H := ⟨by first | exact e.frames | (simpa [Around.under, Code.envs, Code.isFrame, pushEnvs] using e.frames), e.mod, e.bs, e.bsz, e.funs, e.frf, e.hok, e.bare⟩
section
variable {X : Cx} {pins : List (Addr × Obj)} {σ : St} {H : Hp} {s s' : Shared}
theorem Inv.env0 (I : Inv X pins σ H s) : Env0 X.prog X.w X.K X.mg X.base X.A X.stack s H :=
 ⟨I.ok.frames, I.ok.mod, I.bs, Nat.le_trans I.ok.bsz I.sz, I.stack, I.stkFree, I.hok, I.bare⟩
theorem Inv.after {Q : VK} {u : Value} (I : Inv X pins σ H s) (h : CE X.stack X.prog X.w H s Q u s') : EP X pins σ Q u s' := by
 obtain ⟨v, H', os, bare, un, hok, r, q⟩ := h
 obtain ⟨hh, g, d, t, os'⟩ := s'
 obtain rfl : os' = s.os := os
 exact ⟨v, H', I.call (h' := hh) (g' := g) (d' := d) (t' := t) (ch := []) un hok bare (fun b z => absurd z (by simp)), r, q⟩
end
def tCall (sp : Sp) (dvs : List V) (E : XK) (t : TA) : TE := fun σ H Q => t σ H fun vs H1 => sp (vs ++ dvs) H1 Q E
def tMeth (C : Addr) (m : Str) (sp : Sp) (dvs : List V) (E : XK) (ta : TE) (t : TA) : TE := fun σ H Q => ta σ H fun x H1 => ∃ a dx fs, x = .ref a ∧ H1 a = some (.ins C dx fs) ∧ fs.lookup m = none ∧
 t σ H1 fun vs H2 => sp (x :: (vs ++ dvs)) H2 Q E
def tMake (C : Addr) (sp : Sp) (dvs : List V) (E : XK) (t : TA) : TE := fun σ H Q => t σ H fun vs H1 => ∀ x dx, H1 x = none → H1 dx = none → dx ≠ x →
 sp (.ref x :: (vs ++ dvs)) (upd (upd H1 dx (.own x)) x (.ins C dx [])) (fun v H2 => v = .non ∧ Q (.ref x) H2) E
def Binds (K : PySem.W.Frag) (fd : FuncData) (ps : List Str) (ds : List Value) : Prop :=
 ∀ (s : Shared) (us : List Value), K.In s.heap → (us ++ ds).length = ps.length → BindsTo s fd ⟨us, []⟩ (ps.zip (us ++ ds))
theorem Binds.all {K : PySem.W.Frag} {fd : FuncData} {ps : List Str} (h : ∀ us : List Value, us.length = ps.length → bindArgs fd ⟨us, []⟩ = pure (ps.zip us)) : Binds K fd ps [] := fun s us _ hl => by
 rw [List.append_nil] at hl ⊢
 exact .of_eq (h us hl)
def Passes (CX : CXT) (X : Cx) (E : XK) : Prop := ∀ (pins : List (Addr × Obj)) (σ : St) (H : Hp) (s : Shared) (e : Value) (s' : Shared), Inv X pins σ H s → CX X.stack H s E e s' → X.xe e s'
section
variable {X : Cx} {CX : CXT} {k : Nat} {f C : Addr} {fd : FuncData} {ps : List Str} {sp : Sp} {dvs : List V} {ds : List Value} {E : XK} {x m : Str} {p pos apos : Pos} {e o : Expr} {es : List Expr} {ta : TE} {t : TA}
theorem run_fn {pins : List (Addr × Obj)} {σ : St} {H : Hp} {s : Shared} {Q : VK} {us : List Value} {vs : List V} (F : FnOk X.prog X.w X.K X.mg X.base CX k f fd ps sp) (hr : Room k X.A) (hb : Binds X.K fd ps ds) (hd : Vals dvs ds) (hx : Passes CX X E)
  (I : Inv X pins σ H s) (r : Vals vs us) (h : sp (vs ++ dvs) H Q E) : wpAny (model X.prog X.w) X.A (call (.ref f) us) (EP X pins σ Q) X.xe s := by
 have r2 : Vals (vs ++ dvs) (us ++ ds) := r.append hd
 have hl : (us ++ ds).length = ps.length := by rw [← r2.length]; exact F.len _ _ _ _ h
 refine wpAny_call (codeAny_mono (F.run X.A X.stack s H ⟨us, []⟩ (us ++ ds) (vs ++ dvs) Q E hr I.env0 (hb s us I.kIn hl) r2 h) fun r s' hq => ?_)
 cases r with
 | error e => exact hx pins σ H s e s' I hq
 | ok fl =>
  cases fl with
  | ret u => exact I.after hq
  | next => exact False.elim hq
  | brk => exact False.elim hq
  | cont => exact False.elim hq
theorem pe_call (F : FnOk X.prog X.w X.K X.mg X.base CX k f fd ps sp) (hr : Room k X.A) (hg : Gl X x) (hm : X.mg x = some (.ref f)) (hk : PySem.W.keepIn X.K (.ref f) = true) (hb : Binds X.K fd ps ds) (hd : Vals dvs ds) (hx : Passes CX X E)
  (ha : PA X (e :: es) t) (hdb : (x == ("__debug__" : Str)) = false := by decide) (he : starEach (e :: es) X.env = (false, eval e X.env) :: starEach es X.env := by rfl) (hpl : (backTo pos (starEach es X.env)).any (·.1) = false := by rfl) :
  PE X (.Call (.Name x p) (e :: es) [] pos) (tCall sp dvs E t) := by
 intro pins s σ H Q I h
 refine wpAny_Call_Name_kw (ld_glob I hg hm ?_ hdb)
 refine PySem.W.callWith_K (h₀ := X.base) I.ok.mod.kin hk (thn (ha pos pins s σ H _ I h) fun us s1 ⟨vs, H1, I1, r, q⟩ => ⟨I1.kIn, ?_⟩) he hpl
 exact run_fn F hr hb hd hx I1 r q
theorem pe_meth0 {pl : Sem Bool} (he : PE X o ta) (c : Cls X.K C) (hm : Meth X.K C m f) (F : FnOk X.prog X.w X.K X.mg X.base CX k f fd ps sp) (hr : Room k X.A) (hb : Binds X.K fd ps ds) (hd : Vals dvs ds) (hx : Passes CX X E)
  (ht : eval (.Call (.Attribute o m apos) [] [] pos) X.env = (do
   let ov ← eval o X.env
   standAt apos.atName
   let (f, first) ← holding [ov] (getMethod ov m pl)
   callWith pos f first (backTo pos (starEach [] X.env)) (backToKw pos (keywordEach [] X.env))) := by rfl) :
  PE X (.Call (.Attribute o m apos) [] [] pos) (tMeth C m sp dvs E ta tNil) := by
 intro pins s σ H Q I h
 refine PySem.W.methodCall_KW (pl := pl) (thn (he pins s σ H _ I h) fun u s1 ⟨x, H1, I1, rx, a, dx, fs, ex, ea, l, q⟩ => ?_) ht
 subst ex
 obtain rfl : u = Value.ref a := rx
 refine getmeth_ok I1 ea c hm l ?_
 exact PySem.W.callWith_K0 (first := [.ref a]) I1.kIn hm.kp (run_fn (us := [.ref a]) (vs := [.ref a]) F hr hb hd hx I1 (.cons rfl .nil) q)
structure Mk (K : PySem.W.Frag) (C f : Addr) : Prop where
 makes : PySem.W.makesIn K C = true
 init : PySem.W.findIn K (.ref C) "__init__" = some (some (.ref f))
 fn : PySem.W.isFn K (.ref f) = true
 kp : PySem.W.keepIn K (.ref C) = true
theorem run_make {pins : List (Addr × Obj)} {σ : St} {H : Hp} {s : Shared} {Q : VK} {us : List Value} {vs : List V} (M : Mk X.K C f) (F : FnOk X.prog X.w X.K X.mg X.base CX k f fd ps sp) (hr : Room (k + 1) X.A) (hb : Binds X.K fd ps ds) (hd : Vals dvs ds)
  (hx : Passes CX X E) (I : Inv X pins σ H s) (r : Vals vs us)
  (h : ∀ x dx, H x = none → H dx = none → dx ≠ x → sp (.ref x :: (vs ++ dvs)) (upd (upd H dx (.own x)) x (.ins C dx [])) (fun v H2 => v = .non ∧ Q (.ref x) H2) E) :
  wpAny (model X.prog X.w) X.A (call (.ref C) us) (EP X pins σ Q) X.xe s := by
 have hq := h (s.heap.objs.size + 1) s.heap.objs.size (I.hok.fresh (Nat.le_succ _)) (I.hok.fresh (Nat.le_refl _)) (Nat.ne_of_lt (Nat.lt_succ_self _))
 have I2 := Inv.made (C := C) I
 have r2 : Vals (V.ref (s.heap.objs.size + 1) :: (vs ++ dvs)) (Value.ref (s.heap.objs.size + 1) :: (us ++ ds)) := .cons rfl (r.append hd)
 have hl : (Value.ref (s.heap.objs.size + 1) :: us ++ ds).length = ps.length := by
  have e := r2.length
  rw [F.len _ _ _ _ hq] at e
  exact e.symm
 refine wpAny_call (make_map (f := f) I.kIn M.makes M.init (beq_iff_eq.mp M.fn) (codeAny_mono (F.run _ X.stack _ _ ⟨Value.ref (s.heap.objs.size + 1) :: us, []⟩ (Value.ref (s.heap.objs.size + 1) :: (us ++ ds)) _ _ E (hr.make C us [])
  (I2.env0.make C us []) (hb _ (Value.ref (s.heap.objs.size + 1) :: us) I2.kIn hl) r2 hq) fun r s' hq' => ?_))
 cases r with
 | error e => exact hx pins σ _ _ e s' I2 hq'
 | ok fl =>
  cases fl with
  | ret u =>
   obtain ⟨v, H', I3, rv, ev, q3⟩ := I2.after hq'
   subst ev
   exact ⟨rv, ⟨V.ref (s.heap.objs.size + 1), H', I3, rfl, q3⟩⟩
  | next => exact False.elim hq'
  | brk => exact False.elim hq'
  | cont => exact False.elim hq'
theorem pe_make (M : Mk X.K C f) (F : FnOk X.prog X.w X.K X.mg X.base CX k f fd ps sp) (hr : Room (k + 1) X.A) (hg : Gl X x) (hm : X.mg x = some (.ref C)) (hb : Binds X.K fd ps ds) (hd : Vals dvs ds) (hx : Passes CX X E)
  (ha : PA X (e :: es) t) (hdb : (x == ("__debug__" : Str)) = false := by decide) (he : starEach (e :: es) X.env = (false, eval e X.env) :: starEach es X.env := by rfl) (hpl : (backTo pos (starEach es X.env)).any (·.1) = false := by rfl) :
  PE X (.Call (.Name x p) (e :: es) [] pos) (tMake C sp dvs E t) := by
 intro pins s σ H Q I h
 refine wpAny_Call_Name_kw (ld_glob I hg hm ?_ hdb)
 refine PySem.W.callWith_K (h₀ := X.base) I.ok.mod.kin M.kp (thn (ha pos pins s σ H _ I h) fun us s1 ⟨vs, H1, I1, r, q⟩ => ⟨I1.kIn, ?_⟩) he hpl
 exact run_make M F hr hb hd hx I1 r q
end
section
variable {X : Cx} {CX : CXT} {k : Nat} {f C : Addr} {fd : FuncData} {ps ks : List Str} {sp : Sp} {E : XK} {x m : Str} {p pos apos kpos : Pos} {e o : Expr} {es : List Expr} {kws : List Keyword} {te ta : TE} {t tk : TA} {nm : Option Str}
structure KBinds (K : PySem.W.Frag) (fd : FuncData) (ps ks : List Str) (g : List Value → List Value → List Value) (gV : List V → List V → List V) : Prop where
 to : ∀ (s : Shared) (us ws : List Value), K.In s.heap → (g us ws).length = ps.length → BindsTo s fd ⟨us, ks.zip ws⟩ (ps.zip (g us ws))
 rel : ∀ {vs : List V} {us : List Value} {zs : List V} {ws : List Value}, Vals vs us → Vals zs ws → Vals (gV vs zs) (g us ws)
variable {g : List Value → List Value → List Value} {gV : List V → List V → List V}
end
structure FnScope (N P : List Str) (sc : Scope) : Prop where
 kind : sc.kind = .function
 co : sc.isCoroutine = false
 gen : sc.isGenerator = false
 nd : N.Nodup
 pre : N.take P.length = P
 par : ∀ x ∈ P, sc.names.lookup x = some .local ∨ sc.names.lookup x = some .cell
 nofree : ∀ y ∈ sc.names, y.2 ≠ .free
theorem bindL_out {kindOf : Str → Option NameKind} {x : Str} : ∀ {binds : List (Str × Value)} {m : Str → Option Value}, (∀ v, (x, v) ∉ binds) → bindL kindOf binds m x = m x
 | [], _, _ => rfl
 | (n, v) :: r, m, h => by
  unfold bindL
  rw [bindL_out fun w hw => h w (List.mem_cons_of_mem _ hw)]
  split
  ·have : x ≠ n := by rintro rfl; exact h v List.mem_cons_self
   simp [this]
  ·rfl
theorem bindC_out {kindOf : Str → Option NameKind} {x : Str} : ∀ {binds : List (Str × Value)} {m : Str → Option Value}, (∀ v, (x, v) ∉ binds) → bindC kindOf binds m x = m x
 | [], _, _ => rfl
 | (n, v) :: r, m, h => by
  unfold bindC
  rw [bindC_out fun w hw => h w (List.mem_cons_of_mem _ hw)]
  split
  ·rfl
  ·have : x ≠ n := by rintro rfl; exact h v List.mem_cons_self
   simp [this]
theorem bindL_get {kindOf : Str → Option NameKind} {x : Str} {v : Value} : ∀ {P : List Str} {vs : List Value} {i : Nat} {m : Str → Option Value}, P.Nodup → P[i]? = some x → vs[i]? = some v → kindOf x = some .local →
  bindL kindOf (P.zip vs) m x = some v
 | [], _, _, _, _, h, _, _ => by simp at h
 | _ :: _, [], _, _, _, _, h, _ => by simp at h
 | p :: P, w :: vs, 0, m, nd, h1, h2, hk => by
  simp at h1 h2; subst h1; subst h2
  show bindL kindOf ((p, w) :: P.zip vs) m p = _
  unfold bindL
  rw [bindL_out fun v hv => (List.nodup_cons.mp nd).1 (List.of_mem_zip hv).1, if_pos hk]
  simp
 | p :: P, w :: vs, i + 1, m, nd, h1, h2, hk => by
  show bindL kindOf ((p, w) :: P.zip vs) m x = _
  unfold bindL
  exact bindL_get (i := i) (List.nodup_cons.mp nd).2 (by simpa using h1) (by simpa using h2) hk
theorem bindC_get {kindOf : Str → Option NameKind} {x : Str} {v : Value} : ∀ {P : List Str} {vs : List Value} {i : Nat} {m : Str → Option Value}, P.Nodup → P[i]? = some x → vs[i]? = some v → kindOf x ≠ some .local →
  bindC kindOf (P.zip vs) m x = some v
 | [], _, _, _, _, h, _, _ => by simp at h
 | _ :: _, [], _, _, _, _, h, _ => by simp at h
 | p :: P, w :: vs, 0, m, nd, h1, h2, hk => by
  simp at h1 h2; subst h1; subst h2
  show bindC kindOf ((p, w) :: P.zip vs) m p = _
  unfold bindC
  rw [bindC_out fun v hv => (List.nodup_cons.mp nd).1 (List.of_mem_zip hv).1, if_neg hk]
  simp
 | p :: P, w :: vs, i + 1, m, nd, h1, h2, hk => by
  show bindC kindOf ((p, w) :: P.zip vs) m x = _
  unfold bindC
  exact bindC_get (i := i) (List.nodup_cons.mp nd).2 (by simpa using h1) (by simpa using h2) hk
def start (N : List Str) (vs : List V) : St := vs.map some ++ List.replicate (N.length - vs.length) none
def cxOf (CX : CXT) (P : Program) (w : World) (K : PySem.W.Frag) (mg : Str → Option Value) (base : Heap) (N : List Str) (qual : Str) (scope : Scope) (f : Addr) (cd : Value) (A : Around) (outer : List Env) (s : Shared) (H : Hp) (E : XK) : Cx where
 prog := P
 w := w
 K := K
 mg := mg
 base := base
 A := A.deeper (envOfC qual scope s.heap.objs.size f cd)
 N := N
 s₀ := s
 H₀ := H
 env := envOfC qual scope s.heap.objs.size f cd
 outer := outer
 stack := envOfC qual scope s.heap.objs.size f cd :: outer
 ex := []
 calm := true
 fn := fun _ => true
 pn := []
 xe := fun e s' => wpAny (model P w) (A.deeper (envOfC qual scope s.heap.objs.size f cd)) (leaving (envOfC qual scope s.heap.objs.size f cd) e) (fun _ s'' => CX outer H s E e s'') (fun e' s'' => CX outer H s E e' s'') s'
theorem cell_has {sc : Scope} {n : Nat} {x : Str} (h : sc.names.lookup x = some .cell) : ∃ c, (cellsFrom n sc.names []).lookup x = some c := by
 have q := PySem.W.cellsFrom_some sc.names n [] (.inl h)
 exact Option.isSome_iff_exists.mp q
theorem inv_start {CX : CXT} {P : Program} {w : World} {K : PySem.W.Frag} {mg : Str → Option Value} {base : Heap} {N ps : List Str} {qual : Str} {scope : Scope} {f : Addr} {cd : Value} {A : Around} {outer : List Env} {s s1 : Shared} {H : Hp} {E : XK} {us : List Value} {vs : List V}
  (S : FnScope N ps scope) (hd : A.handled = none) (e0 : Env0 P w K mg base A outer s H) (hl : vs.length = ps.length) (r : Vals vs us)
  (x : InCallC s s.heap.objs.size (bindL (envOfC qual scope s.heap.objs.size f cd).kindOf (ps.zip us) fun _ => none) (cellsFrom (s.heap.objs.size + 1) scope.names []) (bindC (envOfC qual scope s.heap.objs.size f cd).kindOf (ps.zip us) fun _ => none) s1) :
  Inv (cxOf CX P w K mg base N qual scope f cd A outer s H E) [] (start N vs) H s1 := by
 have hpl : ps.length ≤ N.length := by have := congrArg List.length S.pre; rw [List.length_take] at this; omega
 obtain ⟨h1, tk, rfl, hk⟩ := x.done
 have noA : ∀ b : Addr, b ∉ (cxOf CX P w K mg base N qual scope f cd A outer s H E).ex := fun b z => absurd (show b ∈ ([] : List Addr) from z) (by simp)
 refine ⟨⟨e0.mod, S.kind, rfl, rfl, Nat.le_refl _, fun y z c h1 h2 => ?_, fun y hy => ?_, fun y c _ h => ?_, fun _ => hd, Around.frames_deeper e0.frames, .inr ⟨rfl, rfl⟩, fun b z => absurd z (noA b), e0.bs, e0.bsz, fun b _ _ => noA b, fun b z => absurd z (noA b), e0.funs, e0.frf⟩,
  rfl, e0.bare, Un.kept hk, ⟨_, x.toInCall.ns, fun i y v h1 h2 h3 => ?_⟩, fun y c h => ⟨_, x.cell y c h⟩, e0.hok.fresh (Nat.le_refl _), fun y c h => ?_, fun p hp => absurd (show p ∈ ([] : List (Addr × Obj)) from hp) (by simp), e0.hok.kept hk, ?_⟩
 ·exact name_of_addr x.apart (PySem.mem_of_lookup h1) (PySem.mem_of_lookup h2)
 ·have hy : scope.names.lookup y = some .cell ∨ scope.names.lookup y = some .free := hy
  rcases hy with hy | hy
  ·exact cell_has hy
  ·exact absurd rfl (S.nofree _ (PySem.mem_of_lookup hy))
 ·exact Nat.le_of_lt (x.above y c (PySem.mem_of_lookup h))
 ·have hi : i < vs.length := by
   unfold start at h2
   by_cases hi : i < vs.length
   ·exact hi
   ·rw [List.getElem?_append_right (by simpa using hi)] at h2
    rw [List.getElem?_replicate] at h2
    split at h2 <;> cases h2
  have ha : vs[i]? = some v := by
   unfold start at h2
   rw [List.getElem?_append_left (by simpa using hi), List.getElem?_map] at h2
   cases e : vs[i]? with
   | none => rw [e] at h2; cases h2
   | some a => rw [e] at h2; cases h2; rfl
  obtain ⟨u, hu, rv⟩ := r.get ha
  have hp : ps[i]? = some y := by
   rw [← S.pre, List.getElem?_take_of_lt (by omega)]; exact h1
  have ndP : ps.Nodup := by rw [← S.pre]; exact S.nd.sublist (List.take_sublist _ _)
  refine ⟨u, rv, ?_⟩
  rcases S.par y (List.mem_of_getElem? hp) with k | k
  ·exact .inl ⟨k, bindL_get ndP hp hu k⟩
  ·obtain ⟨c, e⟩ := cell_has (n := s.heap.objs.size + 1) k
   refine .inr ⟨.inl k, c, e, ?_⟩
   have q := x.cell y c e
   rw [bindC_get ndP hp hu (by show scope.names.lookup y ≠ _; rw [k]; decide)] at q
   exact q
 ·exact e0.hok.fresh (Nat.le_of_lt (x.above y c (PySem.mem_of_lookup h)))
 ·unfold start
  show _ = N.length
  rw [List.length_append, List.length_map, List.length_replicate]
  omega
theorem fn_of {CX : CXT} {P : Program} {w : World} {K : PySem.W.Frag} {mg : Str → Option Value} {base : Heap} {k : Nat} {f : Addr} {name qual : Str} {params : Arguments} {body : List Stmt} {scope : Scope} {dV kV doc pm cdv ct oc : Value} {an od : Option Addr}
  {osl : Array (Option Value)} {N ps : List Str} {sp : Sp} (lk : K.lookup f = some ⟨oc, od, .func (PySem.W.fnOf name qual params body scope dV kV doc pm an cdv ct), osl⟩) (hcd : PySem.W.codeIn K cdv qual = true) (S : FnScope N ps scope)
  (len : ∀ vs H Q E, sp vs H Q E → vs.length = ps.length)
  (hbody : ∀ (A : Around) (outer : List Env) (s : Shared) (H : Hp) (vs : List V) (Q : VK) (E : XK), Room k (A.deeper (envOfC qual scope s.heap.objs.size f cdv)) → sp vs H Q E →
   ∃ t, PSs (cxOf CX P w K mg base N qual scope f cdv A outer s H E) body t ∧ t { nx := fun _ H' => Q .non H', rt := Q } (start N vs) H) :
  FnOk P w K mg base CX (k + 1) f (PySem.W.fnOf name qual params body scope dV kV doc pm an cdv ct) ps sp := by
 refine ⟨len, fun A outer s H args us vs Q E hr e0 hb r hsp => ?_⟩
 have hl := len _ _ _ _ hsp
 have KX : K.In s.heap := e0.mod.kin.keeps fun b o e => (e0.bs b o e).1
 have lim : s.heap.NoLimit := e0.mod.nolimit.keeps fun b o e => (e0.bs b o e).1
 have hkind : ∀ y ∈ ps.zip us, scope.names.lookup y.1 = some .local ∨ (scope.names.lookup y.1 = some .cell ∧ ((cellsFrom (s.heap.objs.size + 1) scope.names []).lookup y.1).isSome = true) := fun ⟨n, v⟩ hy => by
  rcases S.par n (List.of_mem_zip hy).1 with q | q
  ·exact .inl q
  ·exact .inr ⟨q, PySem.W.cellsFrom_some _ _ _ (.inl q)⟩
 refine codeAny_call_function hr.depth (KX _ _ lk) rfl S.co S.gen rfl (PySem.W.codeRec_of KX hcd) (hb _ _ _ _ ?_)
 refine wpAny_newFunctionEnv_cells S.kind hkind fun env he s1 x => ?_
 subst he
 refine ⟨lim.keeps x.toInCall.keep, codeAny_func ?_⟩
 obtain ⟨t, ht, hq⟩ := hbody A outer s H vs Q E (hr.deeper _) hsp
 have I : Inv (cxOf CX P w K mg base N qual scope f cdv A outer s H E) [] (start N vs) H s1 := inv_start S hr.hd e0 hl r x
 refine wpAny_mono (ht [] s1 (start N vs) H _ I hq) (fun fl s' hs => ?_) fun e s' hs => hs
 have fin : ∀ {σ' : St} {H' : Hp} {v : V} {u : Value}, Inv (cxOf CX P w K mg base N qual scope f cdv A outer s H E) [] σ' H' s' → RelV v u → Q v H' → CE outer P w H s Q u s' :=
  fun {σ' H' v u} J rv q => ⟨v, H', J.os, J.bare, J.base, J.hok, rv, q⟩
 cases fl with
 | ret u =>
  obtain ⟨v, σ', H', J, rv, q⟩ := hs
  exact fin J rv q
 | next =>
  obtain ⟨σ', H', J, q⟩ := hs
  exact fin (v := V.non) (u := Value.none) J rfl q
 | brk =>
  obtain ⟨_, _, _, q⟩ := hs
  exact False.elim q
 | cont =>
  obtain ⟨_, _, _, q⟩ := hs
  exact False.elim q
end L2
namespace L2
open PySem PySem.Spec PyProof.Rows
section
variable {X : Cx} {x : Str} {p pos : Pos} {e : Expr} {es : List Expr} {t : TA} {id T : String} {r : List V → Hp → VK → Prop}
def tCB (r : List V → Hp → VK → Prop) (t : TA) : TE := fun σ H Q => t σ H fun vs H1 => r vs H1 Q
theorem pe_callB (hc : CallR X (.builtin id) r) (hg : Gl X x) (hm : X.mg x = none) (hv : bootBuiltins x = some (.builtin id)) (ha : PA X (e :: es) t) (hn : x ≠ "__name__" := by decide) (hdb : (x == ("__debug__" : Str)) = false := by decide)
  (he : starEach (e :: es) X.env = (false, eval e X.env) :: starEach es X.env := by rfl) (hpl : (backTo pos (starEach es X.env)).any (·.1) = false := by rfl) : PE X (.Call (.Name x p) (e :: es) [] pos) (tCB r t) := by
 intro pins s σ H Q I h
 refine wpAny_Call_Name_kw (ld_blt I hg hm hv ?_ hn hdb)
 exact PyProof.Rows.callWith_builtin1 (thn (ha pos pins s σ H _ I h) fun us s1 ⟨vs, H1, I1, r1, q1⟩ => hc pins s1 σ H1 vs us Q I1 r1 q1) he hpl
theorem pe_callTy (hc : CallR X (.type T) r) (hg : Gl X x) (hm : X.mg x = none) (hv : bootBuiltins x = some (.type T)) (ha : PA X (e :: es) t) (hn : x ≠ "__name__" := by decide) (hdb : (x == ("__debug__" : Str)) = false := by decide)
  (he : starEach (e :: es) X.env = (false, eval e X.env) :: starEach es X.env := by rfl) (hpl : (backTo pos (starEach es X.env)).any (·.1) = false := by rfl) : PE X (.Call (.Name x p) (e :: es) [] pos) (tCB r t) := by
 intro pins s σ H Q I h
 refine wpAny_Call_Name_kw (ld_blt I hg hm hv ?_ hn hdb)
 exact PyProof.Rows.callWith_type1 (thn (ha pos pins s σ H _ I h) fun us s1 ⟨vs, H1, I1, r1, q1⟩ => hc pins s1 σ H1 vs us Q I1 r1 q1) he hpl
end
end L2
namespace HT
open PySem PyProof.Rows
section
open PySem.SeqAt
open PySem.AutoSeq1 (wpAny_loadPart')
open PySem.MeetsSeq PySem.MeetsSeq2 PySem.MeetsSeq3
end
section
variable {prog : Program} {w : World} {A : Around} {E : Value → Shared → Prop} {s : Shared}
theorem cat_tup {t b : Addr} {vs ws : List Value} {Q : Value → Shared → Prop} (ht : IsTup s.heap t vs.toArray) (hb : IsTup s.heap b ws.toArray) (hv : vs ≠ [])
  (h1 : ws = [] → Q (.ref t) s) (h2 : ws ≠ [] → Q (.ref s.heap.objs.size) { s with heap := s.heap.push { cls := .type "tuple", data := .seq (vs ++ ws).toArray } })
  (hsz : vs.length + ws.length ≤ sizeLine) : wpAny (model prog w) A (binaryOp .Add (.ref t) (.ref b)) Q E s := by
 obtain ⟨⟨cls, dd, data, sl⟩, ho, hc, n, hd⟩ := id ht
 obtain ⟨⟨cls2, dd2, data2, sl2⟩, ho2, hc2, n2, hd2⟩ := id hb
 simp only at hc hd hc2 hd2
 subst hc hd hc2 hd2
 have e : vs.toArray ++ ws.toArray = (vs ++ ws).toArray := by simp
 by_cases hw : ws = []
 ·exact concat_meets ⟨_, ho, rfl⟩ ⟨_, ho2, rfl⟩ noFill_tuple_add seq_tuple_add PySem.F.slot_tuple_add PySem.F.entry_tuple_add (PySem.F.args_tuple_add_2 _ _)
   (tuple_addW1 t b vs.toArray ws.toArray n n2 dd dd2 sl sl2 (by simpa using hv) (by simp [hw])) ⟨ho, ho2, h1 hw⟩
 ·refine concat_meets ⟨_, ho, rfl⟩ ⟨_, ho2, rfl⟩ noFill_tuple_add seq_tuple_add PySem.F.slot_tuple_add PySem.F.entry_tuple_add (PySem.F.args_tuple_add_2 _ _)
   (tuple_addW2 t b vs.toArray ws.toArray n n2 dd dd2 sl sl2 (by simpa using hv) (by simpa using hw) (by rw [List.size_toArray, List.size_toArray]; exact hsz)) ⟨ho, ho2, ?_⟩
  rw [e]
  exact h2 hw
def sIx (n d : Nat) : Option Int → Nat
 | none => d
 | some v => if v < 0 then (v + (n : Int)).toNat else min v.toNat n
end
end HT
namespace L2
open PySem PySem.Spec PyProof.Rows
abbrev TO := St → Hp → (Option Int → Hp → Prop) → Prop
def PO (X : Cx) (e : Option Expr) (t : TO) : Prop :=
 ∀ (pins : List (Addr × Obj)) (s : Shared) (σ : St) (H : Hp) (Q : Option Int → Hp → Prop), Inv X pins σ H s → t σ H Q →
  wpAny (model X.prog X.w) X.A (evalPart e X.env) (fun u s' => ∃ o H', Inv X pins σ H' s' ∧ IsPart u o ∧ Q o H') X.xe s
def tNoPart : TO := fun _ H Q => Q none H
def tPart (t : TE) : TO := fun σ H Q => t σ H fun x H1 => ∃ i, x = .int i ∧ Q (some i) H1
section
variable {X : Cx} {e : Expr} {te : TE} {lo hi : Option Expr} {tl th : TO} {pos p2 : Pos}
theorem po_none : PO X none tNoPart := by
 intro pins s σ H Q I h
 rw [evalPart_none]
 exact wpAny_pure ⟨none, H, I, .none, h⟩
theorem po_some (h : PE X e te) : PO X (some e) (tPart te) := by
 intro pins s σ H Q I hw
 rw [evalPart_some]
 refine thn (h pins s σ H _ I hw) fun u s1 ⟨x, H1, I1, r1, q1⟩ => ?_
 obtain ⟨i, rfl, q⟩ := q1
 obtain ⟨t, rfl⟩ := r1
 exact ⟨some i, H1, I1, .int i t, q⟩
def SlR (X : Cx) (r : V → Option Int → Option Int → Hp → VK → Prop) : Prop :=
 ∀ (pins : List (Addr × Obj)) (s : Shared) (σ : St) (H : Hp) (x : V) (v vl vu : Value) (lo hi : Option Int) (sl : Addr) (Q : VK), Inv X pins σ H s → RelV x v → s.heap.IsSliceOf sl vl vu .none → IsPart vl lo → IsPart vu hi → r x lo hi H Q →
  ∃ T id, typeLookup (.type T) "__getitem__" = pure (some (.builtin id)) ∧ s.TypeIs v T ∧ wpAny (model X.prog X.w) X.A (getItem v (.ref sl)) (EP X pins σ Q) X.xe s
def tSl (r : V → Option Int → Option Int → Hp → VK → Prop) (te : TE) (tl th : TO) : TE := fun σ H Q => te σ H fun x H1 => tl σ H1 fun l H2 => th σ H2 fun u H3 => r x l u H3 Q
theorem pe_slice {r : V → Option Int → Option Int → Hp → VK → Prop} (hr : SlR X r) (he : PE X e te) (hl : PO X lo tl) (hu : PO X hi th) : PE X (.Subscript e (.Slice lo hi none p2) pos) (tSl r te tl th) := by
 intro pins s σ H Q I h
 refine Subscript_ (thn (he pins s σ H _ I h) fun v s1 ⟨x, H1, I1, r1, q1⟩ => ?_)
 refine wpAny_Slice (thn (hl pins s1 σ H1 _ I1 q1) fun vl s2 ⟨l, H2, I2, pl, q2⟩ => thn (hu pins s2 σ H2 _ I2 q2) fun vu s3 ⟨u, H3, I3, pu, q3⟩ => ?_)
 rw [evalPart_none]
 refine wpAny_pure ?_
 have I4 : Inv X pins σ H3 { s3 with heap := s3.heap.push { cls := .type "slice", data := .fields #[vl, vu, .none] } } := I3.kept (t' := s3.toks) fun b ob q => Heap.get?_push_of_some _ q
 obtain ⟨T, id, hT, ht, hg⟩ := hr pins { s3 with heap := s3.heap.push { cls := .type "slice", data := .fields #[vl, vu, .none] } } σ H3 x v vl vu l u s3.heap.objs.size Q I4 r1 (Heap.IsSliceOf.new ..) pl pu q3
 show wpAny (model X.prog X.w) X.A (subscriptTail e (.Slice lo hi none p2) v (.ref s3.heap.objs.size)) (EP X pins σ Q) X.xe { s3 with heap := s3.heap.push { cls := .type "slice", data := .fields #[vl, vu, .none] } }
 exact tail_any (ops := [.ref s3.heap.objs.size, v]) ht hT hg (by with_unfolding_all rfl)
def cutV (xs : List V) (lo hi : Option Int) : List V := (xs.drop (HT.sIx xs.length 0 lo)).take (HT.sIx xs.length xs.length hi - HT.sIx xs.length 0 lo)
theorem cutV_length (xs : List V) (lo hi : Option Int) : (cutV xs lo hi).length ≤ xs.length := by
 unfold cutV
 rw [List.length_take, List.length_drop]
 omega
def rCatT (K : PySem.W.Frag) : R2 := fun x y H Q => ∃ a b xs ys, x = .ref a ∧ y = .ref b ∧ SqT K H a xs ∧ SqT K H b ys ∧ xs ≠ [] ∧ xs.length + ys.length ≤ sizeLine ∧
 (ys = [] → Q (.ref a) H) ∧ (ys ≠ [] → ∀ p, H p = none → Q (.ref p) (upd H p (.tup (xs ++ ys))))
theorem Vals.nil_iff {xs : List V} {us : List Value} (r : Vals xs us) : us = [] ↔ xs = [] := by
 cases r with
 | nil => simp
 | cons _ _ => simp
theorem op_catT : OpR X (binaryOp .Add) (rCatT X.K) := by
 intro pins s σ H x y v u Q I rx ry h
 obtain ⟨a, b, xs, ys, rfl, rfl, ha, hb, hx, hz, q1, q2⟩ := h
 cases rx
 cases ry
 obtain ⟨its, r1, p1, _⟩ := I.tuple ha
 obtain ⟨its2, r2, p2, _⟩ := I.tuple hb
 refine HT.cat_tup p1 p2 (fun z => hx (r1.nil_iff.mp z)) (fun z => ⟨.ref a, H, I, rfl, q1 (r2.nil_iff.mp z)⟩) (fun z => ?_) (by rw [← r1.length, ← r2.length]; exact hz)
 refine ⟨.ref s.heap.objs.size, _, I.laid (t' := s.toks) (o := .tup (xs ++ ys)) (fun b ob q => Heap.get?_push_of_some _ q) (Nat.le_refl _) ?_, rfl, q2 (fun w => z (r2.nil_iff.mpr w)) _ (I.hok.fresh (Nat.le_refl _))⟩
 exact ⟨by rw [List.length_append]; exact hz, _, r1.append r2, IsTup.new _ _⟩
end
end L2
namespace L2
open PySem PySem.Spec PyProof.Rows
def ixN (n : Nat) (i : Int) : Option Nat := if 0 ≤ i then (if i < n then some i.toNat else none) else if -(n : Int) ≤ i then some (i + n).toNat else none
def atI {α : Type} (xs : List α) (i : Int) : Option α := (ixN xs.length i).bind fun j => xs[j]?
theorem ixN_seq {n : Nat} {i : Int} {j : Nat} (h : ixN n i = some j) : seqIndex? i n = some j ∧ j < n ∧ -(n : Int) ≤ i ∧ i < n := by
 unfold ixN at h
 by_cases h0 : 0 ≤ i
 ·rw [if_pos h0] at h
  by_cases h1 : i < n
  ·rw [if_pos h1] at h
   have e : i.toNat = j := Option.some.inj h
   exact ⟨by rw [seqIndex_of h0 h1, e], by omega, by omega, h1⟩
  ·rw [if_neg h1] at h; cases h
 ·rw [if_neg h0] at h
  by_cases h1 : -(n : Int) ≤ i
  ·rw [if_pos h1] at h
   have e : (i + n).toNat = j := Option.some.inj h
   exact ⟨by rw [seqIndex_neg (by omega) h1, e], by omega, h1, by omega⟩
  ·rw [if_neg h1] at h; cases h
theorem atI_get {α : Type} {xs : List α} {i : Int} {v : α} (h : atI xs i = some v) : ∃ j, seqIndex? i xs.length = some j ∧ xs[j]? = some v ∧ j < xs.length ∧ -(xs.length : Int) ≤ i ∧ i < xs.length := by
 unfold atI at h
 cases e : ixN xs.length i with
 | none => rw [e] at h; cases h
 | some j =>
  rw [e] at h
  obtain ⟨h1, h2, h3, h4⟩ := ixN_seq e
  exact ⟨j, h1, h, h2, h3, h4⟩
theorem atI_nat {α : Type} {xs : List α} {j : Nat} {v : α} (h : xs[j]? = some v) : atI xs (j : Int) = some v := by
 have hj : j < xs.length := (List.getElem?_eq_some_iff.mp h).1
 have e : ixN xs.length (j : Int) = some j := by
  unfold ixN
  rw [if_pos (by omega), if_pos (by omega)]; simp
 unfold atI; rw [e]; exact h
def PlainIx (b : Expr) : Prop := ∀ o i, subscripted b false o i = operate [o, i] (getItem o i)
def IxR (X : Cx) (r : R2) : Prop :=
 ∀ (value slice : Expr) (pins : List (Addr × Obj)) (s : Shared) (σ : St) (H : Hp) (x y : V) (v u : Value) (Q : VK), Inv X pins σ H s → RelV x v → RelV y u → r x y H Q →
  subscripted slice false v u = operate [v, u] (getItem v u) → wpAny (model X.prog X.w) X.A (subscriptTail value slice v u) (EP X pins σ Q) X.xe s
def MtR (X : Cx) (id : String) (r : V → List V → Hp → VK → Prop) : Prop :=
 ∀ (pins : List (Addr × Obj)) (s : Shared) (σ : St) (H : Hp) (x : V) (xs : List V) (v : Value) (us : List Value) (Q : VK), Inv X pins σ H s → RelV x v → Vals xs us → r x xs H Q →
  wpAny (model X.prog X.w) X.A (call (.builtin id) (v :: us)) (EP X pins σ Q) X.xe s
section
variable {X : Cx} {a b : Expr} {ta tb : TE} {pos : Pos}
theorem pe_ix {r : R2} (hr : IxR X r) (ha : PE X a ta) (hb : PE X b tb) (hs : PlainIx b) : PE X (.Subscript a b pos) (tOp r ta tb) := by
 intro pins s σ H Q I h
 exact Subscript_ (binT ha hb I h fun v u s2 x y H2 I2 rx ry q => hr a b pins s2 σ H2 x y v u Q I2 rx ry q (hs _ _))
def rIxL (K : PySem.W.Frag) : R2 := fun x y H Q => ∃ p xs i v, x = .ref p ∧ y = .int i ∧ SqL K H p xs ∧ atI xs i = some v ∧ Q v H
def rIxT (K : PySem.W.Frag) : R2 := fun x y H Q => ∃ p xs i v, x = .ref p ∧ y = .int i ∧ SqT K H p xs ∧ atI xs i = some v ∧ Q v H
theorem ix_list : IxR X (rIxL X.K) := by
 intro value slice pins s σ H x y v u Q I rx ry h hs
 obtain ⟨p, xs, i, z, rfl, rfl, hq, he, q⟩ := h
 cases rx
 obtain ⟨t, rfl⟩ := ry
 obtain ⟨its, r, pl, hz⟩ := I.list hq
 obtain ⟨j, h1, h2, h3, h4, h5⟩ := atI_get he
 obtain ⟨w, ew, rw'⟩ := r.get h2
 have hl := r.length
 have hn := line63
 have fin : EP X pins σ Q w s := ⟨z, H, I, rw', q⟩
 by_cases h0 : 0 ≤ i
 ·have hj : i.toNat = j := by
   rw [seqIndex_of h0 h5] at h1
   exact Option.some.inj h1
  exact item_listR pl.isList h0 (by omega) (by rw [hj]; simpa using ew) fin hs
 ·have hj : (i + (its.toArray.size : Int)).toNat = j := by
   rw [seqIndex_neg (by omega) h4] at h1
   rw [List.size_toArray, ← hl]
   exact Option.some.inj h1
  exact subscriptTail_builtinR (x := w) pl.isList.typeIs slot_list_getitem.lookup
   (wpAny_getItem_list_neg (Q := fun r s' => r = w ∧ EP X pins σ Q r s') pl.isList (by omega) (by rw [List.size_toArray] <;> omega) (by omega) (by rw [hj]; simpa using ew) ⟨rfl, fin⟩) hs
theorem ix_tup : IxR X (rIxT X.K) := by
 intro value slice pins s σ H x y v u Q I rx ry h hs
 obtain ⟨p, xs, i, z, rfl, rfl, hq, he, q⟩ := h
 cases rx
 obtain ⟨t, rfl⟩ := ry
 obtain ⟨its, r, pl, hz⟩ := I.tuple hq
 obtain ⟨j, h1, h2, h3, h4, h5⟩ := atI_get he
 obtain ⟨w, ew, rw'⟩ := r.get h2
 have hl := r.length
 have hn := line63
 have fin : EP X pins σ Q w s := ⟨z, H, I, rw', q⟩
 exact subscriptTail_builtinR (x := w) pl.typeIs slot_tuple_getitem.lookup
  (getItem_tuple (j := j) (Q := fun r s' => r = w ∧ EP X pins σ Q r s') pl (by omega) (by omega) (by rw [List.size_toArray, ← hl]; exact h1) (by simpa using ew) ⟨rfl, fin⟩) hs
theorem mapSeq_set (its : List Value) (n j : Nat) (u : Value) : Obj.mapSeq (·.setIfInBounds j u) { cls := .type "list", data := .seq its.toArray n } = { cls := .type "list", data := .seq (its.set j u).toArray n } := by
 simp [Obj.mapSeq]
theorem Inv.lst {pins : List (Addr × Obj)} {σ : St} {H : Hp} {s : Shared} {p : Addr} {xs : List V} (I : Inv X pins σ H s) (h : H p = some (.lst xs)) :
  ∃ (its : List Value) (n : Nat), Vals xs its ∧ s.heap.get? p = some { cls := .type "list", data := .seq its.toArray n } ∧ xs.length ≤ sizeLine := by
 obtain ⟨z, its, n, r, e⟩ := I.hok p _ h
 exact ⟨its, n, r, e, z⟩
theorem Inv.lstUpd {pins : List (Addr × Obj)} {σ : St} {H : Hp} {s : Shared} {p : Addr} {xs ys : List V} {its its' : List Value} {n n' : Nat} {f : Obj → Obj} (I : Inv X pins σ H s) (h : H p = some (.lst xs))
  (ho : s.heap.get? p = some { cls := .type "list", data := .seq its.toArray n }) (hf : f { cls := .type "list", data := .seq its.toArray n } = { cls := .type "list", data := .seq its'.toArray n' }) (r : Vals ys its') (hz : ys.length ≤ sizeLine) (t : Nat) :
  Inv X pins σ (upd H p (.lst ys)) { s with heap := s.heap.update p f, toks := t } := by
 have e : (s.heap.update p f).get? p = some { cls := .type "list", data := .seq its'.toArray n' } := by
  rw [Heap.get?_update_self f ho (by rw [hf] <;> rfl), hf]
 refine I.write (x := p) (e := p) (by rw [h]; trivial) (.inl rfl) (fun b u hb q => (Heap.get?_update_other _ _ (Ne.symm hb)).trans q) ⟨_, e⟩ ?_
 exact ⟨hz, its', n', r, e⟩
def rSetL : V → V → V → Hp → (Hp → Prop) → Prop := fun o i v H Q => ∃ p xs k j, o = .ref p ∧ i = .int k ∧ H p = some (.lst xs) ∧ ixN xs.length k = some j ∧ Q (upd H p (.lst (xs.set j v)))
theorem set_list : PSet X rSetL := by
 intro pins s σ H o i v ov iv u Q I ro ri rv h
 obtain ⟨p, xs, k, j, rfl, rfl, hp, hj, q⟩ := h
 cases ro
 obtain ⟨t, rfl⟩ := ri
 obtain ⟨its, n, r, ho, hz⟩ := I.lst hp
 obtain ⟨h1, h2, h3, h4⟩ := ixN_seq hj
 have hl := r.length
 have hn := line63
 have I' : Inv X pins σ (upd H p (.lst (xs.set j v))) { s with heap := s.heap.update p (Obj.mapSeq (·.setIfInBounds j u)) } :=
  I.lstUpd hp ho (mapSeq_set its n j u) (r.set rv j) (by rw [List.length_set]; exact hz) s.toks
 by_cases h0 : 0 ≤ k
 ·have hk : k.toNat = j := by
   rw [seqIndex_of h0 h4] at h1
   exact Option.some.inj h1
  exact PySem.W.ki_setAt ho h0 (by omega) (by rw [List.size_toArray, ← hl]; exact h4) (by rw [hk]; exact ⟨_, I', q⟩)
 ·have hk : (k + (its.toArray.size : Int)).toNat = j := by
   rw [seqIndex_neg (by omega) h3] at h1
   rw [List.size_toArray, ← hl]
   exact Option.some.inj h1
  exact PySem.W.ki_setBack ho (by omega) (by rw [List.size_toArray, ← hl]; exact h3) (by omega) (by rw [hk]; exact ⟨_, I', q⟩)
theorem slice_bounds (lo hi : Option Int) (n : Nat) : (sliceBounds lo hi none n).1 = ((HT.sIx n 0 lo : Nat) : Int) ∧ (sliceBounds lo hi none n).2.1 = ((HT.sIx n n hi : Nat) : Int) ∧ (sliceBounds lo hi none n).2.2 = 1 := by
 refine ⟨?_, ?_, rfl⟩
 ·cases lo with
  | none => simp [sliceBounds, HT.sIx]
  | some i =>
   simp only [sliceBounds, HT.sIx, Option.getD_none, show (1 : Int) > 0 by decide, if_true]
   by_cases h : i < 0
   ·simp only [h, if_true] <;> omega
   ·simp only [h, if_false] <;> omega
 ·cases hi with
  | none => simp [sliceBounds, HT.sIx]
  | some i =>
   simp only [sliceBounds, HT.sIx, Option.getD_none, show (1 : Int) > 0 by decide, if_true]
   by_cases h : i < 0
   ·simp only [h, if_true] <;> omega
   ·simp only [h, if_false] <;> omega
theorem slicePick_cut (its : List Value) (lo hi : Option Int) : slicePick its.toArray lo hi none = ((its.drop (HT.sIx its.length 0 lo)).take (HT.sIx its.length its.length hi - HT.sIx its.length 0 lo)).toArray := by
 obtain ⟨h1, h2, h3⟩ := slice_bounds lo hi its.toArray.size
 unfold slicePick
 rw [h1, h2, h3]
 simp only [sliceRange_one, pick_run, List.size_toArray] <;> rfl
def rSlL (K : PySem.W.Frag) : V → Option Int → Option Int → Hp → VK → Prop := fun x lo hi H Q => ∃ a xs, x = .ref a ∧ SqL K H a xs ∧ ∀ p, H p = none → Q (.ref p) (upd H p (.lst (cutV xs lo hi)))
theorem sl_list : SlR X (rSlL X.K) := by
 intro pins s σ H x v vl vu lo hi sl Q I rx hs pl pu h
 obtain ⟨a, xs, rfl, hx, q⟩ := h
 cases rx
 obtain ⟨its, r, ht, hz⟩ := I.list hx
 have hlen := r.length
 refine ⟨"list", _, slot_list_getitem.lookup, ht.isList.typeIs, ?_⟩
 refine wpAny_getItem_list_slice ht.isList hs pl pu .none (by simp) ?_ (by rw [List.size_toArray] <;> omega)
 rw [slicePick_cut, ← hlen]
 refine ⟨.ref s.heap.objs.size, _, I.laid (t' := s.toks) (o := .lst (cutV xs lo hi)) (fun b ob q => Heap.get?_push_of_some _ q) (Nat.le_refl _) ?_, rfl, q _ (I.hok.fresh (Nat.le_refl _))⟩
 exact ⟨Nat.le_trans (cutV_length xs lo hi) hz, _, 0, (r.drop (HT.sIx xs.length 0 lo)).take (HT.sIx xs.length xs.length hi - HT.sIx xs.length 0 lo), Heap.get?_push_size _ rfl⟩
def flatV : V → Bool
 | .non => true
 | .bl _ => true
 | .int _ => true
 | .str _ => true
 | _ => false
def eqV : V → V → Bool
 | .non, .non => true
 | .bl a, .bl b => a == b
 | .bl a, .int b => (if a then 1 else 0) == b
 | .int a, .bl b => a == (if b then 1 else 0)
 | .int a, .int b => a == b
 | .str a, .str b => a == b
 | _, _ => false
theorem eqAt_V {A : Around} {s : Shared} {y x : V} {u v : Value} (ry : RelV y u) (rx : RelV x v) (fy : flatV y = true) (fx : flatV x = true) : SeqAt.EqAt A s u v (eqV y x) := by
 cases y with
 | non =>
  cases ry
  cases x with
  | non => cases rx; exact SeqAt.EqAt.same _
  | bl b => cases rx; exact SeqAt.EqAt.none_bool b
  | int b => obtain ⟨t, rfl⟩ := rx; exact SeqAt.EqAt.none_int b t
  | str b => obtain ⟨t, rfl⟩ := rx; exact SeqAt.EqAt.none_str b t
  | _ => exact absurd (show false = true from fx) Bool.false_ne_true
 | bl a =>
  cases ry
  cases x with
  | non => cases rx; exact SeqAt.EqAt.bool_none a
  | bl b => cases rx; exact SeqAt.EqAt.bool_bool a b
  | int b => obtain ⟨t, rfl⟩ := rx; exact SeqAt.EqAt.bool_int a b t
  | str b => obtain ⟨t, rfl⟩ := rx; exact SeqAt.EqAt.bool_str a b t
  | _ => exact absurd (show false = true from fx) Bool.false_ne_true
 | int a =>
  obtain ⟨t', rfl⟩ := ry
  cases x with
  | non => cases rx; exact SeqAt.EqAt.int_none a t'
  | bl b => cases rx; exact SeqAt.EqAt.int_bool a t' b
  | int b => obtain ⟨t, rfl⟩ := rx; exact SeqAt.EqAt.int_int a t' b t
  | str b => obtain ⟨t, rfl⟩ := rx; exact SeqAt.EqAt.int_str a t' b t
  | _ => exact absurd (show false = true from fx) Bool.false_ne_true
 | str a =>
  obtain ⟨t', rfl⟩ := ry
  cases x with
  | non => cases rx; exact SeqAt.EqAt.str_none a t'
  | bl b => cases rx; exact SeqAt.EqAt.str_bool a t' b
  | int b => obtain ⟨t, rfl⟩ := rx; exact SeqAt.EqAt.str_int a t' b t
  | str b => obtain ⟨t, rfl⟩ := rx; exact SeqAt.EqAt.str_str a t' b t
  | _ => exact absurd (show false = true from fx) Bool.false_ne_true
 | _ => exact absurd (show false = true from fy) Bool.false_ne_true
def eqU (x : V) (u : Value) : Bool := match u with
 | .none => eqV .non x
 | .bool b => eqV (.bl b) x
 | .int i _ => eqV (.int i) x
 | .str z _ => eqV (.str z) x
 | _ => false
theorem eqU_of {x y : V} {u : Value} (r : RelV y u) (f : flatV y = true) : eqU x u = eqV y x := by
 cases y with
 | non => cases r; rfl
 | bl b => cases r; rfl
 | int i => obtain ⟨t, rfl⟩ := r; rfl
 | str z => obtain ⟨t, rfl⟩ := r; rfl
 | _ => exact absurd (show false = true from f) Bool.false_ne_true
theorem any_eqU {x : V} : ∀ {xs : List V} {us : List Value}, Vals xs us → xs.all flatV = true → us.any (eqU x) = xs.any fun y => eqV y x
 | _, _, .nil, _ => rfl
 | y :: xs, u :: us, .cons r t, f => by
  rw [List.all_cons, Bool.and_eq_true] at f
  rw [List.any_cons, List.any_cons, eqU_of r f.1, any_eqU t f.2]
theorem mem_eqAt {A : Around} {s : Shared} {x : V} {v : Value} (rx : RelV x v) (fx : flatV x = true) : ∀ {xs : List V} {us : List Value}, Vals xs us → xs.all flatV = true → ∀ u ∈ us, SeqAt.EqAt A s u v (eqU x u)
 | _, _, .nil, _ => fun u hu => by cases hu
 | y :: xs, u :: us, .cons r t, f => fun u' hu => by
  rw [List.all_cons, Bool.and_eq_true] at f
  rcases List.mem_cons.mp hu with rfl | hu
  ·rw [eqU_of r f.1]; exact eqAt_V r rx f.1 fx
  ·exact mem_eqAt rx fx t f.2 u' hu
def inV (x : V) (xs : List V) : Bool := xs.any fun y => eqV y x
def rIn (K : PySem.W.Frag) (neg : Bool) : R2 := fun x y H Q => ∃ p xs, y = .ref p ∧ (SqL K H p xs ∨ SqT K H p xs) ∧ flatV x = true ∧ xs.all flatV = true ∧ Q (.bl (if neg then !inV x xs else inV x xs)) H
theorem op_in_seq : OpR X (compareOp .In) (rIn X.K false) := by
 intro pins s σ H x y v u Q I rx ry h
 obtain ⟨p, xs, rfl, hq, fx, fs, q⟩ := h
 cases ry
 rcases hq with hq | hq
 ·obtain ⟨its, r, pl, hz⟩ := I.list hq
  refine SeqAt.in_listAt (eqU x) pl.isList (fun w hw => mem_eqAt rx fx r fs w (by simpa using hw)) ⟨.bl _, H, I, rfl, ?_⟩
  rw [show its.toArray.any (eqU x) = its.any (eqU x) by simp, any_eqU r fs]
  exact q
 ·obtain ⟨its, r, pl, hz⟩ := I.tuple hq
  refine SeqAt.in_tupleAt (eqU x) pl (fun w hw => mem_eqAt rx fx r fs w (by simpa using hw)) ⟨.bl _, H, I, rfl, ?_⟩
  rw [show its.toArray.any (eqU x) = its.any (eqU x) by simp, any_eqU r fs]
  exact q
theorem op_notIn_seq : OpR X (compareOp .NotIn) (rIn X.K true) := by
 intro pins s σ H x y v u Q I rx ry h
 obtain ⟨p, xs, rfl, hq, fx, fs, q⟩ := h
 cases ry
 rcases hq with hq | hq
 ·obtain ⟨its, r, pl, hz⟩ := I.list hq
  refine SeqAt.notIn_listAt (eqU x) pl.isList (fun w hw => mem_eqAt rx fx r fs w (by simpa using hw)) ⟨.bl _, H, I, rfl, ?_⟩
  rw [show its.toArray.any (eqU x) = its.any (eqU x) by simp, any_eqU r fs]
  exact q
 ·obtain ⟨its, r, pl, hz⟩ := I.tuple hq
  refine SeqAt.notIn_tupleAt (eqU x) pl (fun w hw => mem_eqAt rx fx r fs w (by simpa using hw)) ⟨.bl _, H, I, rfl, ?_⟩
  rw [show its.toArray.any (eqU x) = its.any (eqU x) by simp, any_eqU r fs]
  exact q
theorem call_len_seq : CallR X (.builtin "len") (fun xs H Q => ∃ p ys, xs = [.ref p] ∧ (SqL X.K H p ys ∨ SqT X.K H p ys) ∧ Q (.int ys.length) H) := by
 intro pins s σ H xs us Q I r h
 obtain ⟨p, ys, rfl, hq, q⟩ := h
 obtain ⟨u, rfl, rx⟩ := vals1 r
 cases rx
 have hn := line63
 rcases hq with hq | hq
 ·obtain ⟨its, r', pl, hz⟩ := I.list hq
  have hlen := r'.length
  exact Calls.call_len_list pl.isList (by simp only [List.size_toArray] <;> omega) ⟨.int ys.length, H, I.tok _, ⟨s.toks + 1, by rw [List.size_toArray, hlen]⟩, q⟩
 ·obtain ⟨its, r', pl, hz⟩ := I.tuple hq
  have hlen := r'.length
  exact len_tuple pl (by simp only [List.size_toArray] <;> omega) ⟨.int ys.length, H, I.tok _, ⟨s.toks + 1, by rw [List.size_toArray, hlen]⟩, q⟩
theorem call_len_str : CallR X (.builtin "len") (fun xs H Q => ∃ z, xs = [.str z] ∧ z.length ≤ sizeLine ∧ Q (.int z.length) H) := by
 intro pins s σ H xs us Q I r h
 obtain ⟨z, rfl, hz, q⟩ := h
 obtain ⟨u, rfl, t, rfl⟩ := vals1 r
 have hn := line63
 exact len_str (by omega) ⟨.int z.length, H, I.tok _, ⟨_, rfl⟩, q⟩
theorem call_list_of : CallR X (.type "list") (fun xs H Q => ∃ p ys, xs = [.ref p] ∧ (SqL X.K H p ys ∨ SqT X.K H p ys) ∧ ∀ l, H l = none → Q (.ref l) (upd H l (.lst ys))) := by
 intro pins s σ H xs us Q I r h
 obtain ⟨p, ys, rfl, hq, q⟩ := h
 obtain ⟨u, rfl, rx⟩ := vals1 r
 cases rx
 have fin : ∀ (its : List Value), Vals ys its → ys.length ≤ sizeLine → ∀ (h' : Heap) (c' : Nat), (∀ b o', s.heap.get? b = some o' → h'.get? b = some o') →
   h'.get? s.heap.objs.size = some { cls := .type "list", dict := none, data := .seq its.toArray c', slots := #[] } → EP X pins σ Q (.ref s.heap.objs.size) { s with heap := h' } := fun its r' hz h' c' kp e =>
  ⟨.ref s.heap.objs.size, _, I.laid (t' := s.toks) kp (Nat.le_refl _) (show ObjOk X.prog X.w _ h' _ (.lst ys) from ⟨hz, its, c', r', e⟩), rfl, q _ (I.hok.fresh (Nat.le_refl _))⟩
 rcases hq with hq | hq
 ·obtain ⟨its, r', pl, hz⟩ := I.list hq
  have hlen := r'.length
  obtain ⟨o, ho, hc, n, hd⟩ := pl.isList
  exact call_list_seq p (.inl rfl) ho hc hd (fun h' c' kp e => fin its r' hz h' c' kp e) (by simp only [List.size_toArray] <;> omega)
 ·obtain ⟨its, r', pl, hz⟩ := I.tuple hq
  have hlen := r'.length
  obtain ⟨o, ho, hc, n, hd⟩ := pl
  exact call_list_seq p (.inr rfl) ho hc hd (fun h' c' kp e => fin its r' hz h' c' kp e) (by simp only [List.size_toArray] <;> omega)
theorem call_tuple_of : CallR X (.type "tuple") (fun xs H Q => ∃ p ys, xs = [.ref p] ∧ ((SqL X.K H p ys ∧ ∀ l, H l = none → Q (.ref l) (upd H l (.tup ys))) ∨ (SqT X.K H p ys ∧ Q (.ref p) H))) := by
 intro pins s σ H xs us Q I r h
 obtain ⟨p, ys, rfl, h⟩ := h
 obtain ⟨u, rfl, rx⟩ := vals1 r
 cases rx
 rcases h with ⟨hq, q⟩ | ⟨hq, q⟩
 ·obtain ⟨its, r', pl, hz⟩ := I.list hq
  have hlen := r'.length
  refine call_tuple_list pl.isList (fun h' kp => ?_) (by simp only [List.size_toArray] <;> omega)
  have I1 : Inv X pins σ H { s with heap := h' } := I.kept (t' := s.toks) kp
  have I2 : Inv X pins σ (upd H h'.objs.size (.tup ys)) { s with heap := h'.push { cls := .type "tuple", data := .seq its.toArray } } :=
   I1.laid (t' := s.toks) (fun b o e => Heap.get?_push_of_some _ e) (Nat.le_refl _) (show ObjOk X.prog X.w _ _ _ (.tup ys) from ⟨hz, its, r', IsTup.new _ _⟩)
  exact ⟨.ref h'.objs.size, _, I2, rfl, q _ (I1.hok.fresh (Nat.le_refl _))⟩
 ·obtain ⟨its, r', pl, hz⟩ := I.tuple hq
  exact call_tuple_same pl ⟨.ref p, H, I, rfl, q⟩
def tyV (K : PySem.W.Frag) (T : String) (x : V) (H : Hp) : Prop := match x with
 | .str _ => T = "str"
 | .int _ => T = "int"
 | .ref p => (T = "list" ∧ ∃ xs, SqL K H p xs) ∨ (T = "tuple" ∧ ∃ o, K.lookup p = some o ∧ o.cls = .type "tuple" ∧ o.dict = none) ∨
   (T = "dict" ∧ ((∃ kvs, H p = some (.dK kvs)) ∨ ∃ kvs, H p = some (.dT kvs))) ∨ (T = "set" ∧ ∃ S n, H p = some (.set S n))
 | _ => False
theorem tyV_is {pins : List (Addr × Obj)} {σ : St} {H : Hp} {s : Shared} {T : String} {x : V} {v : Value} (I : Inv X pins σ H s) (r : RelV x v) (ty : tyV X.K T x H) :
  s.TypeIs v T ∧ ∀ a, v = .ref a → ∃ ob, s.heap.get? a = some ob ∧ ob.dict = none := by
 cases x with
 | str z =>
  obtain ⟨t, rfl⟩ := r
  cases (show T = "str" from ty)
  exact ⟨typeIs_str s z t, fun _ e => nomatch e⟩
 | int i =>
  obtain ⟨t, rfl⟩ := r
  cases (show T = "int" from ty)
  exact ⟨typeIs_int s i t, fun _ e => nomatch e⟩
 | ref p =>
  cases r
  rcases ty with ⟨rfl, xs, hq⟩ | ⟨rfl, o, hk, hc, hd⟩ | ⟨rfl, hk⟩ | ⟨rfl, S, n, hk⟩
  ·obtain ⟨its, _, pl, _⟩ := I.list hq
   refine ⟨pl.isList.typeIs, fun a e => ?_⟩
   cases e
   obtain ⟨o, n, e, c, hd, _⟩ := pl
   exact ⟨o, e, hd⟩
  ·refine ⟨⟨o, I.kIn p o hk, hc⟩, fun a e => ?_⟩
   cases e
   exact ⟨o, I.kIn _ o hk, hd⟩
  ·have z : ∃ o, s.heap.get? p = some o ∧ o.ExactDict := by
    rcases hk with ⟨kvs, hk⟩ | ⟨kvs, hk⟩
    ·obtain ⟨_, _, _, _, o, _, _, e, ex, _⟩ := I.hok p _ hk
     exact ⟨o, e, ex⟩
    ·obtain ⟨_, _, _, _, o, _, _, e, ex, _⟩ := I.hok p _ hk
     exact ⟨o, e, ex⟩
   obtain ⟨o, e, ex⟩ := z
   refine ⟨⟨o, e, ex.1⟩, fun a e2 => ?_⟩
   cases e2
   exact ⟨o, e, ex.2.1⟩
  ·obtain ⟨o, _, _, _, e, ex, _⟩ := I.hok p _ hk
   refine ⟨⟨o, e, ex.1⟩, fun a e2 => ?_⟩
   cases e2
   exact ⟨o, e, ex.2.1⟩
 | _ => exact False.elim ty
def tBM0 (K : PySem.W.Frag) (T : String) (r : V → List V → Hp → VK → Prop) (to : TE) : TE := fun σ H Q => to σ H fun x H1 => tyV K T x H1 ∧ r x [] H1 Q
def tBM (K : PySem.W.Frag) (T : String) (r : V → List V → Hp → VK → Prop) (to : TE) (t : TA) : TE := fun σ H Q => to σ H fun x H1 => tyV K T x H1 ∧ t σ H1 fun xs H2 => r x xs H2 Q
variable {o e : Expr} {es : List Expr} {to : TE} {t : TA} {name : Str} {apos cpos : Pos} {T id : String} {r : V → List V → Hp → VK → Prop}
theorem pe_bm0 (pa : PlainAttrs T) (slot : Slot T name id) (hty : typeOf (.builtin id) = pure (.type "method_descriptor")) (hm : MtR X id r) (ho : PE X o to)
  (hbase : attributeBase o name X.env (eval o X.env) = eval o X.env := by rfl) (hline : (apos.endLine == cpos.line) = true := by rfl) : PE X (.Call (.Attribute o name apos) [] [] cpos) (tBM0 X.K T r to) := by
 intro pins s σ H Q I h
 refine wpAny_Call_method0_late hbase hline (thn (ho pins s σ H _ I h) fun v s1 ⟨x, H1, I1, r1, ty, q1⟩ => ?_)
 obtain ⟨h1, h2⟩ := tyV_is I1 r1 ty
 exact ⟨T, id, pa, slot, hty, h1, h2, Calls.callWith_builtin rfl (PySem.evalArgs_none (hm pins s1 σ H1 x [] v [] Q I1 r1 .nil q1))⟩
theorem pe_bm (pa : PlainAttrs T) (slot : Slot T name id) (hty : typeOf (.builtin id) = pure (.type "method_descriptor")) (hm : MtR X id r) (ho : PE X o to) (ha : PA X (e :: es) t)
  (hbase : attributeBase o name X.env (eval o X.env) = eval o X.env := by rfl)
  (hfew : ((backTo cpos (starEach (e :: es) X.env)).all (fun x => !x.1) && (backToKw cpos (keywordEach [] X.env)).all (fun x => x.1.isSome)
   && decide ((e :: es).length + ([] : List Keyword).length + (if ([] : List Keyword).isEmpty then 0 else 1) < 30)) = true := by rfl)
  (hline : (apos.endLine == cpos.line) = true := by rfl) (hs : starEach (e :: es) X.env = (false, eval e X.env) :: starEach es X.env := by rfl) (hplain : (backTo cpos (starEach es X.env)).any (·.1) = false := by rfl) :
  PE X (.Call (.Attribute o name apos) (e :: es) [] cpos) (tBM X.K T r to t) := by
 intro pins s σ H Q I h
 refine wpAny_Call_method_late hbase hfew hline rfl (thn (ho pins s σ H _ I h) fun v s1 ⟨x, H1, I1, r1, ty, q1⟩ => ?_)
 obtain ⟨h1, h2⟩ := tyV_is I1 r1 ty
 refine ⟨T, id, pa, slot, hty, h1, h2, ?_⟩
 have hA := ha cpos pins s1 σ H1 _ I1 q1
 rw [hs] at hA ⊢
 refine Calls.callWith_builtin (by show (false || (backTo cpos (starEach es X.env)).any (·.1)) = false; rw [hplain] <;> rfl) (Calls.evalArgs_plain ?_)
 exact thn hA fun us s2 ⟨vs, H2, I2, r2, q2⟩ => hm pins s2 σ H2 x vs v us Q I2 r1 r2 q2
end
end L2
namespace L2
open PySem PySem.Spec PyProof.Rows
def MtM (X : Cx) (id : String) (r : V → List V → Hp → VK → Prop) : Prop :=
 ∀ (pins : List (Addr × Obj)) (s : Shared) (σ : St) (H : Hp) (x : V) (xs : List V) (v : Value) (us : List Value) (Q : VK), Inv X pins σ H s → RelV x v → Vals xs us → r x xs H Q →
  wpAny (model X.prog X.w) X.A (call (.builtin id) (v :: us)) (EP X pins σ Q) X.xe s
theorem Vals.one : ∀ {x : V} {us : List Value}, Vals [x] us → ∃ u, us = [u] ∧ RelV x u
 | _, _, .cons r .nil => ⟨_, rfl, r⟩
theorem Vals.zero : ∀ {us : List Value}, Vals [] us → us = []
 | _, .nil => rfl
theorem Vals.eraseIdx : ∀ {xs : List V} {us : List Value} (i : Nat), Vals xs us → Vals (xs.eraseIdx i) (us.eraseIdx i)
 | _, _, _, .nil => .nil
 | _, _, 0, .cons _ t => t
 | _, _, i + 1, .cons r t => .cons r (Vals.eraseIdx i t)
theorem len_erase {α : Type} : ∀ (l : List α) (i : Nat), (l.eraseIdx i).length ≤ l.length
 | [], _ => Nat.le_refl _
 | _ :: _, 0 => Nat.le_succ _
 | _ :: r, i + 1 => Nat.succ_le_succ (len_erase r i)
section
variable {X : Cx} {pins : List (Addr × Obj)} {σ : St} {H : Hp} {s : Shared} {l b : Addr} {xs ys zs : List V}
theorem Inv.lset {its its' : List Value} {n : Nat} {f : Array Value → Array Value} {t' : Nat} (I : Inv X pins σ H s) (hH : H l = some (.lst xs))
  (e : s.heap.get? l = some { cls := .type "list", data := .seq its.toArray n }) (hf : f its.toArray = its'.toArray) (hv : Vals ys its') (hz : ys.length ≤ sizeLine) :
  Inv X pins σ (upd H l (.lst ys)) { s with heap := s.heap.update l (Obj.mapSeq f), toks := t' } := by
 have q := PySem.IsL.update e f
 rw [hf] at q
 refine I.write (x := l) (e := l) (by rw [hH]; exact trivial) (.inl rfl) (fun b' u hb hu => (Heap.get?_update_other s.heap (Obj.mapSeq f) (Ne.symm hb)).trans hu) ⟨_, q⟩ ?_
 exact ⟨hz, its', _, hv, q⟩
theorem Inv.lnew {its : List Value} {t' : Nat} (I : Inv X pins σ H s) (hv : Vals ys its) (hz : ys.length ≤ sizeLine) :
  Inv X pins σ (upd H s.heap.objs.size (.lst ys)) { s with heap := s.heap.push { cls := .type "list", data := .seq its.toArray }, toks := t' } :=
 I.laid (fun _ _ q => Heap.get?_push_of_some _ q) (Nat.le_refl _) ⟨hz, its, 0, hv, Heap.get?_push_size _ rfl⟩
theorem Inv.fresh (I : Inv X pins σ H s) : H s.heap.objs.size = none := I.hok.fresh (Nat.le_refl _)
theorem Inv.lstM (I : Inv X pins σ H s) (hH : H l = some (.lst xs)) : xs.length ≤ sizeLine ∧ ∃ (its : List Value) (n : Nat), Vals xs its ∧ xs.length = its.length ∧ s.heap.get? l = some { cls := .type "list", data := .seq its.toArray n } := by
 obtain ⟨z, its, n, r, e⟩ := I.hok l _ hH
 exact ⟨z, its, n, r, r.length, e⟩
theorem notLongL {n : Nat} (h : n ≤ sizeLine) : Builtin.List.listTooLong n = false := by
 unfold Builtin.List.listTooLong
 exact decide_eq_false (by omega)
end
section
variable {X : Cx}
def rAppend : V → List V → Hp → VK → Prop := fun x vs H Q => ∃ l xs y, x = .ref l ∧ vs = [y] ∧ H l = some (.lst xs) ∧ xs.length < sizeLine ∧ Q .non (upd H l (.lst (xs ++ [y])))
theorem mt_append : MtM X "list.append" rAppend := by
 intro pins s σ H x vs v us Q I rx rv h
 obtain ⟨l, xs, y, rfl, rfl, hH, hz, q⟩ := h
 cases rx
 obtain ⟨u, rfl, ru⟩ := rv.one
 obtain ⟨z, its, n, r, hl, e⟩ := I.lstM hH
 refine call_meets F.slot_list_append ⟨_, e, rfl⟩ F.entry_list_append (F.args_list_append_2 _ _) (PySem.list_append l its.toArray n u (by rw [List.size_toArray]; omega)) ⟨e, ?_⟩
 refine ⟨.non, _, I.lset (its' := its ++ [u]) hH e (by simp) (r.append (.cons ru .nil)) ?_, rfl, q⟩
 rw [List.length_append, List.length_singleton]
 omega
def rExtend : V → List V → Hp → VK → Prop := fun x vs H Q => ∃ l b xs zs, x = .ref l ∧ vs = [.ref b] ∧ H l = some (.lst xs) ∧ H b = some (.lst zs) ∧ xs.length + zs.length ≤ sizeLine ∧ Q .non (upd H l (.lst (xs ++ zs)))
theorem mt_extend : MtM X "list.extend" rExtend := by
 intro pins s σ H x vs v us Q I rx rv h
 obtain ⟨l, b, xs, zs, rfl, rfl, hH, hB, hz, q⟩ := h
 cases rx
 obtain ⟨u, rfl, ru⟩ := rv.one
 cases ru
 obtain ⟨z, its, n, r, hl, e⟩ := I.lstM hH
 obtain ⟨z2, its2, n2, r2, hl2, e2⟩ := I.lstM hB
 have hsz : its.toArray.size + its2.toArray.size ≤ sizeLine := by rw [List.size_toArray, List.size_toArray]; omega
 have hlong : ¬ (!its.toArray.isEmpty && Builtin.List.listTooLong (its.toArray.size + its2.toArray.size)) = true := by
  rw [notLongL hsz, Bool.and_false]
  exact Bool.false_ne_true
 refine call_meets F.slot_list_extend ⟨_, e, rfl⟩ F.entry_list_extend (F.args_list_extend_2 _ _)
  (AutoSeq1.list_extend_list_list_0 l its.toArray n b its2.toArray n2 hlong (by rw [List.size_toArray]; omega) (by omega)) ⟨e, e2, ?_⟩
 refine ⟨.non, _, I.lset (its' := its ++ its2) hH e (by simp) (r.append r2) ?_, rfl, q⟩
 rw [List.length_append]
 omega
def rPopAt : V → List V → Hp → VK → Prop := fun x vs H Q => ∃ l xs i k y, x = .ref l ∧ vs = [.int i] ∧ H l = some (.lst xs) ∧ -(2 ^ 63) ≤ i ∧ i < 2 ^ 63 ∧ seqIndex? i xs.length = some k ∧ xs[k]? = some y ∧ Q y (upd H l (.lst (xs.eraseIdx k)))
theorem mt_popAt : MtM X "list.pop" rPopAt := by
 intro pins s σ H x vs v us Q I rx rv h
 obtain ⟨l, xs, i, k, y, rfl, rfl, hH, h1, h2, hk, hy, q⟩ := h
 cases rx
 obtain ⟨u, rfl, ru⟩ := rv.one
 obtain ⟨t, rfl⟩ := ru
 obtain ⟨z, its, n, r, hl, e⟩ := I.lstM hH
 obtain ⟨w, hw, rw'⟩ := r.get hy
 refine call_meets F.slot_list_pop ⟨_, e, rfl⟩ F.entry_list_pop (F.args_list_pop_2 _ _)
  (MeetsSeq.list_pop_at l its.toArray n i t k w (fitsIndex_both h1 h2) (by rw [List.size_toArray, ← hl]; exact hk) (by rw [← Array.getElem?_toList]; exact hw) (by rw [List.size_toArray]; omega)) ⟨e, ?_⟩
 refine ⟨y, _, I.lset (its' := its.eraseIdx k) hH e ?_ (r.eraseIdx k) ?_, rw', q⟩
 ·show its.toArray.eraseIdxIfInBounds k = (its.eraseIdx k).toArray
  rw [List.eraseIdxIfInBounds_toArray]
 ·have := len_erase xs k
  omega
def rClear : V → List V → Hp → VK → Prop := fun x vs H Q => ∃ l xs, x = .ref l ∧ vs = [] ∧ H l = some (.lst xs) ∧ Q .non (upd H l (.lst []))
theorem mt_clear : MtM X "list.clear" rClear := by
 intro pins s σ H x vs v us Q I rx rv h
 obtain ⟨l, xs, rfl, rfl, hH, q⟩ := h
 cases rx
 have hus := rv.zero
 subst hus
 obtain ⟨z, its, n, r, hl, e⟩ := I.lstM hH
 refine call_meets F.slot_list_clear ⟨_, e, rfl⟩ F.entry_list_clear (F.args_list_clear_1 _) (AutoSeq1.list_clear_list_0 l its.toArray n (by rw [List.size_toArray]; omega)) ⟨e, ?_⟩
 exact ⟨.non, _, I.lset (its' := []) (ys := []) hH e rfl .nil (Nat.zero_le _), rfl, q⟩
def rCat : R2 := fun x y H Q => ∃ l b xs zs, x = .ref l ∧ y = .ref b ∧ H l = some (.lst xs) ∧ H b = some (.lst zs) ∧ xs.length + zs.length ≤ sizeLine ∧ ∀ p, H p = none → Q (.ref p) (upd H p (.lst (xs ++ zs)))
theorem op_cat : OpR X (binaryOp .Add) rCat := by
 intro pins s σ H x y v u Q I rx ry h
 obtain ⟨l, b, xs, zs, rfl, rfl, hH, hB, hz, q⟩ := h
 cases rx
 cases ry
 obtain ⟨z, its, n, r, hl, e⟩ := I.lstM hH
 obtain ⟨z2, its2, n2, r2, hl2, e2⟩ := I.lstM hB
 refine PySem.P.add_list e e2 ?_ (by rw [List.size_toArray, List.size_toArray]; omega)
 have ea : its.toArray ++ its2.toArray = (its ++ its2).toArray := by simp
 rw [ea]
 exact ⟨.ref _, _, I.lnew (t' := s.toks) (r.append r2) (by rw [List.length_append]; omega), rfl, q _ I.fresh⟩
end
section
variable {prog : Program} {w : World} {A : Around} {E : Value → Shared → Prop} {s : Shared}
end
section
variable {X : Cx}
end
end L2
namespace Att
open PySem PySem.W PySem.Calls PyProof.Rows
theorem ints_of_wellAll {P : Params} {h : Heap} : ∀ (ns : List Int) (vs : List Value), WellAll P h vs (ns.map WData.int) → IntsAre vs ns := by
 intro ns
 induction ns with
 | nil =>
  intro vs w
  rw [List.map_nil] at w
  cases w
  exact .nil
 | cons n ns ih =>
  intro vs w
  rw [List.map_cons] at w
  cases w with
  | cons a b =>
   cases a
   exact .cons _ _ (ih _ b)
theorem script_of {l : OpenLaw} {n : Nat} (hn : l.most = some n) {P : Params} {h : Heap} {args : List WData} {vals : List Value}
  (hpre : l.row.toRowW.claim.pre args = true) (hwl : WellAll P h vals args) :
  ∃ a vs ns, vals = [Value.ref a] ∧ args = [WData.list (ns.map WData.int)] ∧ h.get? a = some { cls := .type "list", data := .seq vs.toArray } ∧ IntsAre vs ns ∧ ns.length ≤ n := by
 have hsh : WShape.hasAll [] args [.list .int] = true := (pre_splitW hpre).1
 have hc : l.pre.holds [] { args := args } = true := (pre_splitW hpre).2
 obtain ⟨d, r, rfl, h1, h2⟩ := hasAllW_cons hsh
 obtain rfl := hasAllW_nil h2
 obtain ⟨xs, rfl, h3⟩ := hasW_list h1
 obtain ⟨ns, rfl⟩ := items_int h3
 have hlen : ns.length ≤ n := by
  unfold OpenLaw.pre at hc
  have h4 : (WTm.not (.lt (.lit (.int (n : Int))) (.len (.arg 0)))).holds [] { args := [.list (ns.map .int)] } = true := by
   have h4 := (holds_andW hc).1
   rw [hn] at h4
   exact h4
  have h5 := condW_of h4 (w_not (w_lt w_lit (w_len_list (w_arg rfl))))
  rw [List.length_map] at h5
  refine Nat.le_of_not_lt fun q => ?_
  have q' : (n : Int) < ((ns.length : Nat) : Int) := by omega
  first
   | (rw [decide_eq_true q'] at h5; exact absurd h5 (by decide))
   | (simp at h5; omega)
 cases hwl with
 | cons w1 w2 =>
  cases w2
  cases w1 with
  | list ho hall => exact ⟨_, _, ns, rfl, rfl, ho, ints_of_wellAll ns _ hall, hlen⟩
theorem post_true (l : OpenLaw) (args : List WData) : l.row.toRowW.claim.post args (.bool true) args = true :=
 postW_of (r := l.row.toRowW) (X := (true == true))
  (show WShape.has [] (.bool true) .bool = true by first | rfl | decide | simp [WShape.has, WShape.arms, WShape.armsAll])
  (show (WTm.eq .res (.lit (.bool true))).value [] { args := args, res := some (.bool true), after := args } = some (.bool (true == true)) from w_eq_bool (w_res rfl) w_lit) rfl
theorem attach_call {l : OpenLaw} {n : Nat} {q : Program} {loose : List Str} {XP : (Str → Option Value) → Heap → Prop} {YP : World → Heap → Prop} {d : DefRec}
  (hn : l.most = some n) (hdf : d.params.defaults = [])
  (call : ∀ (w : World) (s₀ s₁ : Shared) (mg mb : Str → Option Value) (fa : Addr) (o : Obj) (pm cd doc : Value) (a : Addr) (vs : List Value) (ns : List Int),
   Ground q loose [] XP w s₀ mg mb s₁.heap → YP w s₁.heap →
   s₁.heap.get? fa = some o → o.data = .func (docDef d.name d.params d.body d.scope pm cd doc) → s₁.heap.CodeRec cd d.name → mg d.name = some (.ref fa) →
   s₁.heap.get? a = some { cls := .type "list", data := .seq vs.toArray } → IntsAre vs ns → ns.length ≤ n → s₁.gens = #[] →
   codeAny (model l.prog w) callerA (.call (.ref fa) ⟨[.ref a], []⟩) (fun r s' => r = .ok (.ret (.bool true)) ∧ OldK s₁.heap s'.heap ∧ s'.os = s₁.os ∧ AllBare s'.gens) s₁) :
  WalkO q loose XP YP l.row.toRowW d [] (fun f vs => PySem.call f vs) := by
 intro w s₀ s₁ mg mb G Y fa o pm cd doc dV kV ho hd hcd hD hmg hg args vals as hpre hlay hrd hwl hlo
 obtain rfl : dV = .none := Dflts.none hD hdf
 obtain rfl : kV = .none := Dflts.noKw hD
 obtain ⟨a, vs, ns, rfl, rfl, hobj, hints, hlen⟩ := script_of hn hpre hwl
 refine enter_call (codeAny_mono (call w s₀ s₁ mg mb fa o pm cd doc a vs ns G Y ho (fd_plain hd) hcd hmg hobj hints hlen hg) fun r s' hq => ?_)
 obtain ⟨rfl, h2, h3, h4⟩ := hq
 exact ⟨.inl ⟨.bool true, .bool true, [], rfl, fun _ => rfl, .bool true, post_true l _, fun _ => ⟨List.Pairwise.nil, fun _ hm => (nomatch hm)⟩⟩, h2, h3, h4⟩
section
variable {prog : Program} {w : World} {A : Around} {E : Value → Shared → Prop} {s : Shared} {K : Frag}
end
end Att
namespace L2
open PySem PySem.Spec PyProof.Rows
theorem vals_ints : ∀ {vs : List Value} {ns : List Int}, IntsAre vs ns → Vals (ns.map V.int) vs
 | _, _, .nil => .nil
 | _, _, .cons n t h => .cons ⟨t, rfl⟩ (vals_ints h)
def Only (H : Hp) : Prop := ∀ b, H b = none ∨ ∃ o xs, H b = some (.frz o (.lst xs))
theorem law_call {P : Program} {w : World} {K : PySem.W.Frag} {mg mb : Str → Option Value} {CX : CXT} {k : Nat} {fa a : Addr} {fd : FuncData} {x : Str} {sp : Sp} {s₁ : Shared} {vs : List Value} {ns : List Int}
  (KX : K.In s₁.heap) (hns : s₁.heap.Ns mainGlobals mg) (hb : s₁.heap.Ns builtinsNs mb) (hbb : ∀ x : Str, x ≠ "__name__" → mb x = bootBuiltins x) (hlim : s₁.heap.NoLimit) (hsys : ∃ mm, s₁.heap.Ns sysModules mm) (hg : s₁.gens = #[])
  (ha : s₁.heap.get? a = some { cls := .type "list", data := .seq vs.toArray }) (hi : IntsAre vs ns) (hl : ns.length ≤ sizeLine) (hr : Room k callerA)
  (F : ∀ base : Heap, K.In base → base.Ns mainGlobals mg → FnOk P w K mg base CX k fa fd [x] sp) (hbind : ∀ (s : Shared) (u : Value), BindsTo s fd ⟨[u], []⟩ [(x, u)])
  (hsp : ∀ H : Hp, Only H → SqL K H a (ns.map V.int) → sp [.ref a] H (fun v _ => v = .bl true) fun _ _ _ => False)
  (hCX : ∀ H e s', CX [] H s₁ (fun _ _ _ => False) e s' → False) :
  codeAny (model P w) callerA (.call (.ref fa) ⟨[.ref a], []⟩) (fun r s' => r = .ok (.ret (.bool true)) ∧ OldK s₁.heap s'.heap ∧ s'.os = s₁.os ∧ AllBare s'.gens) s₁ := by
 have rv := vals_ints hi
 have lenV := hi.length
 have core : ∀ H : Hp, Only H → SqL K H a (ns.map V.int) → HOk P w H s₁.heap → (∀ b, H b ≠ none → b = a) → (H a ≠ none → K.lookup a = none) →
   codeAny (model P w) callerA (.call (.ref fa) ⟨[.ref a], []⟩) (fun r s' => r = .ok (.ret (.bool true)) ∧ OldK s₁.heap s'.heap ∧ s'.os = s₁.os ∧ AllBare s'.gens) s₁ := by
  intro H hO hS hok hA hK
  have base_of : ∀ {b : Addr} {o : Obj}, s₁.heap.get? b = some o → H b = none → (hidT s₁.heap H).get? b = some o := fun e n => hidT_get e n
  have noA : ∀ {b : Addr} {o : Obj} {es : Array DictEntry} {ep : Nat}, s₁.heap.get? b = some o → o.data = .dict es ep → H b = none := fun {b o es ep} e d => by
   cases q : H b with
   | none => rfl
   | some u =>
    have e' : b = a := hA b (by rw [q]; simp)
    subst e'
    rw [ha] at e; cases e
    have d' : Data.seq vs.toArray _ = Data.dict es ep := d
    cases d'
  have nsK : ∀ {b : Addr} {m : Str → Option Value}, s₁.heap.Ns b m → (hidT s₁.heap H).Ns b m := fun {b m} ⟨o, es, ep, e, d, r⟩ => ⟨o, es, ep, base_of e (noA e d), d, r⟩
  have hKb : K.In (hidT s₁.heap H) := fun b o e => base_of (KX b o e) (by
   cases q : H b with
   | none => rfl
   | some u =>
    have e' : b = a := hA b (by rw [q]; simp)
    subst e'
    rw [hK (by rw [q]; simp)] at e; cases e)
  have hM : Mod K mg (hidT s₁.heap H) := ⟨hKb, nsK hns, ⟨mb, nsK hb, hbb⟩, let ⟨mc, h1, h2⟩ := hlim; ⟨mc, nsK h1, h2⟩, let ⟨mm, h1⟩ := hsys; ⟨mm, nsK h1⟩⟩
  have e0 : Env0 P w K mg (hidT s₁.heap H) callerA [] s₁ H := ⟨rfl, hM, fun b o e => of_hidT e, Nat.le_of_eq (hidT_size _ _), trivial, fun b hb => absurd (show b ∈ ([] : List Addr) from hb) (by simp), hok, .of_eq hg⟩
  refine codeAny_mono ((F _ hKb (nsK hns)).run callerA [] s₁ H ⟨[.ref a], []⟩ [.ref a] [.ref a] _ _ hr e0 (hbind s₁ (.ref a)) (.cons rfl .nil) (hsp H hO hS)) fun r s' h => ?_
  cases r with
  | error e => exact (hCX H e s' h).elim
  | ok fl =>
   cases fl with
   | next => exact False.elim h
   | brk => exact False.elim h
   | cont => exact False.elim h
   | ret u =>
    obtain ⟨v, H', os, bare, un, hok', r', q⟩ := h
    have q' : v = .bl true := q
    subst q'
    obtain rfl : u = Value.bool true := r'
    refine ⟨rfl, OldK.of_keep fun b o e => ?_, os, bare⟩
    cases q : H b with
    | none => exact un.keep b o e q (by intro z; exact absurd (show b ∈ ([] : List Addr) from z) (by simp)) (by simp)
    | some u =>
     rcases hO b with z | ⟨ob, xs, z⟩
     ·rw [q] at z; cases z
     ·have z2 := un.frzs b ob _ z
      obtain ⟨e1, _⟩ := hok b _ z
      obtain ⟨e2, _⟩ := hok' b _ z2
      rw [e] at e1; cases e1
      exact e2
 cases hk : K.lookup a with
 | some o =>
  have e := KX a o hk
  rw [ha] at e
  cases e
  refine core (fun _ => none) (fun _ => .inl rfl) (.inr ⟨_, vs.toArray, _, hk, rfl, rfl, rfl, by rw [List.size_toArray, lenV]; exact hl, by simpa using rv⟩) (fun b u z => by have z' : (none : Option HO) = some u := z; cases z') (fun b z => absurd rfl z) fun z => absurd rfl z
 | none =>
  refine core (fun b => if b = a then some (.frz { cls := .type "list", data := .seq vs.toArray } (.lst (ns.map V.int))) else none) (fun b => ?_) (.inl (.inr ⟨{ cls := .type "list", data := .seq vs.toArray }, if_pos rfl⟩)) (fun b u z => ?_) (fun b z => ?_) fun _ => hk
  ·by_cases hb : b = a
   ·exact .inr ⟨_, _, if_pos hb⟩
   ·exact .inl (if_neg hb)
  ·by_cases hb : b = a
   ·have z' := (if_pos hb).symm.trans z
    cases z'
    subst hb
    exact ⟨ha, by rw [List.length_map]; exact hl, vs, _, rv, ha⟩
   ·have z' := (if_neg hb).symm.trans z
    cases z'
  ·by_cases hb : b = a
   ·exact hb
   ·exact absurd (if_neg hb) z
end L2
namespace L2
open PySem PySem.Spec PyProof.Rows
theorem walk_of {l : PySem.W.OpenLaw} {n k : Nat} {q : Program} {loose : List Str} {XP : (Str → Option Value) → Heap → Prop} {YP : World → Heap → Prop} {d : DefRec} {K : Params → PySem.W.Frag} {CX : World → CXT} {sp : World → Sp} {x : Str}
  (hn : l.most = some n) (hn2 : n ≤ sizeLine) (hdf : d.params.defaults = []) (hr : Room k callerA) (hq : importsNone q = true)
  (hY : ∀ (w : World) (h : Heap), YP w h → (K w.params).In h)
  (F : ∀ (w : World) (mg : Str → Option Value) (fa : Addr) (h : Heap), (K w.params).In h → h.Ns mainGlobals mg → mg d.name = some (.ref fa) →
   ∃ fd : FuncData, (∀ (s : Shared) (u : Value), BindsTo s fd ⟨[u], []⟩ [(x, u)]) ∧
    ∀ base : Heap, (K w.params).In base → base.Ns mainGlobals mg → FnOk l.prog w (K w.params) mg base (CX w) k fa fd [x] (sp w))
  (hsp : ∀ (w : World) (H : Hp) (a : Addr) (ns : List Int), ns.length ≤ n → Only H → SqL (K w.params) H a (ns.map V.int) → sp w [.ref a] H (fun v _ => v = .bl true) fun _ _ _ => False)
  (hCX : ∀ (w : World) (H : Hp) (s : Shared) (e : Value) (s' : Shared), CX w [] H s (fun _ _ _ => False) e s' → False) :
  PySem.W.WalkO q loose XP YP l.row.toRowW d [] (fun f vs => PySem.call f vs) := by
 refine Att.attach_call hn hdf fun w s₀ s₁ mg mb fa o pm cd doc a vs ns G Y ho hd hcd hmg hobj hints hlen hg => ?_
 have KX := hY w _ Y
 obtain ⟨fd, hb, hF⟩ := F w mg fa _ KX G.T.g hmg
 exact law_call KX G.T.g G.T.b G.T.builtins G.T.nolimit (let ⟨mm, x, _⟩ := (G.T.seer hq).mods; ⟨mm, x⟩) hg hobj hints (Nat.le_trans hlen hn2) hr hF hb (fun H hO hS => hsp w H a ns hlen hO hS) fun H e s' => hCX w H s₁ e s'
end L2
namespace L2
open PySem PySem.Spec PyProof.Rows
def inClass (s : Stmt) (j : Nat) : Stmt := match s with
 | .ClassDef _ _ _ body _ _ _ _ _ _ _ => body.getD j (.Pass ⟨0, 0, 0, 0⟩)
 | _ => .Pass ⟨0, 0, 0, 0⟩
def defArgs (s : Stmt) : Arguments := match s with
 | .FunctionDef _ a _ _ _ _ _ _ _ _ => a
 | _ => { posonlyargs := [], args := [], vararg := none, kwonlyargs := [], kw_defaults := [], kwarg := none, defaults := [] }
def defBody (s : Stmt) : List Stmt := match s with
 | .FunctionDef _ _ b _ _ _ _ _ _ _ => b
 | _ => []
def defScope (s : Stmt) : Scope := match s with
 | .FunctionDef _ _ _ _ _ _ sc _ _ _ => sc
 | _ => { kind := .function, names := [], isGenerator := false, isCoroutine := false }
abbrev CX0 : CXT := fun _ _ _ _ _ _ => False
abbrev E0 : XK := fun _ _ _ => False
theorem pass0 {X : Cx} : Passes CX0 X E0 := fun _ _ _ _ _ _ _ h => h.elim
structure Fun (K : PySem.W.Frag) (x qual : Str) (st : Stmt) (f : Addr) (fd : FuncData) : Prop where
 ex : ∃ (oc : Value) (od : Option Addr) (kV doc pm : Value) (an : Option Addr) (cdv ct : Value) (osl : Array (Option Value)),
  fd = PySem.W.fnOf x qual (defArgs st) (defBody st) (defScope st) .none kV doc pm an cdv ct ∧ K.lookup f = some ⟨oc, od, .func fd, osl⟩ ∧ PySem.W.codeIn K cdv qual = true
 kp : PySem.W.keepIn K (.ref f) = true
section
variable {P : Program} {w : World} {K : PySem.W.Frag} {mg : Str → Option Value} {base : Heap}
theorem Fun.ok {x qual : Str} {st : Stmt} {f : Addr} {fd : FuncData} {N ps : List Str} {k : Nat} {sp : Sp} (F : Fun K x qual st f fd) (S : FnScope N ps (defScope st)) (len : ∀ vs H Q E, sp vs H Q E → vs.length = ps.length)
  (hbody : ∀ (cdv : Value) (A : Around) (outer : List Env) (s : Shared) (H : Hp) (vs : List V) (Q : VK) (E : XK), Room k (A.deeper (envOfC qual (defScope st) s.heap.objs.size f cdv)) → sp vs H Q E →
   ∃ t, PSs (cxOf CX0 P w K mg base N qual (defScope st) f cdv A outer s H E).nox (defBody st) t ∧ t { nx := fun _ H' => Q .non H', rt := Q } (start N vs) H) : FnOk P w K mg base CX0 (k + 1) f fd ps sp := by
 obtain ⟨oc, od, kV, doc, pm, an, cdv, ct, osl, rfl, lk, hcd⟩ := F.ex
 refine fn_of lk hcd S len fun A outer s H vs Q E hr hsp => ?_
 obtain ⟨t, h, q⟩ := hbody cdv A outer s H vs Q E hr hsp
 exact ⟨t, h.nox, q⟩
theorem Fun.binds {x qual : Str} {st : Stmt} {f : Addr} {fd : FuncData} {ps : List Str} (F : Fun K x qual st f fd)
  (h : ∀ (kV doc pm : Value) (an : Option Addr) (cdv ct : Value) (us : List Value), us.length = ps.length → bindArgs (PySem.W.fnOf x qual (defArgs st) (defBody st) (defScope st) .none kV doc pm an cdv ct) ⟨us, []⟩ = pure (ps.zip us)) : Binds K fd ps [] := by
 obtain ⟨oc, od, kV, doc, pm, an, cdv, ct, osl, rfl, lk, hcd⟩ := F.ex
 exact .all (h kV doc pm an cdv ct)
theorem fun_mk {x qual : Str} {st : Stmt} {f : Addr} {oc : Value} {od an : Option Addr} {osl : Array (Option Value)} {kV doc pm cdv ct : Value} (l : K.lookup f = some ⟨oc, od, .func (PySem.W.fnOf x qual (defArgs st) (defBody st) (defScope st) .none kV doc pm an cdv ct), osl⟩)
  (c : PySem.W.codeIn K cdv qual = true) (k : PySem.W.keepIn K (.ref f) = true) : Fun K x qual st f (PySem.W.fnOf x qual (defArgs st) (defBody st) (defScope st) .none kV doc pm an cdv ct) := ⟨⟨oc, od, kV, doc, pm, an, cdv, ct, osl, rfl, l, c⟩, k⟩
end
theorem hu_of {A : Around} {k : Nat} (hr : Room k A) : A.units + 1 < cLine := Nat.lt_of_le_of_lt (Nat.add_le_add_left (by decide : 1 ≤ 64) _) hr.units
section
variable {X : Cx}
end
theorem iteF {A B : Prop} (h : B) : if false = true then A else B := by
 rw [if_neg Bool.false_ne_true]
 exact h
theorem ite2 {c A B : Prop} [Decidable c] (h1 : c → A) (h2 : ¬ c → B) : if c then A else B := by
 by_cases h : c
 ·rw [if_pos h]
  exact h1 h
 ·rw [if_neg h]
  exact h2 h
theorem iteNS {c A B : Prop} [Decidable c] (hc : c) (h : B) : if (!decide c) = true then A else B := by
 rw [decide_eq_true hc]
 exact iteF h
def Same (H H' : Hp) : Prop := ∀ b o, H b = some o → H' b = some o
theorem Same.refl (H : Hp) : Same H H := fun _ _ h => h
theorem Same.trans {H H1 H2 : Hp} (a : Same H H1) (b : Same H1 H2) : Same H H2 := fun c o h => b c o (a c o h)
theorem Same.free {H H' : Hp} (e : Same H H') {l : Addr} (h : H' l = Option.none) : H l = Option.none := by
 cases q : H l with
 | none => rfl
 | some o =>
  rw [e l o q] at h
  cases h
theorem Same.seq {K : PySem.W.Frag} {H H' : Hp} {a : Addr} {xs : List V} (e : Same H H') (h : SqL K H a xs) : SqL K H' a xs := by
 rcases h with (h | ⟨o, h⟩) | h
 ·exact .inl (.inl (e _ _ h))
 ·exact .inl (.inr ⟨o, e _ _ h⟩)
 ·exact .inr h
end L2

set_option Elab.async false
set_option linter.all false
set_option maxRecDepth 100000
set_option maxHeartbeats 4000000
namespace L2
open PySem PySem.Spec PyProof.Rows
theorem codeAny_compLoop_any {prog : Program} {w : World} {A : Around} {R : Result → Shared → Prop} {s : Shared} {elt target iter : Expr} {scope : Scope} {pos : Pos} {it acc : Value} {env : Env} (I : Nat → Shared → Prop)
  (turn : ∀ n s, I n s → wpAny (model prog w) A (pyNext it) (fun r s1 => match r with
   | none => R (.ok .next) s1
   | some v => wpAny (model prog w) A (letOwnedTupleGo target it v) (fun _ s1' => wpAny (model prog w) A (assign target env v) (fun _ s2 =>
     wpAny (model prog w) A (eval elt env) (fun x s4 =>
       wpAny (model prog w) A (call (.builtin "list.append") [acc, x]) (fun _ s5 => ∃ m, m < n ∧ I m s5) (notedBy (model prog w) A env fun e s' => R (.error e) s') s4) (notedBy (model prog w) A env fun e s' => R (.error e) s') s2)
     (notedBy (model prog w) A env fun e s' => R (.error e) s') s1') (notedBy (model prog w) A env fun e s' => R (.error e) s') s1) (notedBy (model prog w) A env fun e s' => R (.error e) s') s)
  (n : Nat) (h : I n s) : codeAny (model prog w) A (.compLoop (.ListComp elt [⟨target, iter, [], 0⟩] scope pos) 0 it acc env) R s := by
 refine codeAny_loop rfl I (fun n s hI => ?_) n h
 show wpAny _ A ((compTurn (.ListComp elt [⟨target, iter, [], 0⟩] scope pos) 0 it acc env).onRaise (fun x => do noteFrame x env; theTreesLotGoes x)) _ _ s
 refine wpAny_noted ?_
 rw [compTurn_list]
 refine wpAny_bind (wpAny_standAt (wpAny_bind (wpAny_mono (turn n s hI) (fun r s1 h1 => ?_) fun _ _ h' => h')))
 cases r with
 | none => exact wpAny_pure h1
 | some v =>
  refine wpAny_bind (wpAny_mono h1 (fun _ s1' h1' => ?_) fun _ _ h' => h')
  refine wpAny_bind (wpAny_mono h1' (fun _ s2 h2 => wpAny_bind (wpAny_mono (wpAny_tests_nil (Q := fun ok s3 => ok = true ∧ s3 = s2) ⟨rfl, rfl⟩) (fun ok s3 h3 => ?_) fun _ _ h' => h')) fun _ _ h' => h')
  obtain ⟨rfl, rfl⟩ := h3
  exact wpAny_bind (wpAny_bind (wpAny_mono h2 (fun x s4 h4 => wpAny_bind (wpAny_mono h4 (fun _ s5 h5 => wpAny_pure (wpAny_pure ⟨rfl, h5⟩)) fun _ _ h' => h')) fun _ _ h' => h'))
theorem lookup_relabel {env : Env} : ∀ {names : List (Str × NameKind)} {x : Str},
  (names.map fun (n, k) => if (k == NameKind.free && env.scope.kind == .function && env.kindOf n == some .cell) then (n, NameKind.cell) else (n, k)).lookup x =
   (names.lookup x).map fun k => if (k == NameKind.free && env.scope.kind == .function && env.kindOf x == some .cell) then NameKind.cell else k
 | [], _ => rfl
 | (n, k) :: r, x => by
  have ih := @lookup_relabel env r x
  show List.lookup x ((if (k == NameKind.free && env.scope.kind == .function && env.kindOf n == some .cell) = true then (n, NameKind.cell) else (n, k)) :: _) = _
  cases hx : x == n with
  | true =>
   have e : x = n := eq_of_beq hx
   subst e
   by_cases hc : (k == NameKind.free && env.scope.kind == .function && env.kindOf x == some .cell) = true
   ·rw [if_pos hc]; simp only [List.lookup_cons, hx, Option.map_some, hc, if_true]
   ·rw [if_neg hc]; simp only [List.lookup_cons, hx, Option.map_some, hc]; rfl
  | false =>
   by_cases hc : (k == NameKind.free && env.scope.kind == .function && env.kindOf n == some .cell) = true
   ·rw [if_pos hc]; simp only [List.lookup_cons, hx]; exact ih
   ·rw [if_neg hc]; simp only [List.lookup_cons, hx]; exact ih
def lookOk (n : Nat) (N' N : List Str) (names : List (Str × NameKind)) : Bool :=
 (List.range N.length).all fun i => match N'[n + i]? with
  | none => true
  | some x => (names.lookup x == some .free && N[i]? == some x) || !(names.lookup x == some .local || names.lookup x == some .cell || names.lookup x == some .free)
structure CompScope (n : Nat) (N' : List Str) (X : Cx) (scope : Scope) : Prop where
 kind : scope.kind = .function
 names : ∀ x ∈ scope.names, x.2 = .local → scope.names.lookup x.1 = some .local
 cell : ∀ x ∈ scope.names, x.2 ≠ .cell
 free : ∀ x ∈ scope.names, x.2 = .free → X.env.kindOf x.1 = some .cell ∨ X.env.kindOf x.1 = some .free
 nd : N'.Nodup
 len : N'.length = n + X.N.length
 look : lookOk n N' X.N scope.names = true
theorem closure_ok {scope : Scope} {env : Env} (hh : ∀ x ∈ scope.names, x.2 = .free → ∃ c, env.cells.lookup x.1 = some c) :
  ∃ cl, closureFor scope env = pure cl ∧ (∀ x c, cl.lookup x = some c → env.cells.lookup x = some c) ∧ ∀ x ∈ scope.names, x.2 = .free → ∃ c, cl.lookup x.1 = some c := by
 have all : ∀ (l : List (Str × NameKind)) (cs : List (Str × Addr)), (∀ x ∈ l, x.2 = .free → ∃ c, env.cells.lookup x.1 = some c) → (∀ x c, cs.lookup x = some c → env.cells.lookup x = some c) →
   ∃ cl, (forIn l cs fun (x : Str × NameKind) r => if x.2 == NameKind.free then (do let a ← cellOf env x.1; pure (ForInStep.yield ((x.1, a) :: r))) else pure (ForInStep.yield r) : Sem (List (Str × Addr))) = pure cl ∧
    (∀ x c, cl.lookup x = some c → env.cells.lookup x = some c) ∧ (∀ x ∈ l, x.2 = .free → ∃ c, cl.lookup x.1 = some c) ∧ ∀ x, (∃ c, cs.lookup x = some c) → ∃ c, cl.lookup x = some c := by
  intro l
  induction l with
  | nil => intro cs _ h; exact ⟨cs, rfl, h, (fun _ h => nomatch h), fun _ h => h⟩
  | cons y r ih =>
   intro cs hf h
   obtain ⟨n, k⟩ := y
   by_cases hk : k = .free
   ·subst hk
    obtain ⟨a, ha⟩ := hf (n, .free) List.mem_cons_self rfl
    have h' : ∀ x c, List.lookup x ((n, a) :: cs) = some c → env.cells.lookup x = some c := fun x c e => by
     cases hx : x == n with
     | true =>
      simp only [List.lookup_cons, hx] at e
      have q : x = n := eq_of_beq hx
      subst q
      rw [ha]; exact e
     | false =>
      simp only [List.lookup_cons, hx] at e
      exact h x c e
    obtain ⟨cl, e1, e2, e3, e4⟩ := ih ((n, a) :: cs) (fun x hx => hf x (List.mem_cons_of_mem _ hx)) h'
    refine ⟨cl, ?_, e2, fun x hx hxf => ?_, fun x hx => ?_⟩
    ·rw [List.forIn_cons]
     have e5 : cellOf env n = pure a := by unfold cellOf; rw [ha]
     simp only [beq_self_eq_true, if_true, e5, pure_bind]
     exact e1
    ·rcases List.mem_cons.mp hx with rfl | hx
     ·exact e4 _ ⟨a, by simp [List.lookup_cons]⟩
     ·exact e3 x hx hxf
    ·obtain ⟨c, hc⟩ := hx
     refine e4 x ?_
     cases hx : x == n with
     | true => exact ⟨a, by simp only [List.lookup_cons, hx]⟩
     | false => exact ⟨c, by simp only [List.lookup_cons, hx]; exact hc⟩
   ·obtain ⟨cl, e1, e2, e3, e4⟩ := ih cs (fun x hx => hf x (List.mem_cons_of_mem _ hx)) h
    refine ⟨cl, ?_, e2, fun x hx hxf => ?_, e4⟩
    ·rw [List.forIn_cons]
     have : (k == NameKind.free) = false := by simpa using hk
     simp only [this, Bool.false_eq_true, if_false, pure_bind]
     exact e1
    ·rcases List.mem_cons.mp hx with rfl | hx
     ·exact absurd hxf hk
     ·exact e3 x hx hxf
 obtain ⟨cl, e1, e2, e3, _⟩ := all scope.names [] hh (fun _ _ h => nomatch h)
 refine ⟨cl, ?_, e2, e3⟩
 unfold closureFor
 refine Eq.trans (b := (pure cl >>= fun cs => pure cs)) ?_ rfl
 refine Eq.trans ?_ (congrArg (fun (m : Sem (List (Str × Addr))) => m >>= fun cs => pure cs) e1)
 rfl
def cxComp (X : Cx) (N' : List Str) (scope : Scope) (cl : List (Str × Addr)) (C : Addr) (ex : List Addr) (s : Shared) (H : Hp) : Cx :=
 { X with N := N', s₀ := s, H₀ := H, env := compEnvC scope cl C X.env, outer := X.stack, ex := ex, fn := fun _ => false, pn := [] }
section
variable {X : Cx} {n : Nat} {N' : List Str} {scope : Scope} {elt tg iter : Expr} {pos : Pos} {pins : List (Addr × Obj)} {σ : St} {H2 : Hp} {s2 : Shared} {cl : List (Str × Addr)}
def CompBack (X : Cx) (pins : List (Addr × Obj)) (σ : St) (Q : VK) (acc : Value) (C : Addr) (s' : Shared) : Prop :=
 ∃ (D : Addr) (H' : Hp) (m : Str → Option Value), acc = .ref D ∧ Inv X pins σ H' s' ∧ s'.heap.Ns C m ∧ FpOk X pins H' C ∧ Q (.ref D) H'
theorem comp_inv {C D : Addr} {fp : List Addr} {s' : Shared} {us : List Value} {k : Nat} (S : CompScope n N' X scope) (c1 : ∀ x c, cl.lookup x = some c → X.env.cells.lookup x = some c) (c2 : ∀ x ∈ scope.names, x.2 = .free → ∃ c, cl.lookup x.1 = some c)
  (I2 : Inv X pins σ H2 s2) (f2 : ∀ b ∈ fp, FpOk X pins H2 b) (fl : ∀ b ∈ fp, @LT.lt Nat _ b s2.heap.objs.size) (hD : @Eq Nat D s2.heap.objs.size) (hC : @Eq Nat C (s2.heap.objs.size + 1))
  (ho : s'.os = s2.os) (hg : s'.gens = s2.gens) (old : ∀ b o, s2.heap.get? b = some o → s'.heap.get? b = some o) (hns : ∃ m, s'.heap.Ns C m) (hd : s'.heap.get? D = some { cls := .type "list", data := .seq us.toArray k }) :
  Inv (cxComp X N' scope cl C fp s2 H2) [(D, { cls := .type "list", data := .seq us.toArray k })] (List.replicate n none ++ σ) H2 s' := by
 have frl : ∀ b ∈ frs X.stack, @LT.lt Nat _ b s2.heap.objs.size := fun b hb => by
  obtain ⟨_, o, ho, _⟩ := I2.stack.mem hb
  exact Heap.lt_size ho
 have celll : ∀ x c, cl.lookup x = some c → c < s2.heap.objs.size := fun x c e => by
  obtain ⟨v, q⟩ := I2.cell x c (c1 x c e)
  exact q.lt
 have kOf : ∀ x, (cxComp X N' scope cl C fp s2 H2).env.kindOf x = (scope.names.lookup x).map fun k => if (k == NameKind.free && X.env.scope.kind == .function && X.env.kindOf x == some .cell) then NameKind.cell else k := fun x => lookup_relabel
 have kfree : ∀ x, ((cxComp X N' scope cl C fp s2 H2).env.kindOf x = some .cell ∨ (cxComp X N' scope cl C fp s2 H2).env.kindOf x = some .free) → scope.names.lookup x = some .free := fun x hx => by
  rw [kOf x] at hx
  cases e : scope.names.lookup x with
  | none => rw [e] at hx; rcases hx with hx | hx <;> cases hx
  | some kd =>
   rw [e] at hx
   cases kd with
   | free => rfl
   | «local» => rcases hx with hx | hx <;> (simp at hx)
   | cell => exact absurd rfl (S.cell _ (PySem.mem_of_lookup e))
   | globalExplicit => rcases hx with hx | hx <;> (simp at hx)
   | globalImplicit => rcases hx with hx | hx <;> (simp at hx)
 have hasC : ∀ x, scope.names.lookup x = some .free → ∃ c, cl.lookup x = some c := fun x hx => c2 _ (PySem.mem_of_lookup hx) rfl
 have hH : ∀ a, s2.heap.objs.size ≤ a → H2 a = none := fun a ha => I2.hok.fresh ha
 have ok : (cxComp X N' scope cl C fp s2 H2).Ok := by
  refine ⟨I2.ok.mod, S.kind, I2.ok.glob, I2.ok.blt, ?_, fun x y c h1 h2 => ?_, fun x hx => hasC x (kfree x hx), fun x c h => absurd h (by show ¬ (false = true); decide), I2.ok.hd, I2.ok.frames, .inl rfl, fun b hb => ?_, I2.bs, Nat.le_trans I2.ok.bsz I2.sz, fun b o e hb => ?_, fun b hb z => ?_, I2.stack, I2.stkFree⟩
  ·show s2.heap.objs.size ≤ C
   omega
  ·exact I2.ok.inj x y c (c1 x c h1) (c1 y c h2)
  ·have := fl b hb
   refine ⟨by show @Ne Nat b C; omega, fun x c e z => ?_⟩
   exact (f2 b hb).2.2.2.2.1 x c (c1 x c e) z
  ·obtain ⟨f0, f1, ff, f3, _⟩ := f2 b hb
   rcases f3 with z | z
   ·exact I2.ok.noex b o e z
   ·have q1 : @LT.lt Nat _ b X.base.objs.size := Heap.lt_size e
    have q2 := I2.ok.bsz
    have q3 : @LE.le Nat _ X.s₀.heap.objs.size b := z
    omega
  ·obtain ⟨f0, f1, ff, _⟩ := f2 b hb
   exact (List.mem_cons.mp (I2.stkSub b z)).elim f1 ff
 refine ⟨ok, ho, by rw [hg]; exact I2.bare, Un.kept old, ?_, fun x c e => ?_, ?_, fun x c e => ?_, fun p hp => ?_, I2.hok.kept old, ?_⟩
 ·obtain ⟨m, hn⟩ := hns
  refine ⟨m, hn, fun i x v e1 e2 e3 => ?_⟩
  have e2' : (List.replicate n (none : Option V) ++ σ)[i]? = some (some v) := e2
  have e1' : N'[i]? = some x := e1
  by_cases hi : i < n
  ·rw [List.getElem?_append_left (by simpa using hi), List.getElem?_replicate] at e2'
   split at e2' <;> cases e2'
  ·obtain ⟨j, rfl⟩ : ∃ j, i = n + j := ⟨i - n, by omega⟩
   rw [List.getElem?_append_right (by simp)] at e2'
   simp only [List.length_replicate, Nat.add_sub_cancel_left] at e2'
   have hj : j < X.N.length := by rw [← I2.len]; exact (List.getElem?_eq_some_iff.mp e2').1
   have lk := List.all_eq_true.mp S.look j (List.mem_range.mpr hj)
   rw [e1'] at lk
   have vis : scope.names.lookup x = some .local ∨ scope.names.lookup x = some .cell ∨ scope.names.lookup x = some .free := by
    have e3' : (cxComp X N' scope cl C fp s2 H2).env.kindOf x = some .local ∨ (cxComp X N' scope cl C fp s2 H2).env.kindOf x = some .cell ∨ (cxComp X N' scope cl C fp s2 H2).env.kindOf x = some .free := e3
    rcases e3' with z | z | z
    ·rw [kOf x] at z
     cases e : scope.names.lookup x with
     | none => rw [e] at z; cases z
     | some kd =>
      rw [e] at z
      simp only [Option.map_some] at z
      split at z
      ·cases z
      ·cases z; exact .inl rfl
    ·exact .inr (.inr (kfree x (.inl z)))
    ·exact .inr (.inr (kfree x (.inr z)))
   have lk2 : scope.names.lookup x = some .free ∧ X.N[j]? = some x := by
    simp only [Bool.or_eq_true, Bool.and_eq_true, Bool.not_eq_true', Bool.or_eq_false_iff, beq_iff_eq, beq_eq_false_iff_ne] at lk
    rcases lk with z | z
    ·exact z
    ·rcases vis with q | q | q
     ·exact absurd q z.1.1
     ·exact absurd q z.1.2
     ·exact absurd q z.2
   obtain ⟨m0, hn0, hl0⟩ := I2.loc
   have vX : Vis X.env.scope x := by
    rcases S.free _ (PySem.mem_of_lookup lk2.1) rfl with z | z
    ·exact .inr (.inl z)
    ·exact .inr (.inr z)
   obtain ⟨u, r, l⟩ := hl0 j x v lk2.2 e2' vX
   refine ⟨u, r, .inr ⟨?_, ?_⟩⟩
   ·rw [kOf x, lk2.1]
    simp only [Option.map_some]
    split
    ·exact .inl rfl
    ·exact .inr rfl
   ·obtain ⟨c, hc⟩ := hasC x lk2.1
    refine ⟨c, hc, ?_⟩
    rcases l with ⟨kl, _⟩ | ⟨_, c', hc', z⟩
    ·rcases S.free _ (PySem.mem_of_lookup lk2.1) rfl with q | q <;> (rw [kl] at q; cases q)
    ·have := c1 x c hc
     rw [hc'] at this; cases this
     obtain ⟨oc, hoc, hdc⟩ := z
     exact ⟨oc, old _ _ hoc, hdc⟩
 ·obtain ⟨v, oc, hoc, hdc⟩ := I2.cell x c (c1 x c e)
  exact ⟨v, oc, old _ _ hoc, hdc⟩
 ·exact hH C (by omega)
 ·exact I2.freeC x c (c1 x c e)
 ·have e : p = (D, { cls := .type "list", data := .seq us.toArray k }) := by simpa [cxComp] using hp
  subst e
  refine ⟨hd, hH D (by omega), by show @Ne Nat D C; omega, fun z => ?_, fun v z => by cases z⟩
  have := frl D z
  omega
 ·show (List.replicate n none ++ σ).length = N'.length
  rw [List.length_append, List.length_replicate, S.len, I2.len]
def CompOk (n : Nat) (J : It) (g : TG) (te : TE) (σ : St) (H : Hp) (Q : VK) : Prop :=
 ∃ W : Nat → Nat → List V → St → Hp → Prop, (∃ m, W 0 m [] (List.replicate n none ++ σ) H) ∧ ∀ i m ys σ' H, W i m ys σ' H →
  (J.stop i H ∧ ∀ D, H D = none → Q (.ref D) (upd H D (.lst ys))) ∨
  (J.go i H ∧ ys.length < sizeLine ∧ ∀ x H', J.yld i H x H' → g x σ' H' fun σ2 H2 => ∃ N : VK, te σ2 H2 N ∧ ∀ v H3, N v H3 → ∃ m', m' < m ∧ W (i + 1) m' (ys ++ [v]) σ2 H3)
abbrev InBlock (α : Type) := List (Str × Addr) → Addr → List Addr → Shared → Hp → α
def tComp (n : Nat) (wi : TI) (g : InBlock TG) (te : InBlock TE) : TE := fun σ H Q => wi σ H fun J H1 => ∀ cl C ex s Hc, CompOk n J (g cl C ex s Hc) (te cl C ex s Hc) σ H1 Q
theorem comp_block {it : Addr} {fp : List Addr} {tn : Nat → Heap → Prop} {J : It} {g : InBlock TG} {te : InBlock TE} {Q : VK} {E : Value → Shared → Prop}
  (hE : ∀ v s, ¬ X.xe v s) (hc : X.calm = true) (S : CompScope n N' X scope) (c1 : ∀ x c, cl.lookup x = some c → X.env.cells.lookup x = some c) (c2 : ∀ x ∈ scope.names, x.2 = .free → ∃ c, cl.lookup x.1 = some c)
  (I2 : Inv X pins σ H2 s2) (T : Turn X.prog X.w X.K tg J fp it tn) (st2 : tn 0 s2.heap) (f2 : ∀ b ∈ fp, FpOk X pins H2 b)
  (hg : ∀ cl C ex s H, PG (cxComp X N' scope cl C ex s H) tg (g cl C ex s H)) (he : ∀ cl C ex s H, PE (cxComp X N' scope cl C ex s H) elt (te cl C ex s H))
  (cok : ∀ cl C ex s Hc, CompOk n J (g cl C ex s Hc) (te cl C ex s Hc) σ H2 Q) :
  wpAny (model X.prog X.w) X.A (newList []) (fun acc s3 => wpAny (model X.prog X.w) X.A (newFunctionEnv scope X.env.globals cl [] X.env.qual none .none (some X.env)) (fun cenv s4 =>
   codeAny (model X.prog X.w) X.A (.compStart (.ListComp elt [⟨tg, iter, [], 0⟩] scope pos) 0 (.ref it) acc { cenv with scope := relabel scope X.env })
    (fun r s' => match r with | .ok _ => CompBack X pins σ Q acc cenv.locals s' | .error _ => False) s4) E s3) E s2 := by
 have fl : ∀ b ∈ fp, @LT.lt Nat _ b s2.heap.objs.size := fun b hb => by
  obtain ⟨o, e, _⟩ := T.obj _ _ st2 b hb
  exact Heap.lt_size e
 have frl : ∀ b ∈ frs X.stack, @LT.lt Nat _ b s2.heap.objs.size := fun b hb => by
  obtain ⟨_, o, ho, _⟩ := I2.stack.mem hb
  exact Heap.lt_size ho
 have celll : ∀ x c, X.env.cells.lookup x = some c → @LT.lt Nat _ c s2.heap.objs.size := fun x c e => by
  obtain ⟨v, q⟩ := I2.cell x c e
  exact q.lt
 refine wpAny_newObj_type (wpAny_newFunctionEnv S.cell (by intro y hy; simp at hy) (fun h1 hns1 hsb1 => ?_) S.kind)
 dsimp only at hns1 hsb1 ⊢
 generalize hH2 : s2.heap.push { cls := .type "list", dict := none, data := .seq ([] : List Value).toArray } = G at hns1 hsb1 ⊢
 have hC : @Eq Nat G.objs.size (s2.heap.objs.size + 1) := by rw [← hH2, Heap.size_push]
 have hDC : s2.heap.objs.size ≠ G.objs.size := by show @Ne Nat _ _; omega
 have below : ∀ b, @LT.lt Nat _ b s2.heap.objs.size → b ≠ G.objs.size ∧ b ≠ s2.heap.objs.size := fun b hb => ⟨by show @Ne Nat _ _; omega, Nat.ne_of_lt hb⟩
 have old : ∀ b o, s2.heap.get? b = some o → h1.get? b = some o := fun b o e => hsb1.extBut b o (below b (Heap.lt_size e)).1 (Heap.get?_push_of_some _ (hH2 ▸ Heap.get?_push_of_some _ e))
 have hacc : h1.get? s2.heap.objs.size = some { cls := .type "list", data := .seq ([] : List Value).toArray 0 } := hsb1.extBut _ _ hDC (Heap.get?_push_of_some _ (hH2 ▸ Heap.get?_push_size _ rfl))
 have hst1 : tn 0 h1 := T.keep _ _ _ st2 fun b hb o e => old b o e
 let X' := cxComp X N' scope cl G.objs.size fp s2 H2
 obtain ⟨W, ⟨m0, w0⟩, turn⟩ := cok cl G.objs.size fp s2 H2
 have hXe : X'.xe = X.xe := rfl
 have stat : ∀ {H' : Hp} {ps : List (Addr × Obj)}, (∀ b ∈ fp, H' b = none) → (∀ p ∈ ps, p.1 = s2.heap.objs.size) → ∀ b ∈ fp, FpOk X' ps H' b := fun {H' ps} hn hp b hb => by
  obtain ⟨f0, f1, ff, f3, f4, f5⟩ := f2 b hb
  refine ⟨hn b hb, (below b (fl b hb)).1, fun z => ?_, .inl hb, fun x c e z => ?_, fun p hp' z => ?_⟩
  ·exact (List.mem_cons.mp (I2.stkSub b z)).elim f1 ff
  ·exact f4 x c (c1 x c e) z
  ·have e : p.1 = s2.heap.objs.size := hp p (by simpa [X', cxComp] using hp')
   exact (below b (fl b hb)).2 (z.symm.trans e)
 have loop : ∀ s3 : Shared, s3 = { s2 with heap := h1, toks := s2.toks + ([] : List (Str × Value)).length } →
   codeAny (model X.prog X.w) X.A (.compLoop (.ListComp elt [⟨tg, iter, [], 0⟩] scope pos) 0 (.ref it) (.ref s2.heap.objs.size) (compEnvC scope cl G.objs.size X.env))
    (fun r s' => match r with | .ok _ => CompBack X pins σ Q (.ref s2.heap.objs.size) G.objs.size s' | .error _ => False) s3 := by
  rintro s3 rfl
  have I3 := comp_inv (us := []) (k := 0) (s' := { s2 with heap := h1, toks := s2.toks + ([] : List (Str × Value)).length }) S c1 c2 I2 f2 fl rfl hC rfl rfl old ⟨_, hns1⟩ hacc
  refine codeAny_compLoop_any (fun m s' => ∃ i ys us k σ' H', Inv X' [(s2.heap.objs.size, { cls := .type "list", data := .seq (us : List Value).toArray k })] σ' H' s' ∧ Vals ys us ∧ tn i s'.heap ∧ (∀ b ∈ fp, H' b = none) ∧ ys.length ≤ sizeLine ∧ W i m ys σ' H') ?_ m0
   ⟨0, [], [], 0, _, H2, I3, .nil, hst1, fun b hb => (f2 b hb).1, Nat.zero_le _, w0⟩
  rintro m s' ⟨i, ys, us, k, σ', H', I', rv, st', fr', hlen, w'⟩
  rcases turn i m ys σ' H' w' with ⟨stop, q⟩ | ⟨go, hlt, step⟩
  ·refine thn (T.done X' rfl rfl rfl hc i _ s' σ' H' _ I' (stat fr' (by simp)) st' stop) fun r s4 ⟨hr, I4⟩ => ?_
   subst hr
   show CompBack X pins σ Q (.ref s2.heap.objs.size) G.objs.size s4
   obtain ⟨m1, hn1, _⟩ := I4.loc
   obtain ⟨pD, nD, _, _, _⟩ := I4.pin (s2.heap.objs.size, { cls := .type "list", data := .seq us.toArray k }) (List.mem_append_right _ (by simp))
   have nD : H' s2.heap.objs.size = none := nD
   have pD : s4.heap.get? s2.heap.objs.size = some { cls := .type "list", data := .seq us.toArray k } := pD
   have hok : HOk X.prog X.w (upd H' s2.heap.objs.size (.lst ys)) s4.heap := fun b u e => by
    by_cases hb : b = s2.heap.objs.size
    ·subst hb
     rw [upd_same] at e; cases e
     exact ⟨hlen, us, k, rv, pD⟩
    ·rw [upd_ne hb] at e
     exact (I4.hok b u e).stay (fun _ _ _ q => q) (fun c q => by rw [upd_ne (ne_of_none q nD)]; exact q) fun c xs q => by rw [upd_ne (ne_of_none q nD)]; exact q
   have un : Un (frs X.stack) fp H2 (upd H' s2.heap.objs.size (.lst ys)) s2.heap s4.heap := by
    have u0 := I4.base
    refine ⟨u0.keep, u0.slot, fun b o e n hx => ?_, u0.there, fun b xs e => ?_, fun b o xs e => ?_, fun b ps e => ?_⟩
    ·rw [upd_ne (below b (Heap.lt_size e)).2]; exact u0.free b o e n hx
    ·have q := u0.tups b xs e
     rw [upd_ne (ne_of_none q nD)]; exact q
    ·have q := u0.frzs b o xs e
     rw [upd_ne (ne_of_none q nD)]; exact q
    ·obtain ⟨more, q⟩ := u0.tbls b ps e
     exact ⟨more, by rw [upd_ne (ne_of_none q nD)]; exact q⟩
   have IX : Inv X pins σ (upd H' s2.heap.objs.size (.lst ys)) s4 := I2.call' (ch := fp) I4.os un hok I4.bare fun b hb => by
    obtain ⟨f0, f1, ff, f3, f4, f5⟩ := f2 b hb
    exact ⟨f3, f1, f4, f5⟩
   have hG0 : H' G.objs.size = none := I4.free
   refine ⟨s2.heap.objs.size, _, m1, rfl, IX, hn1, ⟨by rw [upd_ne (Ne.symm hDC)]; exact hG0, fun z => ?_, fun z => ?_, .inr ?_, fun x c e z => ?_, fun p hp z => ?_⟩, q _ nD⟩
   ·have q1 : @LT.lt Nat _ X.env.locals s2.heap.objs.size := I2.lt
    have q2 : @Eq Nat G.objs.size X.env.locals := z
    omega
   ·have z' : G.objs.size ∈ frs X.outer := z
    obtain ⟨_, o, ho, _⟩ := I2.funs.mem z'
    have q1 : @LT.lt Nat _ G.objs.size s2.heap.objs.size := Heap.lt_size ho
    omega
   ·have q1 := I2.sz
    show @LE.le Nat _ X.s₀.heap.objs.size G.objs.size
    omega
   ·have q1 := celll x c e
    have q2 : @Eq Nat c G.objs.size := z
    omega
   ·have q1 : @LT.lt Nat _ p.1 s2.heap.objs.size := Heap.lt_size (I2.pin p hp).1
    have q2 : @Eq Nat p.1 G.objs.size := z
    omega
  ·refine thn (T.item X' rfl rfl rfl hc i _ s' σ' H' _ I' (stat fr' (by simp)) st' go) fun r s4 ⟨u, hr, h4⟩ => ?_
   subst hr
   show wpAny _ _ (letOwnedTupleGo tg (.ref it) u) _ _ s4
   refine thn h4 fun _ s5 ⟨x, H5, I5, r5, y5, st5, fr5⟩ => ?_
   have I5' := I5.pinned (stat fr5 (by simp)) (T.obj _ _ st5)
   have w1 := hg cl G.objs.size fp s2 H2 _ s5 σ' H5 x u _ I5' r5 (step x H5 y5)
   refine wpAny_mono w1 (fun _ s6 ⟨σ6, H6, I6, q6⟩ => ?_) fun v s hv => absurd hv (hE v s)
   obtain ⟨NN, q6, hNN⟩ := q6
   have w2 := he cl G.objs.size fp s2 H2 _ s6 σ6 H6 _ I6 q6
   refine wpAny_mono w2 (fun y s7 ⟨v, H7, I7, r7, q7⟩ => ?_) fun v s hv => absurd hv (hE v s)
   obtain ⟨m', hm', w7⟩ := hNN v H7 q7
   have pinD := I7.pin (s2.heap.objs.size, { cls := .type "list", data := .seq us.toArray k }) (List.mem_append_right _ (List.mem_append_left _ (by simp)))
   obtain ⟨pD, nD, lD, fD, _⟩ := pinD
   refine append_at (hsz := by rw [List.size_toArray, ← rv.length]; exact hlen) pD fun h8 hs8 hD8 => ?_
   have nD : H7 s2.heap.objs.size = none := nD
   have I8 : Inv X' (pinsAt fp s5.heap) σ6 H7 { s7 with heap := h8 } := by
    refine (I7.pins_of (pins' := pinsAt fp s5.heap) fun p hp => I7.pin p (List.mem_append_right _ (List.mem_append_right _ hp))).turned (t' := s7.toks) (it := s2.heap.objs.size) (fun b o hb e => (hs8.2 b hb).trans e) nD lD (.inr (Nat.le_refl _)) (fun x c e z => ?_) fun p hp z => ?_
    ·have q1 := celll x c (c1 x c e)
     have q2 : @Eq Nat c s2.heap.objs.size := z
     omega
    ·have hp' : p ∈ pinsAt fp s5.heap := by simpa [X', cxComp] using hp
     have q1 := fl p.1 (of_pinsAt hp').1
     have q2 : @Eq Nat p.1 s2.heap.objs.size := z
     omega
   have I9 : Inv X' [(s2.heap.objs.size, { cls := .type "list", data := .seq (us ++ [y]).toArray (k + 1) })] σ6 H7 { s7 with heap := h8 } := I8.pins_of fun p hp => by
    have e : p = (s2.heap.objs.size, { cls := .type "list", data := .seq (us ++ [y]).toArray (k + 1) }) := by simpa using hp
    subst e
    refine ⟨by rw [hD8, List.push_toArray], nD, lD, fD, fun v z => by cases z⟩
   refine ⟨m', hm', i + 1, ys ++ [v], us ++ [y], k + 1, σ6, H7, I9, rv.append (.cons r7 .nil), T.keep _ _ _ st5 fun b hb o e => ?_, fun b hb => ?_, by rw [List.length_append, List.length_singleton]; omega, w7⟩
   ·exact (I8.pin (b, o) (List.mem_append_right _ (mem_pinsAt hb e))).1
   ·obtain ⟨o, e, d⟩ := T.obj _ _ st5 b hb
    exact (I8.pin (b, o) (List.mem_append_right _ (mem_pinsAt hb e))).2.1
 exact codeAny_compStart_list (loop _ rfl) (T.self _ 0 _ _ _ hst1 (loop _ rfl))
theorem pe_comp {wi : TI} {g : InBlock TG} {te : InBlock TE} (hE : ∀ v s, ¬ X.xe v s) (hc : X.calm = true) (S : CompScope n N' X scope) (hi : PI X tg iter wi)
  (hg : ∀ cl C ex s H, PG (cxComp X N' scope cl C ex s H) tg (g cl C ex s H)) (he : ∀ cl C ex s H, PE (cxComp X N' scope cl C ex s H) elt (te cl C ex s H))
  (hs : ∀ x, foldedSetIterable iter X.env x = pure x := by intro _; rfl) : PE X (.ListComp elt [⟨tg, iter, [], 0⟩] scope pos) (tComp n wi g te) := by
 intro pins s σ H Q I h
 rw [eval_ListComp]
 obtain ⟨cl, hcl, c1, c2⟩ := closure_ok (scope := scope) (env := X.env) fun x hx hf => I.ok.has x.1 (S.free x hx hf)
 refine wpAny_comprehension_free (use := none) rfl hs hcl S.kind S.names (thn (hi pins s σ H _ I h) fun v s1 h1 => thn h1 fun itv s2 h2 => ?_)
 obtain ⟨it, fp, tn, J, H2, e, I2, T, st2, f2, cok⟩ := h2
 subst e
 refine wpAny_mono (comp_block (pos := pos) (iter := iter) (Q := Q) (E := X.xe) hE hc S c1 c2 I2 T st2 f2 hg he cok) (fun acc s3 h3 => wpAny_mono h3 (fun cenv s4 h4 => codeAny_mono h4 fun r s' hr => ?_) fun _ _ z => z) fun _ _ z => z
 cases r with
 | error e => exact False.elim hr
 | ok f =>
  obtain ⟨D, H', m, rfl, I', hn, ⟨f0, f1, ff, f3, f4, f5⟩, q⟩ := hr
  refine ⟨m, hn, fun h' hs' => ⟨.ref D, H', ?_, rfl, q⟩⟩
  exact I'.turned (t' := s'.toks) (fun b o hb e => (hs'.2 b hb).trans e) f0 f1 f3 f4 f5
theorem ps_setComp {wi : TI} {g : InBlock TG} {te : InBlock TE} {i : Nat} {x : Str} {pos' spos : Pos} (hN : X.N.Nodup) (hi0 : X.N[i]? = some x) (hx : Loc X.env.scope x)
  (hsw : swapsWith (.ListComp elt [⟨tg, iter, [], 0⟩] scope pos) (some (.Name x pos')) spos.line X.env = pure true)
  (hE : ∀ v s, ¬ X.xe v s) (hc : X.calm = true) (S : CompScope n N' X scope) (hi : PI X tg iter wi)
  (hg : ∀ cl C ex s H, PG (cxComp X N' scope cl C ex s H) tg (g cl C ex s H)) (he : ∀ cl C ex s H, PE (cxComp X N' scope cl C ex s H) elt (te cl C ex s H))
  (hs : ∀ x, foldedSetIterable iter X.env x = pure x := by intro _; rfl) (hf : X.fn x = true ∨ X.env.scope.names.lookup x = some .local := by first | exact .inl rfl | exact .inr rfl | assumption) :
  PS X (.Assign [.Name x pos'] (.ListComp elt [⟨tg, iter, [], 0⟩] scope pos) spos) (tAsg (tComp n wi g te) (gName i)) := by
 intro pins s σ H D I h
 rw [exec_Assign_Name_used _ _ _ _ hsw]
 refine wpAny_bind (wpAny_standAt (wpAny_bind ?_))
 obtain ⟨cl, hcl, c1, c2⟩ := closure_ok (scope := scope) (env := X.env) fun x hx hf => I.ok.has x.1 (S.free x hx hf)
 show wpAny _ _ (do let _ ← comprehension (.ListComp elt [⟨tg, iter, [], 0⟩] scope pos) scope X.env _ (newList []) false (eval iter X.env) (some (assign (.Name x pos') X.env))) _ _ s
 refine wpAny_bind (wpAny_mono (wpAny_comprehension_free (use := some (assign (.Name x pos') X.env)) (Q := fun _ s' => SP X pins D .next s') rfl hs hcl S.kind S.names
  (thn (hi pins s σ H _ I h) fun v s1 h1 => thn h1 fun itv s2 h2 => ?_)) (fun _ s' hq => wpAny_pure (wpAny_pure hq)) fun _ _ e => e)
 obtain ⟨it, fp, tn, J, H2, e, I2, T, st2, f2, cok⟩ := h2
 subst e
 refine wpAny_mono (comp_block (pos := pos) (iter := iter) (E := X.xe) (Q := fun x H1 => gName i x σ H1 D.nx) hE hc S c1 c2 I2 T st2 f2 hg he cok) (fun acc s3 h3 => wpAny_mono h3 (fun cenv s4 h4 => codeAny_mono h4 fun r s' hr => ?_) fun _ _ z => z) fun _ _ z => z
 cases r with
 | error e => exact False.elim hr
 | ok f =>
  obtain ⟨Dl, H', m, rfl, I', hn, ⟨f0, f1, ff, f3, f4, f5⟩, q⟩ := hr
  show wpAny _ _ (assign (.Name x pos') X.env (.ref Dl)) _ _ s'
  refine wpAny_assign_Name (store_ok2 I' hN hi0 hx (v := .ref Dl) (u := .ref Dl) rfl (fun s'' I'' hb => ?_) hf)
  obtain ⟨a, sb, ha⟩ := hb
  have hCa : cenv.locals ≠ a := by
   rcases ha with rfl | ha
   ·exact f1
   ·exact fun z => f4 x a ha z.symm
  refine ⟨m, hn.sameBut sb hCa, fun h' hs' => ⟨_, H', ?_, q⟩⟩
  exact I''.turned (t' := s''.toks) (fun b o hb e => (hs'.2 b hb).trans e) f0 f1 f3 f4 f5
end
end L2

set_option Elab.async false
set_option linter.all false
set_option maxRecDepth 100000
set_option maxHeartbeats 4000000
namespace L2
open PySem PySem.Spec PyProof.Rows
section
variable {X : Cx} {tg : Expr}
def Its (z : Str) : It := ⟨fun i _ => i < z.cps.size, fun i H x H' => H' = H ∧ ∃ c, z.cps[i]? = some c ∧ x = .str ⟨#[c]⟩, fun i _ => z.cps.size ≤ i⟩
theorem turn_str {P : Program} {w : World} {K : PySem.W.Frag} {tg : Expr} {T : String} {t : Tok} (it : Addr) (z : Str)
  (hT : T = "str_ascii_iterator" ∨ T = "str_iterator") (W : ∀ A : Around, A.handled = none → Walks P w A it [it] [it] z.cps.size (SignAt z) (fun i h => h.IsStrIter it T z t i)) :
  Turn P w K tg (Its z) [it] it (fun i h => h.IsStrIter it T z t i) where
 mem := by simp
 obj := fun i h st b hb => by
  have e : b = it := by simpa using hb
  subst e
  obtain ⟨o, e, c, d⟩ := st
  exact ⟨o, e, fun v z => by rw [d] at z; cases z⟩
 keep := fun i h h' st k => by
  obtain ⟨o, e, r⟩ := st
  exact ⟨o, k it (by simp) o e, r⟩
 item := by
  intro X hP hw hK hc i pins s σ H E I hf st hg
  subst hP hw hK
  obtain ⟨f0, f1, f2, f3, f4, f5⟩ := hf it (by simp)
  refine (W _ (I.ok.hd hc)).item i s _ _ hg st fun v h' tk hv st' kk => ?_
  obtain ⟨c, u, hcu, rfl⟩ := hv
  have I1 : Inv X pins σ H { s with heap := h', toks := tk } := I.turned (fun b o hb e => kk b o (by simpa using hb) e) f0 f1 f3 f4 f5
  obtain ⟨o, e, cc, d⟩ := id st'
  refine ⟨_, rfl, go_of (s := { s with heap := h', toks := tk }) (n := T) e cc d ?_ ⟨.str ⟨#[c]⟩, H, I1, ⟨u, rfl⟩, ⟨rfl, c, hcu, rfl⟩, st', fun b hb => (hf b hb).1⟩⟩
  rcases hT with rfl | rfl <;> decide
 done := by
  intro X hP hw hK hc i pins s σ H E I hf st hg
  subst hP hw hK
  obtain ⟨f0, f1, f2, f3, f4, f5⟩ := hf it (by simp)
  have hg : z.cps.size ≤ i := hg
  rcases hT with rfl | rfl
  ·exact wpAny_pyNext_ascii_end (I.ok.hd hc) st (by simp; omega) fun h' eb => ⟨rfl, I.turned (t' := s.toks) (fun b o hb e => eb b o hb e) f0 f1 f3 f4 f5⟩
  ·exact wpAny_pyNext_wide_end (I.ok.hd hc) st (by simp; omega) fun h' eb => ⟨rfl, I.turned (t' := s.toks) (fun b o hb e => eb b o hb e) f0 f1 f3 f4 f5⟩
 self := fun A i s Q E st h => by
  rcases hT with rfl | rfl
  ·exact wpAny_pyIter_striter_ascii st h
  ·exact wpAny_pyIter_striter_wide st h
def iStr (tl : TE) : TI := fun σ H R => tl σ H fun x H1 => ∃ z, x = .str z ∧ R (Its z) H1
theorem pi_str {l : Expr} {tl : TE} (hl : PE X l tl) : PI X tg l (iStr tl) := by
 intro pins s σ H R I h
 refine thn (hl pins s σ H _ I h) fun v s1 ⟨x, H1, I1, r1, q1⟩ => ?_
 obtain ⟨z, e, q⟩ := q1
 subst e
 obtain ⟨t, rfl⟩ := r1
 have fin : ∀ (T : String) (o : Obj), (T = "str_ascii_iterator" ∨ T = "str_iterator") → (∀ A : Around, A.handled = none → Walks X.prog X.w A s1.heap.objs.size [s1.heap.objs.size] [s1.heap.objs.size] z.cps.size (SignAt z) (fun i h => h.IsStrIter s1.heap.objs.size T z t i)) →
   (s1.heap.push o).IsStrIter s1.heap.objs.size T z t 0 → PIE X pins σ tg R (.ref s1.heap.objs.size) { s1 with heap := s1.heap.push o } := fun T o hT W st =>
  ⟨s1.heap.objs.size, [s1.heap.objs.size], _, _, H1, rfl, I1.kept (t' := s1.toks) fun b o e => Heap.get?_push_of_some _ e, turn_str _ z hT W, st, fun b hb => by
   have e : b = s1.heap.objs.size := by simpa using hb
   subst e
   exact I1.fpOk (Nat.le_refl _) (I1.hok.fresh (Nat.le_refl _)), q⟩
 cases ha : z.cps.all (· < 128)
 ·exact wpAny_pyIter_wide ha (fin "str_iterator" _ (.inr rfl) (fun A hA => Walks.strWide hA _ z t) ⟨_, Heap.get?_push_size _ rfl, rfl, rfl⟩)
 ·exact wpAny_pyIter_ascii ha (fin "str_ascii_iterator" _ (.inl rfl) (fun A hA => Walks.strAscii hA _ z t) ⟨_, Heap.get?_push_size _ rfl, rfl, rfl⟩)
section forms
variable {J : It} {K : PySem.W.Frag} {a : Addr} {xs : List V} {te : TE} {σ : St} {H : Hp} {Q : VK}
theorem comp_it1 (n : Nat) (Pv : Nat → List V → Hp → Prop) (Vx : Nat → V → Prop) (h0 : Pv 0 [] H) (hz : n ≤ sizeLine) (hgo : ∀ i ys H, i < n → ys.length = i → Pv i ys H → J.go i H ∧ ∀ x H', J.yld i H x H' → H' = H ∧ Vx i x)
  (hstop : ∀ ys H, ys.length = n → Pv n ys H → J.stop n H)
  (hs : ∀ i x ys H, i < n → Vx i x → ys.length = i → Pv i ys H → te (some x :: σ) H fun v H3 => Pv (i + 1) (ys ++ [v]) H3)
  (hd : ∀ ys H, ys.length = n → Pv n ys H → ∀ D, H D = none → Q (.ref D) (upd H D (.lst ys))) : CompOk 1 J (gName 0) te σ H Q := by
 refine ⟨fun i m ys σ' H => m = n - i ∧ i ≤ n ∧ ys.length = i ∧ (∃ o, σ' = o :: σ) ∧ Pv i ys H, ⟨n, by simp, Nat.zero_le _, rfl, ⟨none, rfl⟩, h0⟩, ?_⟩
 rintro i m ys σ' H ⟨rfl, hi, hy, ⟨o, rfl⟩, p⟩
 by_cases hlt : i < n
 ·obtain ⟨g1, g2⟩ := hgo i ys H hlt hy p
  refine .inr ⟨g1, by omega, fun x H' y => ?_⟩
  obtain ⟨e, hx⟩ := g2 x H' y
  subst e
  exact ⟨fun v H3 => Pv (i + 1) (ys ++ [v]) H3, hs i x ys _ hlt hx hy p, fun v H3 h3 => ⟨n - (i + 1), by omega, rfl, hlt, by simp [hy], ⟨_, rfl⟩, h3⟩⟩
 ·obtain rfl : i = n := by omega
  exact .inl ⟨hstop ys H hy p, hd ys H hy p⟩
theorem go_list {i : Nat} (hq : SqL K H a xs) (hlt : i < xs.length) : (Itl K a).go i H ∧ ∀ x H', (Itl K a).yld i H x H' → H' = H ∧ xs[i]? = some x :=
 ⟨⟨xs, xs[i], hq, by simp [hlt]⟩, fun x H' ⟨e, y⟩ => ⟨e, y xs hq⟩⟩
theorem stop_list (hq : SqL K H a xs) : (Itl K a).stop xs.length H := ⟨xs, hq, Nat.le_refl _⟩
theorem go_tup {i : Nat} (hq : SqT K H a xs) (hlt : i < xs.length) : (Itt K a).go i H ∧ ∀ x H', (Itt K a).yld i H x H' → H' = H ∧ xs[i]? = some x :=
 ⟨⟨xs, xs[i], hq, by simp [hlt]⟩, fun x H' ⟨e, y⟩ => ⟨e, y xs hq⟩⟩
theorem stop_tup (hq : SqT K H a xs) : (Itt K a).stop xs.length H := ⟨xs, hq, Nat.le_refl _⟩
theorem go_rng {lo : Int} {n i : Nat} (hlt : i < n) : (Itr lo n).go i H ∧ ∀ x H', (Itr lo n).yld i H x H' → H' = H ∧ x = .int (lo + i) := ⟨hlt, fun _ _ y => y⟩
theorem stop_rng {lo : Int} {n : Nat} : (Itr lo n).stop n H := Nat.le_refl n
theorem go_str {z : Str} {i : Nat} (hlt : i < z.cps.size) : (Its z).go i H ∧ ∀ x H', (Its z).yld i H x H' → H' = H ∧ ∃ c, z.cps[i]? = some c ∧ x = .str ⟨#[c]⟩ := ⟨hlt, fun _ _ y => y⟩
theorem stop_str {z : Str} : (Its z).stop z.cps.size H := Nat.le_refl z.cps.size
end forms
theorem call_allB (hc : X.calm = true) : CallR X (.builtin "all") (fun xs H Q => ∃ (p : Addr) (bs : List Bool), xs = [.ref p] ∧ SqL X.K H p (bs.map V.bl) ∧ Q (.bl (bs.all id)) H) := by
 intro pins s σ H xs us Q I r h
 obtain ⟨p, bs, rfl, hq, q⟩ := h
 obtain ⟨u, rfl, rx⟩ := vals1 r
 cases rx
 obtain ⟨its, r', pl, hz⟩ := I.list hq
 have hlen := r'.length
 rw [List.length_map] at hlen
 have hit : ∀ (i : Nat) (v : Value), its[i]? = some v → ∃ b, bs[i]? = some b ∧ v = Value.bool b := fun i v e => by
  have hi : i < its.length := (List.getElem?_eq_some_iff.mp e).1
  have hb : i < bs.length := by omega
  obtain ⟨u, hu, ru⟩ := r'.get (i := i) (x := V.bl bs[i]) (by simp [hb])
  rw [e] at hu; cases hu
  exact ⟨bs[i], by simp [hb], ru⟩
 refine call_all_walk (wpAny_pyIter_list pl.isList ?_)
 have hp : p < s.heap.objs.size := by obtain ⟨o, n, e, _⟩ := pl; exact Heap.lt_size e
 refine ⟨s.heap.objs.size, [s.heap.objs.size, p], [s.heap.objs.size], its.toArray.size, _, _, fun i => bs.getD i false, rfl, Walks.list (by simpa using I.ok.hd hc) _ p (Nat.ne_of_lt hp) its.toArray, ⟨⟨_, Heap.get?_push_size _ rfl, rfl, rfl⟩, pl.isList.push _⟩, fun i v s Q E hP hQ => ?_, fun h' tk kk => ?_⟩
 ·obtain ⟨b, hb, rfl⟩ := hit i v (by simpa using hP)
  have e : bs.getD i false = b := by simp [List.getD, hb]
  have hQ' : Q (bs.getD i false) s := hQ
  rw [e] at hQ'
  exact wpAny_truthy_bool hQ'
 ·have e : ((List.range its.toArray.size).all fun i => bs.getD i false) = bs.all id := by
   rw [List.size_toArray, ← hlen]
   rw [Bool.eq_iff_iff, List.all_eq_true, List.all_eq_true]
   constructor
   ·intro h b hb
    obtain ⟨i, hi, rfl⟩ := List.mem_iff_getElem.mp hb
    have := h i (List.mem_range.mpr hi)
    simpa [List.getD, hi] using this
   ·intro h i hi
    have hi' := List.mem_range.mp hi
    have := h bs[i] (List.getElem_mem hi')
    simpa [List.getD, hi'] using this
  refine ⟨.bl (bs.all id), H, ?_, by rw [e]; rfl, q⟩
  exact I.kept fun b o eb => kk b o (fun z => Nat.ne_of_lt (Heap.lt_size eb) (by simpa using z)) (Heap.get?_push_of_some _ eb)
end
end L2

set_option Elab.async false
set_option linter.all false
set_option maxRecDepth 100000
set_option maxHeartbeats 8000000
namespace L2
open PySem PySem.Spec PyProof.Rows
def stepS (σ : List Str) (v : Str) : List Str := if σ.any (· == v) then σ else σ ++ [v]
def metS (val : Nat → Str) (i : Nat) : List Str := ((List.range i).map val).foldl stepS []
theorem metS_succ (val : Nat → Str) (i : Nat) : metS val (i + 1) = stepS (metS val i) (val i) := by
 unfold metS; rw [List.range_succ, List.map_append, List.foldl_append]; rfl
theorem metS_length_le (val : Nat → Str) : ∀ i, (metS val i).length ≤ i
 | 0 => Nat.le_refl _
 | i + 1 => by
  rw [metS_succ]; unfold stepS
  have ih := metS_length_le val i
  split
  ·omega
  ·rw [List.length_append, List.length_singleton]; omega
theorem stepS_any (σ : List Str) (v k : Str) : (stepS σ v).any (· == k) = (σ.any (· == k) || decide (k = v)) := by
 unfold stepS
 by_cases h : σ.any (· == v) = true
 ·rw [if_pos h]
  by_cases e : k = v
  ·subst e; rw [h]; simp
  ·simp [e]
 ·rw [if_neg h, List.any_append]
  by_cases e : k = v
  ·subst e; simp
  ·have hb : (v == k) = false := by
    rw [beq_eq_false_iff_ne]; exact fun h' => e h'.symm
   simp [hb, e]
theorem stepS_length (σ : List Str) (v : Str) : (stepS σ v).length = if σ.any (· == v) then σ.length else σ.length + 1 := by
 unfold stepS; split <;> simp
section
variable {prog : Program} {w : World} {A : Around} {R : Result → Shared → Prop} {I : Addr} {fp wr : List Addr} {G : Array GenState → Array GenState → Prop} {n : Nat} {P : Nat → Value → Prop} {St : Nat → Shared → Prop}
theorem set_loopS (W : WalksS prog w A.in1 I fp wr G n P St) (S : Addr) (hSf : S ∉ fp)
  (val : Nat → Str) (hval : ∀ i v, P i v → ∃ t, v = .str (val i) t) (hb : n + 1 < scanBound) :
  ∀ (k i : Nat) (s : Shared), n - i = k → i ≤ n → St i s →
   s.heap.SetOf (PySem.strKind prog w) S (fun k' => (metS val i).any (· == k')) (metS val i).length →
   (∀ s', Moved (S :: wr) G s s' → s'.heap.SetOf (PySem.strKind prog w) S (fun k' => (metS val n).any (· == k')) (metS val n).length → R (.ok (.ret .none)) s') →
   codeAny (model prog w) A (.builtin "set.update.loop" ⟨[.ref S, .ref I], []⟩) R s := by
 have hSw : S ∉ wr := fun h => hSf (W.sub _ h)
 have hsub : ∀ b ∈ wr, b ∈ S :: wr := fun b hb => List.mem_cons_of_mem _ hb
 intro k
 induction k with
 | zero =>
  intro i s hk hi hst hS hR
  have hin : i = n := by omega
  subst hin
  refine codeAny_builtin PyProof.Rows.F.entry_set_update_loop ?_
  rw [Around.under_plainId PyProof.Rows.F.plain_set_update_loop _]
  show wpAny _ A.in1 (pyNext (.ref I) >>= _) _ _ s
  refine wpAny_bind (W.done s _ _ hst fun s' hm => ?_)
  show wpAny _ A.in1 (ret Value.none) _ _ s'
  exact wpAny_pure (hR s' (hm.mono hsub) (by
   obtain ⟨o, es, ep, t, ho, rest⟩ := hS
   exact ⟨o, es, ep, t, hm.heap S _ hSw ho, rest⟩))
 | succ k ih =>
  intro i s hk hi hst hS hR
  have hlt : i < n := by omega
  refine codeAny_builtin PyProof.Rows.F.entry_set_update_loop ?_
  rw [Around.under_plainId PyProof.Rows.F.plain_set_update_loop _]
  show wpAny _ A.in1 (pyNext (.ref I) >>= _) _ _ s
  refine wpAny_bind (W.item i s _ _ hlt hst fun v s' hP hst' hm => ?_)
  obtain ⟨t, rfl⟩ := hval i v hP
  have hS' : s'.heap.SetOf (PySem.strKind prog w) S (fun k' => (metS val i).any (· == k')) (metS val i).length := by
   obtain ⟨o, es, ep, tb, ho, rest⟩ := hS
   exact ⟨o, es, ep, tb, hm.heap S _ hSw ho, rest⟩
  have his : (PySem.strKind prog w).is (val i) (.str (val i) t) = true := by show Value.isStrOf (val i) (.str (val i) t) = true; simp [Value.isStrOf]
  show wpAny _ A.in1 (holding [Value.str (val i) t] (setAdd S (.str (val i) t)) >>= _) _ _ s'
  refine wpAny_bind (wpAny_holding ?_)
  unfold setAdd
  refine wpAny_holding ?_
  refine wpAny_bind ((PySem.strKind prog w).pyHash (k := val i) his ?_)
  have hroom : (metS val i).length + 1 < scanBound := by have := metS_length_le val i; omega
  refine wpAny_setAddHashed_of (knd := PySem.strKind prog w) (s := { s' with toks := s'.toks + 1 }) his rfl hS' hroom fun h' hsb hS2 => ?_
  have hSi : h'.SetOf (PySem.strKind prog w) S (fun k' => (metS val (i + 1)).any (· == k')) (metS val (i + 1)).length :=
   SetOf_congr hS2 (fun k' => by rw [metS_succ, stepS_any]) (by rw [metS_succ, stepS_length])
  refine wpAny_pure ⟨plainId_quiet PyProof.Rows.F.plain_set_update_loop _, ih (i + 1) _ (by omega) hlt (W.frame _ s' _ _ hst' (Nat.le_succ _) fun b hb o e => ?_) hSi fun s'' hm'' hS'' => ?_⟩
  ·rw [hsb.2 b (fun h : b = S => hSf (by rw [← h]; exact hb))]; exact e
  ·refine hR s'' (Moved.trans W.gtrans ((hm.mono hsub).then_heap (Nat.le_succ _) fun b o hb e => ?_) hm'') hS''
   rw [hsb.2 b (fun h : b = S => hb (by rw [h]; exact List.mem_cons_self))]; exact e
end
open Sem (wp)
theorem sub_list_setS : isSubtype (.type "list") (.type "set") = pure false := by rw [isSubtype_type]; kernel_rfl
theorem sub_list_frozensetS : isSubtype (.type "list") (.type "frozenset") = pure false := by rw [isSubtype_type]; kernel_rfl
theorem call_set_listS {prog : Program} {w : World} {A : Around} {E : Value → Shared → Prop} {s : Shared} {l : Addr} {items : Array Value} {val : Nat → Str} {Q : Value → Shared → Prop}
  (hh : A.handled = none) (hl : s.heap.IsList l items) (hi : ∀ (i : Nat) (v : Value), items[i]? = some v → ∃ t, v = .str (val i) t) (hb : items.size + 1 < scanBound)
  (h : ∀ (h' : Heap) (tk : Nat), h'.SetOf (PySem.strKind prog w) s.heap.objs.size (fun k' => (metS val items.size).any (· == k')) (metS val items.size).length →
   (∀ b o, b < s.heap.objs.size → s.heap.get? b = some o → h'.get? b = some o) → Q (.ref s.heap.objs.size) { s with heap := h', toks := tk }) :
  wpAny (model prog w) A (call (.type "set") [.ref l]) Q E s := by
 obtain ⟨c, tl, hmro⟩ := PySem.F.called_set.mro
 have hmade := PySem.F.called_set.made
 have hsub := PySem.F.called_set.sub
 refine wpAny_call (codeAny_of_tree ?_)
 show wpAny _ _ (callAny (.type "set") _) _ _ _
 refine wpAny_pure ⟨Code.quiet_builtin _ (by decide +kernel), codeAny_builtin PySem.F.entry_type_call ?_⟩
 rw [Around.under_plain (weight_type_call_type "set" [.ref l] []) rfl]
 have h1 := PySem.F.called_set.notType
 have h2 := PySem.F.called_set.canCreate
 have hct := PySem.F.typeCall_set_1 (.ref l)
 repeat (any_goals (first | assumption | wp_step))
 refine codeAny_mono (code_set_new_1 (.ref l) (E := E) (Q₁ := fun obj s₁ => ∃ led : Bool, obj = .ref s.heap.objs.size ∧ s₁ = { s with heap := s.heap.push { cls := .type "set", dict := none, data := .set #[] 0 (.fresh 0 0 led) } }) fun led => ⟨led, rfl, rfl⟩) fun r s₁ hr => ?_
 cases r with
 | error e => exact hr
 | ok fl =>
  cases fl with
  | ret obj =>
   obtain ⟨led, rfl, rfl⟩ := hr
   have hS : (s.heap.push { cls := .type "set", dict := none, data := .set #[] 0 (.fresh 0 0 led) }).get? s.heap.objs.size = some { cls := .type "set", dict := none, data := .set #[] 0 (.fresh 0 0 led) } := Heap.get?_push_size _ rfl
   have hT : Shared.TypeIs { s with heap := s.heap.push { cls := .type "set", dict := none, data := .set #[] 0 (.fresh 0 0 led) } } (.ref s.heap.objs.size) "set" := ⟨_, hS, rfl⟩
   have hli := PySem.F.called_set.init.lookup
   have hbi := PySem.F.called_set.init.bind (.ref s.heap.objs.size)
   repeat (any_goals (first | assumption | wp_step))
   refine codeAny_mono (codeAny_call_builtin (R := wants (fun r s₂ => r = .none ∧ ∃ h' tk, s₂ = { s with heap := h', toks := tk } ∧
     h'.SetOf (PySem.strKind prog w) s.heap.objs.size (fun k' => (metS val items.size).any (· == k')) (metS val items.size).length ∧
     (∀ b o, b < s.heap.objs.size → s.heap.get? b = some o → h'.get? b = some o)) E) PySem.F.called_set.init.plain PySem.F.entry_set_init (check_set_init_1 hT ?_)) fun r₂ s₂ hr₂ => ?_
   ·obtain ⟨ol, hol, hcl, nl, hdl⟩ := hl
    obtain ⟨ocls, odict, odata, oslots⟩ := ol
    simp only at hcl hdl
    subst hcl; subst hdl
    have hol' : (s.heap.push { cls := .type "set", dict := none, data := .set #[] 0 (.fresh 0 0 led) }).get? l = some { cls := .type "list", dict := odict, data := .seq items nl, slots := oslots } := Heap.get?_push_of_some _ hol
    have hsls := sub_list_setS
    have hslf := sub_list_frozensetS
    have hne : (Value.type "list" == Value.type "dict") = false := by decide
    have hl1 : (s.heap.push { cls := .type "set", dict := none, data := .set #[] 0 (.fresh 0 0 led) }).IsList l items := ⟨_, hol', rfl, nl, rfl⟩
    unfold Builtin.«set.__init__» noKeywords Builtin.Frozenset.updateFrom
    generalize hPI : pyIter = PI
    wp_walk
    subst hPI
    refine wpAny_pyIter_list hl1 ?_
    refine wpAny_bind (wpAny_runValue ?_)
    have hlS : l < s.heap.objs.size := Heap.lt_size hol
    have hh3 : A.in1.in1.in1.handled = none := by simp [hh]
    have hneI : l ≠ (s.heap.push { cls := .type "set", dict := none, data := .set #[] 0 (.fresh 0 0 led) }).objs.size := by
     rw [Heap.size_push]; exact Nat.ne_of_lt (Nat.lt_succ_of_lt hlS)
    have hSf : s.heap.objs.size ∉ [(s.heap.push { cls := .type "set", dict := none, data := .set #[] 0 (.fresh 0 0 led) }).objs.size, l] := by
     rw [Heap.size_push]; simp only [List.mem_cons, List.mem_singleton, List.not_mem_nil, or_false, not_or]
     exact ⟨Nat.ne_of_lt (Nat.lt_succ_self _), Nat.ne_of_gt hlS⟩
    refine set_loopS ((Walks.list hh3 _ l hneI items).toS) s.heap.objs.size
     hSf val hi hb (items.size - 0) 0 _ (by omega) (Nat.zero_le _)
     ⟨⟨_, Heap.get?_push_size _ rfl, rfl, rfl⟩, (hl1.push _)⟩ ?hS0 ?hR
    case hS0 =>
     have hget : ((s.heap.push { cls := .type "set", dict := none, data := .set #[] 0 (.fresh 0 0 led) }).push { cls := .type "list_iterator", data := .fields #[.ref l, .int 0 0] }).get? s.heap.objs.size
       = some { cls := .type "set", dict := none, data := .set #[] 0 (.fresh 0 0 led) } := Heap.get?_push_of_some _ hS
     exact PyProof.Rows.SetOf_congr ((PyProof.Rows.setObjOf_fresh (knd := PySem.strKind prog w) led).setOf hget (by unfold scanBound; omega)) (fun _ => rfl) rfl
    case hR =>
     intro s' hm hS'
     obtain ⟨h', g', d', tk', os'⟩ := s'
     have eg : g' = s.gens := hm.gens
     have ed : d' = s.drawn := hm.drawn
     have eo : os' = s.os := hm.os
     subst eg; subst ed; subst eo
     show wpAny _ _ _ _ _ _
     refine wpAny_pure ?_
     show wpAny _ _ (ret Value.none) _ _ _
     refine wpAny_pure ⟨rfl, h', tk', rfl, hS', fun b o hb e => ?_⟩
     have hb1 : b ≠ s.heap.objs.size := Nat.ne_of_lt hb
     have hb2 : b ≠ (s.heap.push { cls := .type "set", dict := none, data := .set #[] 0 (.fresh 0 0 led) }).objs.size := by
      rw [Heap.size_push]; exact Nat.ne_of_lt (Nat.lt_succ_of_lt hb)
     exact hm.heap b o (by simp only [List.mem_cons, List.mem_singleton, List.not_mem_nil, or_false, not_or]; exact ⟨hb1, hb2⟩) (Heap.get?_push_of_some _ (Heap.get?_push_of_some _ e))
   ·cases r₂ with
    | error e => exact hr₂
    | ok fl₂ =>
     cases fl₂ with
     | ret r =>
      obtain ⟨rfl, h', tk, rfl, hS', hk'⟩ := hr₂
      repeat (any_goals (first | assumption | wp_step))
      exact h _ _ hS' hk'
     | _ => exact hr₂.elim
  | _ => exact hr.elim
theorem sub_tuple_setS : isSubtype (.type "tuple") (.type "set") = pure false := by rw [isSubtype_type]; kernel_rfl
theorem sub_tuple_frozensetS : isSubtype (.type "tuple") (.type "frozenset") = pure false := by rw [isSubtype_type]; kernel_rfl
theorem call_set_tupleS {prog : Program} {w : World} {A : Around} {E : Value → Shared → Prop} {s : Shared} {l : Addr} {items : Array Value} {val : Nat → Str} {Q : Value → Shared → Prop}
  (hh : A.handled = none) (hl : s.heap.IsTuple l items) (hi : ∀ (i : Nat) (v : Value), items[i]? = some v → ∃ t, v = .str (val i) t) (hb : items.size + 1 < scanBound)
  (h : ∀ (h' : Heap) (tk : Nat), h'.SetOf (PySem.strKind prog w) s.heap.objs.size (fun k' => (metS val items.size).any (· == k')) (metS val items.size).length →
   (∀ b o, b < s.heap.objs.size → s.heap.get? b = some o → h'.get? b = some o) → Q (.ref s.heap.objs.size) { s with heap := h', toks := tk }) :
  wpAny (model prog w) A (call (.type "set") [.ref l]) Q E s := by
 obtain ⟨c, tl, hmro⟩ := PySem.F.called_set.mro
 have hmade := PySem.F.called_set.made
 have hsub := PySem.F.called_set.sub
 refine wpAny_call (codeAny_of_tree ?_)
 show wpAny _ _ (callAny (.type "set") _) _ _ _
 refine wpAny_pure ⟨Code.quiet_builtin _ (by decide +kernel), codeAny_builtin PySem.F.entry_type_call ?_⟩
 rw [Around.under_plain (weight_type_call_type "set" [.ref l] []) rfl]
 have h1 := PySem.F.called_set.notType
 have h2 := PySem.F.called_set.canCreate
 have hct := PySem.F.typeCall_set_1 (.ref l)
 repeat (any_goals (first | assumption | wp_step))
 refine codeAny_mono (code_set_new_1 (.ref l) (E := E) (Q₁ := fun obj s₁ => ∃ led : Bool, obj = .ref s.heap.objs.size ∧ s₁ = { s with heap := s.heap.push { cls := .type "set", dict := none, data := .set #[] 0 (.fresh 0 0 led) } }) fun led => ⟨led, rfl, rfl⟩) fun r s₁ hr => ?_
 cases r with
 | error e => exact hr
 | ok fl =>
  cases fl with
  | ret obj =>
   obtain ⟨led, rfl, rfl⟩ := hr
   have hS : (s.heap.push { cls := .type "set", dict := none, data := .set #[] 0 (.fresh 0 0 led) }).get? s.heap.objs.size = some { cls := .type "set", dict := none, data := .set #[] 0 (.fresh 0 0 led) } := Heap.get?_push_size _ rfl
   have hT : Shared.TypeIs { s with heap := s.heap.push { cls := .type "set", dict := none, data := .set #[] 0 (.fresh 0 0 led) } } (.ref s.heap.objs.size) "set" := ⟨_, hS, rfl⟩
   have hli := PySem.F.called_set.init.lookup
   have hbi := PySem.F.called_set.init.bind (.ref s.heap.objs.size)
   repeat (any_goals (first | assumption | wp_step))
   refine codeAny_mono (codeAny_call_builtin (R := wants (fun r s₂ => r = .none ∧ ∃ h' tk, s₂ = { s with heap := h', toks := tk } ∧
     h'.SetOf (PySem.strKind prog w) s.heap.objs.size (fun k' => (metS val items.size).any (· == k')) (metS val items.size).length ∧
     (∀ b o, b < s.heap.objs.size → s.heap.get? b = some o → h'.get? b = some o)) E) PySem.F.called_set.init.plain PySem.F.entry_set_init (check_set_init_1 hT ?_)) fun r₂ s₂ hr₂ => ?_
   ·obtain ⟨ol, hol, hcl, nl, hdl⟩ := hl
    obtain ⟨ocls, odict, odata, oslots⟩ := ol
    simp only at hcl hdl
    subst hcl; subst hdl
    have hol' : (s.heap.push { cls := .type "set", dict := none, data := .set #[] 0 (.fresh 0 0 led) }).get? l = some { cls := .type "tuple", dict := odict, data := .seq items nl, slots := oslots } := Heap.get?_push_of_some _ hol
    have hsls := sub_tuple_setS
    have hslf := sub_tuple_frozensetS
    have hne : (Value.type "tuple" == Value.type "dict") = false := by decide
    have hl1 : (s.heap.push { cls := .type "set", dict := none, data := .set #[] 0 (.fresh 0 0 led) }).IsTuple l items := ⟨_, hol', rfl, nl, rfl⟩
    unfold Builtin.«set.__init__» noKeywords Builtin.Frozenset.updateFrom
    generalize hPI : pyIter = PI
    wp_walk
    subst hPI
    refine wpAny_pyIter_tuple hl1 ?_
    refine wpAny_bind (wpAny_runValue ?_)
    have hlS : l < s.heap.objs.size := Heap.lt_size hol
    have hh3 : A.in1.in1.in1.handled = none := by simp [hh]
    have hneI : l ≠ (s.heap.push { cls := .type "set", dict := none, data := .set #[] 0 (.fresh 0 0 led) }).objs.size := by
     rw [Heap.size_push]; exact Nat.ne_of_lt (Nat.lt_succ_of_lt hlS)
    have hSf : s.heap.objs.size ∉ [(s.heap.push { cls := .type "set", dict := none, data := .set #[] 0 (.fresh 0 0 led) }).objs.size, l] := by
     rw [Heap.size_push]; simp only [List.mem_cons, List.mem_singleton, List.not_mem_nil, or_false, not_or]
     exact ⟨Nat.ne_of_lt (Nat.lt_succ_self _), Nat.ne_of_gt hlS⟩
    refine set_loopS ((Walks.tuple hh3 _ l hneI items).toS) s.heap.objs.size
     hSf val hi hb (items.size - 0) 0 _ (by omega) (Nat.zero_le _)
     ⟨⟨_, Heap.get?_push_size _ rfl, rfl, rfl⟩, (hl1.push _)⟩ ?hS0 ?hR
    case hS0 =>
     have hget : ((s.heap.push { cls := .type "set", dict := none, data := .set #[] 0 (.fresh 0 0 led) }).push { cls := .type "tuple_iterator", data := .fields #[.ref l, .int 0 0] }).get? s.heap.objs.size
       = some { cls := .type "set", dict := none, data := .set #[] 0 (.fresh 0 0 led) } := Heap.get?_push_of_some _ hS
     exact PyProof.Rows.SetOf_congr ((PyProof.Rows.setObjOf_fresh (knd := PySem.strKind prog w) led).setOf hget (by unfold scanBound; omega)) (fun _ => rfl) rfl
    case hR =>
     intro s' hm hS'
     obtain ⟨h', g', d', tk', os'⟩ := s'
     have eg : g' = s.gens := hm.gens
     have ed : d' = s.drawn := hm.drawn
     have eo : os' = s.os := hm.os
     subst eg; subst ed; subst eo
     show wpAny _ _ _ _ _ _
     refine wpAny_pure ?_
     show wpAny _ _ (ret Value.none) _ _ _
     refine wpAny_pure ⟨rfl, h', tk', rfl, hS', fun b o hb e => ?_⟩
     have hb1 : b ≠ s.heap.objs.size := Nat.ne_of_lt hb
     have hb2 : b ≠ (s.heap.push { cls := .type "set", dict := none, data := .set #[] 0 (.fresh 0 0 led) }).objs.size := by
      rw [Heap.size_push]; exact Nat.ne_of_lt (Nat.lt_succ_of_lt hb)
     exact hm.heap b o (by simp only [List.mem_cons, List.mem_singleton, List.not_mem_nil, or_false, not_or]; exact ⟨hb1, hb2⟩) (Heap.get?_push_of_some _ (Heap.get?_push_of_some _ e))
   ·cases r₂ with
    | error e => exact hr₂
    | ok fl₂ =>
     cases fl₂ with
     | ret r =>
      obtain ⟨rfl, h', tk, rfl, hS', hk'⟩ := hr₂
      repeat (any_goals (first | assumption | wp_step))
      exact h _ _ hS' hk'
     | _ => exact hr₂.elim
  | _ => exact hr.elim
end L2

set_option Elab.async false
set_option linter.all false
set_option maxRecDepth 100000
set_option maxHeartbeats 8000000
namespace L2
open PySem PySem.Spec PyProof.Rows
def SetT (P : Program) (w : World) (p : Addr) (xs : List Str) : HO := HO.ext fun h => h.SetOf (PySem.strKind P w) p (fun k => (xs.foldl stepS []).any (· == k)) (xs.foldl stepS []).length
theorem metS_list (xs : List Str) : metS (fun i => xs.getD i Str.empty) xs.length = xs.foldl stepS [] := by
 unfold metS
 congr 1
 apply List.ext_getElem
 ·simp
 ·intro i h1 h2
  simp [List.getD, h2]
theorem strs_get {xs : List Str} {its : List Value} (r : Vals (xs.map V.str) its) : ∀ (i : Nat) (v : Value), its.toArray[i]? = some v → ∃ t, v = .str (xs.getD i Str.empty) t := fun i v e => by
 have hlen := r.length
 rw [List.length_map] at hlen
 have e : its[i]? = some v := by simpa using e
 have hi : i < its.length := (List.getElem?_eq_some_iff.mp e).1
 have hb : i < xs.length := by omega
 obtain ⟨u, hu, ru⟩ := r.get (i := i) (x := V.str xs[i]) (by simp [hb])
 rw [e] at hu; cases hu
 obtain ⟨t, rfl⟩ := ru
 exact ⟨t, by simp [List.getD, hb]⟩
section
variable {X : Cx}
theorem call_setT (hc : X.calm = true) : CallR X (.type "set") (fun xs H Q => ∃ (p : Addr) (ys : List Str), xs = [.ref p] ∧ (SqL X.K H p (ys.map V.str) ∨ SqT X.K H p (ys.map V.str)) ∧ ys.length + 1 < scanBound ∧ ∀ d, H d = none → Q (.ref d) (upd H d (SetT X.prog X.w d ys))) := by
 intro pins s σ H xs us Q I r h
 obtain ⟨p, ys, rfl, hq, hb, q⟩ := h
 obtain ⟨u, rfl, rx⟩ := vals1 r
 cases rx
 have fin : ∀ (its : List Value), ys.length = its.length → ∀ (h' : Heap) (tk : Nat), h'.SetOf (PySem.strKind X.prog X.w) s.heap.objs.size (fun k' => (metS (fun i => ys.getD i Str.empty) its.toArray.size).any (· == k')) (metS (fun i => ys.getD i Str.empty) its.toArray.size).length →
   (∀ b o, b < s.heap.objs.size → s.heap.get? b = some o → h'.get? b = some o) → EP X pins σ Q (.ref s.heap.objs.size) { s with heap := h', toks := tk } := fun its hl h' tk hS kk => by
  have esz : its.toArray.size = ys.length := by rw [List.size_toArray, hl]
  rw [esz, metS_list] at hS
  refine ⟨.ref s.heap.objs.size, _, I.laid (t' := tk) (fun b o e => kk b o (Heap.lt_size e) e) (Nat.le_refl _) ?_, rfl, q _ (I.hok.fresh (Nat.le_refl _))⟩
  refine ⟨hS, ?_, fun h1 h2 a b => ?_⟩
  ·obtain ⟨o, es, ep, t, ho, _⟩ := hS
   exact ⟨o, ho⟩
  ·obtain ⟨o, es, ep, t, ho, rest⟩ := a
   exact ⟨o, es, ep, t, b o ho, rest⟩
 rcases hq with hq | hq
 ·obtain ⟨its, r', pl, hz⟩ := I.list hq
  have hlen := r'.length
  rw [List.length_map] at hlen
  exact call_set_listS (val := fun i => ys.getD i Str.empty) (I.ok.hd hc) pl.isList (strs_get r') (by rw [List.size_toArray]; omega) (fin its hlen)
 ·obtain ⟨its, r', pl, hz⟩ := I.tuple hq
  have hlen := r'.length
  rw [List.length_map] at hlen
  exact call_set_tupleS (val := fun i => ys.getD i Str.empty) (I.ok.hd hc) pl (strs_get r') (by rw [List.size_toArray]; omega) (fin its hlen)
theorem call_lenT : CallR X (.builtin "len") (fun xs H Q => ∃ (p : Addr) (ys : List Str), xs = [.ref p] ∧ H p = some (SetT X.prog X.w p ys) ∧ Q (.int (ys.foldl stepS []).length) H) := by
 intro pins s σ H xs us Q I r h
 obtain ⟨p, ys, rfl, hp, q⟩ := h
 obtain ⟨u, rfl, rx⟩ := vals1 r
 cases rx
 obtain ⟨hS, _, _⟩ := I.hok p _ hp
 have hS : s.heap.SetOf (PySem.strKind X.prog X.w) p (fun k => (ys.foldl stepS []).any (· == k)) (ys.foldl stepS []).length := hS
 obtain ⟨o, es, ep, t, ho, hex, hd, _, _, hsb, hf, hn⟩ := hS
 refine call_len_set ho hex hd hf (by unfold scanBound at hsb; omega) ⟨.int (ys.foldl stepS []).length, H, I.tok _, ⟨_, by rw [hn]⟩, q⟩
end
theorem foldS_nodup : ∀ (xs σ : List Str), xs.Nodup → (∀ x ∈ xs, ¬ x ∈ σ) → (xs.foldl stepS σ).length = σ.length + xs.length
 | [], σ, _, _ => by simp
 | x :: r, σ, h, hn => by
  obtain ⟨h1, h2⟩ := List.nodup_cons.mp h
  have e : stepS σ x = σ ++ [x] := by
   unfold stepS
   rw [if_neg]
   intro z
   obtain ⟨y, hy, e⟩ := List.any_eq_true.mp z
   exact hn x List.mem_cons_self (by rw [← eq_of_beq e]; exact hy)
  rw [List.foldl_cons, e, foldS_nodup r _ h2 fun y hy z => ?_]
  ·simp; omega
  ·rcases List.mem_append.mp z with q | q
   ·exact hn y (List.mem_cons_of_mem _ hy) q
   ·exact h1 (by rw [← List.mem_singleton.mp q]; exact hy)
section
variable {X : Cx}
mutual
inductive RdsV (H : Hp) : V → PyData → Prop where
 | non : RdsV H .non .none
 | bl (b : Bool) : RdsV H (.bl b) (.bool b)
 | int (i : Int) : RdsV H (.int i) (.int i)
 | str (x : Str) : RdsV H (.str x) (.str x)
 | lst {a : Addr} {xs : List V} {ds : List PyData} : H a = some (.lst xs) → RdsA H xs ds → RdsV H (.ref a) (.list ds)
 | tup {a : Addr} {xs : List V} {ds : List PyData} : H a = some (.tup xs) → RdsA H xs ds → RdsV H (.ref a) (.tuple ds)
inductive RdsA (H : Hp) : List V → List PyData → Prop where
 | nil : RdsA H [] []
 | cons {x : V} {xs : List V} {d : PyData} {ds : List PyData} : RdsV H x d → RdsA H xs ds → RdsA H (x :: xs) (d :: ds)
end
mutual
theorem RdsV.reads {P : Program} {w : World} {H : Hp} {h : Heap} (ok : HOk P w H h) : ∀ {x : V} {d : PyData}, RdsV H x d → ∀ {u : Value}, RelV x u → ∃ as, Reads h u d as
 | _, _, .non, u, r => by cases r; exact ⟨_, .none⟩
 | _, _, .bl b, u, r => by cases r; exact ⟨_, .bool b⟩
 | _, _, .int i, u, r => by obtain ⟨t, rfl⟩ := r; exact ⟨_, .int i t⟩
 | _, _, .str x, u, r => by obtain ⟨t, rfl⟩ := r; exact ⟨_, .str x t⟩
 | _, _, .lst (a := a) e z, u, r => by
  cases r
  obtain ⟨_, its, n, rv, e1⟩ := ok a _ e
  obtain ⟨as, q⟩ := RdsA.reads ok z rv
  exact ⟨_, .list e1 rfl rfl (by simpa using q)⟩
 | _, _, .tup (a := a) e z, u, r => by
  cases r
  obtain ⟨_, its, rv, o, e1, e2, n, e3⟩ := ok a _ e
  obtain ⟨as, q⟩ := RdsA.reads ok z rv
  exact ⟨_, .tuple e1 e2 e3 (by simpa using q)⟩
theorem RdsA.reads {P : Program} {w : World} {H : Hp} {h : Heap} (ok : HOk P w H h) : ∀ {xs : List V} {ds : List PyData}, RdsA H xs ds → ∀ {us : List Value}, Vals xs us → ∃ as, ReadsAll h us ds as
 | _, _, .nil, _, .nil => ⟨_, .nil⟩
 | _, _, .cons a b, _, .cons r t => by
  obtain ⟨as, q1⟩ := RdsV.reads ok a r
  obtain ⟨bs, q2⟩ := RdsA.reads ok b t
  exact ⟨_, .cons q1 q2⟩
end
theorem call_reprD {k : Nat} (hr : Room k X.A) : CallR X (.builtin "repr") (fun xs H Q => ∃ (p : Addr) (d : PyData), xs = [.ref p] ∧ RdsV H (.ref p) d ∧ d.showable = true ∧ d.hasDict = false ∧ d.depth ≤ 60 ∧ d.shown.length ≤ sizeLine ∧ Q (.str d.shown) H) := by
 intro pins s σ H xs us Q I r h
 obtain ⟨p, d, rfl, hd, h1, h2, h3, h4, q⟩ := h
 obtain ⟨u, rfl, rx⟩ := vals1 r
 cases rx
 obtain ⟨as, rd⟩ := hd.reads I.hok (u := .ref p) rfl
 have hu := hr.units
 refine repr_of_reads' (h₀ := s.heap) rd h1 (fun z => by rw [h2] at z; cases z) hr.gd (by omega) (fun _ _ e => e) (fun h' u tk kk => ⟨.str d.shown, H, I.kept kk, ⟨u, rfl⟩, q⟩) h4
theorem call_isiT {T : String} : CallR X (.builtin "isinstance") (fun xs H Q => ∃ (x : V) (t : Value) (b : Bool), xs = [x, .ty T] ∧ TyOf X.K H x t ∧ PySem.W.kitOne X.K t (.type T) = some b ∧ Q (.bl b) H) := by
 intro pins s σ H xs us Q I r h
 obtain ⟨x, t, b, rfl, ty, e, q⟩ := h
 obtain ⟨u, u', rfl, rx, ry⟩ := vals2 r
 cases ry
 exact isinst_ok I rx ty e fun tk => ⟨.bl b, H, I.tok tk, rfl, q⟩
theorem isinst_tup {pins : List (Addr × Obj)} {σ : St} {H : Hp} {s : Shared} {A : Around} {E : Value → Shared → Prop} {Q : Value → Shared → Prop} {b : Bool} {x : V} {u t : Value} {tp : Addr} {cs : List Value} (I : Inv X pins σ H s) (rx : RelV x u) (ty : TyOf X.K H x t)
  (htp : ∃ (dd : Option Addr) (n : Nat) (sl : Array (Option Value)), s.heap.get? tp = some ⟨.type "tuple", dd, .seq cs.toArray n, sl⟩) (e : PySem.W.kitAny X.K t cs = some b) (h : ∀ tk, Q (.bool b) { s with toks := tk }) :
  wpAny (model X.prog X.w) A (call (.builtin "isinstance") [u, .ref tp]) Q E s := by
 obtain ⟨dd, n, sl, htp⟩ := htp
 cases ty with
 | non => cases (show u = Value.none from rx); exact PySem.W.kia_tup PySem.W.kitx_none I.kIn True.intro htp e (fun z => nomatch z) h
 | bl y => cases (show u = Value.bool y from rx); exact PySem.W.kia_tup PySem.W.kitx_bool I.kIn True.intro htp e (fun z => nomatch z) h
 | int i => obtain ⟨t, q⟩ := (show ∃ t, u = Value.int i t from rx); cases q; exact PySem.W.kia_tup PySem.W.kitx_int I.kIn True.intro htp e (fun z => nomatch z) h
 | str y => obtain ⟨t, q⟩ := (show ∃ t, u = Value.str y t from rx); cases q; exact PySem.W.kia_tup PySem.W.kitx_str I.kIn True.intro htp e (fun z => nomatch z) h
 | flt y => obtain ⟨t, q⟩ := (show ∃ t, u = Value.float y t from rx); cases q; exact PySem.W.kia_tup PySem.W.kitx_float I.kIn True.intro htp e (fun z => nomatch z) h
 | @lst a xs ea =>
  cases (show u = Value.ref a from rx)
  obtain ⟨_, _, n, _, h1⟩ := (show ObjOk X.prog X.w H s.heap a (.lst xs) from I.hok a _ ea)
  exact PySem.W.kia_tup PySem.W.kitx_list I.kIn ⟨_, h1, rfl⟩ htp e (fun z => nomatch z) h
 | @frz a ob xs ea =>
  cases (show u = Value.ref a from rx)
  obtain ⟨_, _, _, n, _, h1⟩ := (show ObjOk X.prog X.w H s.heap a (.frz ob (.lst xs)) from I.hok a _ ea)
  exact PySem.W.kia_tup PySem.W.kitx_list I.kIn ⟨_, h1, rfl⟩ htp e (fun z => nomatch z) h
 | @tup a xs ea =>
  cases (show u = Value.ref a from rx)
  obtain ⟨_, _, _, p⟩ := (show ObjOk X.prog X.w H s.heap a (.tup xs) from I.hok a _ ea)
  obtain ⟨o, h1, h2, _⟩ := p
  exact PySem.W.kia_tup PySem.W.kitx_tuple I.kIn ⟨o, h1, h2⟩ htp e (fun z => nomatch z) h
 | @dK a kvs ea =>
  cases (show u = Value.ref a from rx)
  obtain ⟨_, _, vs, _, p⟩ := (show ObjOk X.prog X.w H s.heap a (.dK kvs) from I.hok a _ ea)
  obtain ⟨o, es, ep, h1, h2, _⟩ := p
  exact PySem.W.kia_tup PySem.W.kitx_dict I.kIn ⟨o, h1, h2.1⟩ htp e (fun z => nomatch z) h
 | @dT a kvs ea =>
  cases (show u = Value.ref a from rx)
  obtain ⟨_, _, xs, _, o, es, ep, h1, h2, _⟩ := (show ObjOk X.prog X.w H s.heap a (.dT kvs) from I.hok a _ ea)
  exact PySem.W.kia_tup PySem.W.kitx_dict I.kIn ⟨o, h1, h2.1⟩ htp e (fun z => nomatch z) h
 | @ins a C dx fs ea cl ha hn htk hm =>
  cases (show u = Value.ref a from rx)
  obtain ⟨mA, O, _⟩ := ins_get I.hok ea
  obtain ⟨od, J, _⟩ := O.look
  exact PySem.W.kia_tup (PySem.W.kitx_own (cl.get _) cl.hd ha hn htk hm) I.kIn J htp e (fun z => nomatch z) h
theorem call_isi2 {T U : String} : CallR X (.builtin "isinstance") (fun xs H Q => ∃ (x : V) (p : Addr) (t : Value) (b : Bool), xs = [x, .ref p] ∧ H p = some (.tup [.ty T, .ty U]) ∧ TyOf X.K H x t ∧ PySem.W.kitAny X.K t [.type T, .type U] = some b ∧ Q (.bl b) H) := by
 intro pins s σ H xs us Q I r h
 obtain ⟨x, p, t, b, rfl, hp, ty, e, q⟩ := h
 obtain ⟨u, u', rfl, rx, ry⟩ := vals2 r
 cases ry
 obtain ⟨_, its, rv, o, h1, h2, n, h3⟩ := I.hok p _ hp
 obtain ⟨a, b', rfl, ra, rb⟩ := vals2 rv
 cases ra
 cases rb
 refine isinst_tup (cs := [.type T, .type U]) I rx ty ?_ e fun tk => ⟨.bl b, H, I.tok tk, rfl, q⟩
 obtain ⟨oc, od, odt, osl⟩ := o
 cases h2
 cases h3
 exact ⟨od, n, osl, h1⟩
end
end L2

set_option Elab.async false
set_option linter.all false
set_option maxRecDepth 100000
set_option maxHeartbeats 8000000
namespace L2
open PySem PySem.Spec PyProof.Rows
section
variable {X : Cx}
def rCatTT (K : PySem.W.Frag) : R2 := fun x y H Q => ∃ a b xs ys, x = .ref a ∧ y = .ref b ∧ SqT K H a xs ∧ SqT K H b ys ∧ xs.length + ys.length ≤ sizeLine ∧
 (xs = [] → Q (.ref b) H) ∧ (xs ≠ [] → ys = [] → Q (.ref a) H) ∧ (xs ≠ [] → ys ≠ [] → ∀ p, H p = none → Q (.ref p) (upd H p (.tup (xs ++ ys))))
theorem op_catTT : OpR X (binaryOp .Add) (rCatTT X.K) := by
 intro pins s σ H x y v u Q I rx ry h
 obtain ⟨a, b, xs, ys, rfl, rfl, ha, hb, hz, q0, q1, q2⟩ := h
 by_cases hx : xs = []
 ·cases rx
  cases ry
  obtain ⟨its, r1, p1, _⟩ := I.tuple ha
  obtain ⟨its2, r2, p2, _⟩ := I.tuple hb
  obtain ⟨⟨cls, dd, data, sl⟩, ho, hc, n, hd⟩ := id p1
  obtain ⟨⟨cls2, dd2, data2, sl2⟩, ho2, hc2, n2, hd2⟩ := id p2
  simp only at hc hd hc2 hd2
  subst hc hd hc2 hd2
  have e : its = [] := r1.nil_iff.mpr hx
  exact concat_meets ⟨_, ho, rfl⟩ ⟨_, ho2, rfl⟩ noFill_tuple_add seq_tuple_add PySem.F.slot_tuple_add PySem.F.entry_tuple_add (PySem.F.args_tuple_add_2 _ _)
   (tuple_addW0 a b its.toArray its2.toArray n n2 dd dd2 sl sl2 (by simp [e])) ⟨ho, ho2, ⟨.ref b, H, I, rfl, q0 hx⟩⟩
 ·exact op_catT pins s σ H _ _ v u Q I rx ry ⟨a, b, xs, ys, rfl, rfl, ha, hb, hx, hz, q1 hx, q2 hx⟩
theorem bt_len : bootBuiltins "len" = some (.builtin "len") := by decide +kernel
theorem bt_max : bootBuiltins "max" = some (.builtin "max") := by decide +kernel
theorem bt_abs : bootBuiltins "abs" = some (.builtin "abs") := by decide +kernel
theorem bt_divmod : bootBuiltins "divmod" = some (.builtin "divmod") := by decide +kernel
theorem bt_all : bootBuiltins "all" = some (.builtin "all") := by decide +kernel
theorem bt_repr : bootBuiltins "repr" = some (.builtin "repr") := by decide +kernel
theorem bt_isinstance : bootBuiltins "isinstance" = some (.builtin "isinstance") := by decide +kernel
theorem bt_list : bootBuiltins "list" = some (.type "list") := by decide +kernel
theorem bt_tuple : bootBuiltins "tuple" = some (.type "tuple") := by decide +kernel
theorem bt_int : bootBuiltins "int" = some (.type "int") := by decide +kernel
theorem bt_str : bootBuiltins "str" = some (.type "str") := by decide +kernel
theorem bt_set : bootBuiltins "set" = some (.type "set") := by decide +kernel
theorem bt_dict : bootBuiltins "dict" = some (.type "dict") := by decide +kernel
theorem bt_bool : bootBuiltins "bool" = some (.type "bool") := by decide +kernel
theorem bt_range : bootBuiltins "range" = some (.type "range") := by decide +kernel
def Def (P : Program) (w : World) (K : PySem.W.Frag) (mg : Str → Option Value) (base : Heap) (x : Str) (k : Nat) (ps : List Str) (sp : Sp) : Prop :=
 ∃ f fd, mg x = some (.ref f) ∧ PySem.W.keepIn K (.ref f) = true ∧ Binds K fd ps [] ∧ FnOk P w K mg base CX0 k f fd ps sp
theorem pe_def {x : Str} {k : Nat} {ps : List Str} {sp : Sp} {p pos : Pos} {e : Expr} {es : List Expr} {t : TA} (D : Def X.prog X.w X.K X.mg X.base x k ps sp) (hr : Room k X.A) (hg : Gl X x) (ha : PA X (e :: es) t)
  (hdb : (x == ("__debug__" : Str)) = false := by decide) (he : starEach (e :: es) X.env = (false, eval e X.env) :: starEach es X.env := by rfl) (hpl : (backTo pos (starEach es X.env)).any (·.1) = false := by rfl) :
  PE X (.Call (.Name x p) (e :: es) [] pos) (tCall sp [] E0 t) := by
 obtain ⟨f, fd, hm, hk, hb, F⟩ := D
 exact pe_call F hr hg hm hk hb .nil pass0 ha hdb he hpl
structure FunAt (K : PySem.W.Frag) (mg : Str → Option Value) (x : Str) (st : Stmt) (ps : List Str) : Prop where
 ex : ∃ f fd, Fun K x x st f fd ∧ mg x = some (.ref f) ∧ Binds K fd ps []
theorem FunAt.mk' {P : Program} {w : World} {K : PySem.W.Frag} {mg : Str → Option Value} {base : Heap} {x : Str} {st : Stmt} {N ps : List Str} {k : Nat} {sp : Sp} (F : FunAt K mg x st ps) (S : FnScope N ps (defScope st)) (len : ∀ vs H Q E, sp vs H Q E → vs.length = ps.length)
  (hbody : ∀ (f : Addr) (cdv : Value) (A : Around) (outer : List Env) (s : Shared) (H : Hp) (vs : List V) (Q : VK) (E : XK), Room k (A.deeper (envOfC x (defScope st) s.heap.objs.size f cdv)) → sp vs H Q E →
   ∃ t, PSs (cxOf CX0 P w K mg base N x (defScope st) f cdv A outer s H E).nox (defBody st) t ∧ t { nx := fun _ H' => Q .non H', rt := Q } (start N vs) H) : Def P w K mg base x (k + 1) ps sp := by
 obtain ⟨f, fd, Fn, hm, hb⟩ := F.ex
 exact ⟨f, fd, hm, Fn.kp, hb, Fn.ok S len (hbody f)⟩
theorem noxe {X : Cx} : ∀ v s, ¬ (X.nox).xe v s := fun _ _ z => z
def SameX (p : Addr) (H H' : Hp) : Prop := ∀ b o, b ≠ p → H b = some o → H' b = some o
theorem SameX.trans {p : Addr} {H H1 H2 : Hp} (a : SameX p H H1) (b : SameX p H1 H2) : SameX p H H2 := fun c o n h => b c o n (a c o n h)
theorem SameX.refl (p : Addr) (H : Hp) : SameX p H H := fun _ _ _ h => h
theorem SameX.upd (p : Addr) (H : Hp) (o : HO) : SameX p H (upd H p o) := fun b u n h => by rw [upd_ne n]; exact h
theorem same_new {H : Hp} {p : Addr} (h : H p = none) (o : HO) : Same H (upd H p o) := fun b u e => by rw [upd_ne (ne_of_none e h)]; exact e
theorem Same.x {p : Addr} {H H' : Hp} (a : Same H H') : SameX p H H' := fun b o _ h => a b o h
end
theorem SameX.same {p : Addr} {H H1 H2 : Hp} (a : SameX p H H1) (b : Same H1 H2) : SameX p H H2 := fun c o n h => b c o (a c o n h)
theorem SameX.free {p : Addr} {H H' : Hp} (e : SameX p H H') {l : Addr} (n : l ≠ p) (h : H' l = none) : H l = none := by
 cases q : H l with
 | none => rfl
 | some o => rw [e l o n q] at h; cases h
theorem atI_int {α : Type} {xs : List α} {i : Int} {x : α} (h0 : 0 ≤ i) (h : xs[i.toNat]? = some x) : atI xs i = some x := by
 have := atI_nat h
 rwa [Int.toNat_of_nonneg h0] at this
theorem seqIx {n : Nat} {i : Int} (h0 : 0 ≤ i) (h1 : i < n) : seqIndex? i n = some i.toNat := by
 unfold seqIndex?
 simp [show ¬ (i < 0) by omega, h0, h1]
structure CompSc (n : Nat) (N' N : List Str) (osc scope : Scope) : Prop where
 kind : scope.kind = .function
 names : ∀ x ∈ scope.names, x.2 = .local → scope.names.lookup x.1 = some .local
 cell : ∀ x ∈ scope.names, x.2 ≠ .cell
 free : ∀ x ∈ scope.names, x.2 = .free → osc.names.lookup x.1 = some .cell ∨ osc.names.lookup x.1 = some .free
 nd : N'.Nodup
 len : N'.length = n + N.length
 look : lookOk n N' N scope.names = true
theorem CompSc.at {X : Cx} {n : Nat} {N' : List Str} {scope : Scope} (h : CompSc n N' X.N X.env.scope scope) : CompScope n N' X scope := ⟨h.kind, h.names, h.cell, h.free, h.nd, h.len, h.look⟩
end L2

set_option Elab.async false
set_option linter.all false
set_option maxRecDepth 100000
set_option maxHeartbeats 4000000
namespace L2
open PySem PySem.Spec PyProof.Rows
mutual
inductive RdV (R : Addr → Prop) (H : Hp) : V → PyData → Prop where
 | non : RdV R H .non .none
 | bl (b : Bool) : RdV R H (.bl b) (.bool b)
 | int (i : Int) : RdV R H (.int i) (.int i)
 | str (x : Str) : RdV R H (.str x) (.str x)
 | lst {a : Addr} {xs : List V} {ds : List PyData} : R a → H a = some (.lst xs) → RdA R H xs ds → RdV R H (.ref a) (.list ds)
 | tup {a : Addr} {xs : List V} {ds : List PyData} : R a → H a = some (.tup xs) → RdA R H xs ds → RdV R H (.ref a) (.tuple ds)
inductive RdA (R : Addr → Prop) (H : Hp) : List V → List PyData → Prop where
 | nil : RdA R H [] []
 | cons {x : V} {xs : List V} {d : PyData} {ds : List PyData} : RdV R H x d → RdA R H xs ds → RdA R H (x :: xs) (d :: ds)
end
mutual
theorem RdV.mono {R R' : Addr → Prop} {H H' : Hp} (hR : ∀ a, R a → R' a) (hH : ∀ a o, R a → H a = some o → H' a = some o) : ∀ {x : V} {d : PyData}, RdV R H x d → RdV R' H' x d
 | _, _, .non => .non
 | _, _, .bl b => .bl b
 | _, _, .int i => .int i
 | _, _, .str x => .str x
 | _, _, .lst r e z => .lst (hR _ r) (hH _ _ r e) (RdA.mono hR hH z)
 | _, _, .tup r e z => .tup (hR _ r) (hH _ _ r e) (RdA.mono hR hH z)
theorem RdA.mono {R R' : Addr → Prop} {H H' : Hp} (hR : ∀ a, R a → R' a) (hH : ∀ a o, R a → H a = some o → H' a = some o) : ∀ {xs : List V} {ds : List PyData}, RdA R H xs ds → RdA R' H' xs ds
 | _, _, .nil => .nil
 | _, _, .cons a b => .cons (RdV.mono hR hH a) (RdA.mono hR hH b)
end
mutual
theorem RdV.toV {R : Addr → Prop} {H : Hp} : ∀ {x : V} {d : PyData}, RdV R H x d → RdsV H x d
 | _, _, .non => .non
 | _, _, .bl b => .bl b
 | _, _, .int i => .int i
 | _, _, .str x => .str x
 | _, _, .lst r e z => .lst e (RdA.toA z)
 | _, _, .tup r e z => .tup e (RdA.toA z)
theorem RdA.toA {R : Addr → Prop} {H : Hp} : ∀ {xs : List V} {ds : List PyData}, RdA R H xs ds → RdsA H xs ds
 | _, _, .nil => .nil
 | _, _, .cons a b => .cons (RdV.toV a) (RdA.toA b)
end
mutual
def tupOnly : PyData → Bool
 | .list _ => false
 | .tuple ds => tupOnlyA ds
 | _ => true
def tupOnlyA : List PyData → Bool
 | [] => true
 | d :: r => tupOnly d && tupOnlyA r
end
mutual
theorem RdV.monoT {R R' : Addr → Prop} {H H' : Hp} (hR : ∀ a, R a → R' a) (hH : ∀ a xs, H a = some (.tup xs) → H' a = some (.tup xs)) : ∀ {x : V} {d : PyData}, tupOnly d = true → RdV R H x d → RdV R' H' x d
 | _, _, _, .non => .non
 | _, _, _, .bl b => .bl b
 | _, _, _, .int i => .int i
 | _, _, _, .str x => .str x
 | _, _, h, .lst r e z => by simp [tupOnly] at h
 | _, _, h, .tup r e z => .tup (hR _ r) (hH _ _ e) (RdA.monoT hR hH (by simpa [tupOnly] using h) z)
theorem RdA.monoT {R R' : Addr → Prop} {H H' : Hp} (hR : ∀ a, R a → R' a) (hH : ∀ a xs, H a = some (.tup xs) → H' a = some (.tup xs)) : ∀ {xs : List V} {ds : List PyData}, tupOnlyA ds = true → RdA R H xs ds → RdA R' H' xs ds
 | _, _, _, .nil => .nil
 | _, _, h, .cons a b => by
  simp only [tupOnlyA, Bool.and_eq_true] at h
  exact .cons (RdV.monoT hR hH h.1 a) (RdA.monoT hR hH h.2 b)
end
section
variable {R : Addr → Prop} {H H' : Hp} {v : V} {xs ys : List V} {ds es : List PyData} {d : PyData}
theorem RdV.same (hs : Same H H') (h : RdV R H v d) : RdV R H' v d := h.mono (fun _ r => r) fun a o _ e => hs a o e
theorem RdA.same (hs : Same H H') (h : RdA R H xs ds) : RdA R H' xs ds := h.mono (fun _ r => r) fun a o _ e => hs a o e
theorem RdV.list_inv (h : RdV R H v (.list ds)) : ∃ a xs, v = .ref a ∧ R a ∧ H a = some (.lst xs) ∧ RdA R H xs ds := by cases h with | lst r e z => exact ⟨_, _, rfl, r, e, z⟩
theorem RdV.tuple_inv (h : RdV R H v (.tuple ds)) : ∃ a xs, v = .ref a ∧ R a ∧ H a = some (.tup xs) ∧ RdA R H xs ds := by cases h with | tup r e z => exact ⟨_, _, rfl, r, e, z⟩
theorem RdV.str_inv {x : Str} (h : RdV R H v (.str x)) : v = .str x := by cases h; rfl
theorem RdA.length : ∀ {xs : List V} {ds : List PyData}, RdA R H xs ds → xs.length = ds.length
 | _, _, .nil => rfl
 | _, _, .cons _ t => by rw [List.length_cons, List.length_cons, RdA.length t]
theorem RdA.getV : ∀ {xs : List V} {ds : List PyData} {i : Nat} {x : V}, RdA R H xs ds → xs[i]? = some x → ∃ d, ds[i]? = some d ∧ RdV R H x d
 | _, _, _, _, .nil, h => by simp at h
 | _, _, 0, _, .cons a t, h => by simp at h; subst h; exact ⟨_, rfl, a⟩
 | _, _, i + 1, _, .cons a t, h => by simpa using RdA.getV (i := i) t (by simpa using h)
theorem RdA.append : ∀ {xs ys : List V} {ds es : List PyData}, RdA R H xs ds → RdA R H ys es → RdA R H (xs ++ ys) (ds ++ es)
 | _, _, _, _, .nil, h => h
 | _, _, _, _, .cons a t, h => .cons a (RdA.append t h)
theorem RdA.snoc (h : RdA R H xs ds) (a : RdV R H v d) : RdA R H (xs ++ [v]) (ds ++ [d]) := h.append (.cons a .nil)
theorem RdA.strs : ∀ ws : List Str, RdA R H (ws.map V.str) (ws.map PyData.str)
 | [] => .nil
 | x :: r => .cons (.str x) (RdA.strs r)
theorem RdA.strs_inv : ∀ {ws : List Str} {xs : List V}, RdA R H xs (ws.map PyData.str) → xs = ws.map V.str
 | [], _, .nil => rfl
 | _ :: _, _, .cons a t => by rw [RdV.str_inv a, RdA.strs_inv t]; rfl
theorem RdA.two (h : RdA R H xs [d, e]) : ∃ x y, xs = [x, y] ∧ RdV R H x d ∧ RdV R H y e := by
 cases h with | cons a t => cases t with | cons b t => cases t; exact ⟨_, _, rfl, a, b⟩
theorem RdA.three {f : PyData} (h : RdA R H xs [d, e, f]) : ∃ x y z, xs = [x, y, z] ∧ RdV R H x d ∧ RdV R H y e ∧ RdV R H z f := by
 cases h with | cons a t => cases t with | cons b t => cases t with | cons c t => cases t; exact ⟨_, _, _, rfl, a, b, c⟩
end
end L2

set_option Elab.async false
set_option linter.all false
set_option maxRecDepth 100000
set_option maxHeartbeats 4000000
namespace L2
open PySem PySem.Spec PyProof.Rows
inductive StrConsts : List Expr → List Str → Prop where
 | nil : StrConsts [] []
 | cons {x : Str} {j : Nat} {pos : Pos} {es : List Expr} {ws : List Str} : StrConsts es ws → StrConsts (.Constant (.str x) j pos :: es) (x :: ws)
def tStrs (ws : List Str) : TA := fun _ H Q => Q (ws.map V.str) H
theorem pa_strs {X : Cx} {es : List Expr} {ws : List Str} (h : StrConsts es ws) : PA X es (tStrs ws) := by
 induction h with
 | nil => exact pa_nil
 | cons h ih =>
  rename_i x j pos es ws
  intro pos' pins s σ H Q I hq
  exact pa_cons (te := tC (.str x)) (t := tStrs ws) pe_str ih rfl pos' pins s σ H Q I hq
end L2
namespace L2
open PySem PySem.Spec PyProof.Rows
section
variable {X : Cx}
theorem visL {sc : Scope} {x : Str} (h : sc.names.lookup x = some .local) : Vis sc x := .inl h
theorem visC {sc : Scope} {x : Str} (h : sc.names.lookup x = some .cell) : Vis sc x := .inr (.inl h)
theorem visF {scope : Scope} {env : Env} {x : Str} (h : scope.names.lookup x = some .free) : Vis (relabel scope env) x := by
 have e : (relabel scope env).names.lookup x = _ := lookup_relabel
 rw [h] at e
 simp only [Option.map_some] at e
 split at e
 ·exact .inr (.inl e)
 ·exact .inr (.inr e)
theorem visO {scope : Scope} {env : Env} {x : Str} (h : scope.names.lookup x = some .local) : Vis (relabel scope env) x := .inl (lookup_relabel_local h)
theorem locO {scope : Scope} {env : Env} {x : Str} (h : scope.names.lookup x = some .local) : Loc (relabel scope env) x := .inl (lookup_relabel_local h)
theorem glO {scope : Scope} {env : Env} {x : Str} (h : scope.names.lookup x = some .globalImplicit) : (relabel scope env).names.lookup x = some .globalImplicit := by
 have e : (relabel scope env).names.lookup x = _ := lookup_relabel
 rw [h] at e
 exact e
theorem pq (i : Nat) {x : Str} {pos : Pos} (hv : Vis X.env.scope x) (hd : (x == ("__debug__" : Str)) = false) (hcd : (x == ("__classdict__" : Str)) = false) (hN : X.N[i]? = some x := by rfl) : PE X (.Name x pos) (tVar i) := pe_var hN hv hd hcd
end
end L2

set_option Elab.async false
set_option linter.all false
set_option maxRecDepth 100000
set_option maxHeartbeats 4000000
namespace L2
open PySem PySem.Spec PyProof.Rows
section
variable {P : Program} {w : World} {A : Around} {E : Value → Shared → Prop}
theorem draw_lst {it l : Addr} {its : Array Value} (ne : l ≠ it) (n : Nat) : ∀ (i : Nat) (s : Shared) (Q : List Value → Shared → Prop), s.heap.IsListIter it l i → s.heap.IsList l its → i + n ≤ its.size →
  (∀ h', h'.IsListIter it l (i + n) → Heap.SameBut it s.heap h' → Q ((its.toList.drop i).take n) { s with heap := h' }) → wpAny (model P w) A (draw (.ref it) n) Q E s := by
 induction n with
 | zero =>
  intro i s Q a _ _ q
  have q0 := q s.heap a (Heap.SameBut.refl ..)
  rw [List.take_zero] at q0
  exact wpAny_pure q0
 | succ n ih =>
  intro i s Q a b le q
  have lt : i < its.size := by omega
  refine wpAny_bind (m := pyNext (.ref it)) (wpAny_pyNext_list_item a b (x := its[i]) (by simp [lt]) fun h1 a1 s1 => ?_)
  refine wpAny_bind (wpAny_holding (ih (i + 1) _ _ a1 (b.extBut s1.extBut ne) (by omega) fun h2 a2 s2 => ?_))
  refine wpAny_pure ?_
  have q2 := q h2 (by rw [Nat.add_comm n 1, ← Nat.add_assoc]; exact a2) (s1.trans s2)
  have e : its.toList.drop i = its[i] :: its.toList.drop (i + 1) := by simp [List.drop_eq_getElem_cons, lt]
  rwa [e, List.take_succ_cons] at q2
theorem unpack_lst {s : Shared} {l : Addr} {its : Array Value} {ts : List (Bool × (Value → Sem Unit))} {Q : Unit → Shared → Prop} (hh : A.handled = none) (hl : s.heap.IsList l its) (hn : ts.length = its.size) (hs : ts.findIdx? (·.1) = none)
  (q : ∀ h', Heap.ExtBut s.heap.objs.size s.heap h' → wpAny (model P w) A (assignInOrder (ts.map (·.2)) its.toList) Q E { s with heap := h' }) : wpAny (model P w) A (unpack (.ref l) ts) Q E s := by
 have ne : l ≠ s.heap.objs.size := by
  obtain ⟨o, e, _⟩ := hl
  exact Nat.ne_of_lt (Heap.lt_size e)
 unfold unpack
 rw [hs, hn]
 refine wpAny_bind (wpAny_holding ?_)
 unfold unpackItems notIterableAtAll
 refine wpAny_bind (wpAny_bind (wpAny_specialOf hl.typeIs slot_list_iter.lookup (wpAny_pure ?_)))
 simp only [Bool.false_eq_true, if_false]
 refine wpAny_bind (wpAny_holding (wpAny_pyIter_list hl ?_))
 refine wpAny_bind (wpAny_holding (draw_lst ne its.size 0 _ _ ⟨_, Heap.get?_push_size _ rfl, rfl, rfl⟩ (hl.push _) (by omega) fun h1 a1 s1 => ?_))
 have all : (its.toList.drop 0).take its.size = its.toList := by simp [List.take_of_length_le]
 rw [all, if_neg (by simp)]
 refine wpAny_bind (wpAny_holding (wpAny_pyNext_list_end hh a1 ((hl.push _).extBut s1.extBut ne) (by simp) fun h2 e2 => ?_))
 simp only [Option.isSome_none, Bool.false_eq_true, if_false]
 exact wpAny_pure (q h2 fun b o nb e => e2 b o nb (s1.extBut b o nb (Heap.get?_push_of_some _ e)))
end
section
variable {X : Cx} {pos : Pos}
def gSeq (K : PySem.W.Frag) (n : Nat) (t : TGs) : TG := fun v σ H Q => ∃ a xs, v = .ref a ∧ (SqL K H a xs ∨ SqT K H a xs) ∧ xs.length = n ∧ t xs σ H Q
theorem pg_seq {es : List Expr} {k : Nat} {t : TGs} {n : Nat} (hc : X.calm = true) (h : PGs X es t) (hn : (assignEach es X.env).length = n := by rfl) (hst : (assignEach es X.env).findIdx? (·.1) = none := by rfl) : PG X (.Tuple es k pos) (gSeq X.K n t) := by
 intro pins s σ H v u Q I r hw
 obtain ⟨a, xs, rfl, hq | hq, hl, hw⟩ := hw
 ·cases r
  obtain ⟨its, rv, pl, hz⟩ := I.list hq
  rw [assign_Tuple]
  refine wpAny_bind (wpAny_standAt (unpack_lst (I.ok.hd hc) pl.isList (by simp [hn, ← hl, rv.length]) hst fun h' hx => ?_))
  have I1 : Inv X pins σ H { s with heap := h' } := I.kept (t' := s.toks) fun b o e => hx b o (Nat.ne_of_lt (Heap.lt_size e)) e
  exact h pins _ σ H xs _ Q I1 (by simpa using rv) hw
 ·exact pg_tup hc h hn hst pins s σ H _ u Q I r ⟨a, xs, rfl, hq, hl, hw⟩
end
end L2

set_option Elab.async false
set_option linter.all false
set_option maxRecDepth 100000
set_option maxHeartbeats 4000000
namespace L2
open PySem PySem.Spec PyProof.Rows
structure Loose (X : Cx) (pins : List (Addr × Obj)) (H : Hp) (b : Addr) : Prop where
 un : H b = none
 new : b ∈ X.ex ∨ X.s₀.heap.get? b = none
 loc : b ≠ X.env.locals
 cel : ∀ x c, X.env.cells.lookup x = some c → c ≠ b
 pin : ∀ p ∈ X.pn ++ pins, p.1 ≠ b
section
variable {X : Cx} {pins : List (Addr × Obj)} {σ : List (Option V)} {H : Hp} {s : Shared} {h' : Heap}
end
inductive Exc (h : Heap) (a : Addr) (cls : Value) : Option Value → List Addr → Prop where
 | made {oe : Obj} {vs : Array Value} {a0 : Value} : h.get? a = some oe → oe.cls = cls → oe.data = .fields vs → vs[0]? = some a0 → vs[1]? = some .none → Exc h a cls none [a]
 | ent {oe oT : Obj} {vs ts : Array Value} {a0 fl : Value} {T : Addr} : h.get? a = some oe → oe.cls = cls → oe.data = .fields vs → vs[0]? = some a0 → vs[1]? = some (.ref T) → T ≠ a → h.get? T = some oT → oT.data = .fields ts → ts[3]? = some fl → Exc h a cls (some fl) [a, T]
section
variable {P : Program} {w : World} {H : Hp} {h : Heap} {a : Addr} {o : HO}
end
section
variable {X : Cx} {pins : List (Addr × Obj)} {σ : List (Option V)} {H : Hp} {s : Shared} {h' : Heap}
end
end L2
namespace L2
open PySem PySem.Spec PyProof.Rows
section
variable {X : Cx} {E : XK} {e : Value} {s : Shared} {EE : Value → Shared → Prop} {M : Model}
end
end L2
namespace L2
open PySem PySem.Spec PyProof.Rows
end L2

set_option Elab.async false
set_option linter.all false
set_option maxRecDepth 100000
set_option maxHeartbeats 4000000
namespace L2
open PySem PySem.Spec PyProof.Rows
section
variable {X : Cx} {n : Nat} {N' : List Str} {scope : Scope} {elt tg iter : Expr} {pos : Pos} {pins : List (Addr × Obj)} {σ : St} {H2 : Hp} {s2 : Shared} {cl : List (Str × Addr)}
end
end L2

set_option Elab.async false
set_option linter.all false
set_option maxRecDepth 100000
set_option maxHeartbeats 4000000
namespace L2
open PySem PySem.Spec PyProof.Rows
structure RoomU (k : Nat) (A : Around) : Prop where
 gd : A.guards = some []
 dp : A.depth + 3 * k + 5 < recursionLimit
 un : A.units + 16 * k + 200 < cLine
structure FnOkU (P : Program) (w : World) (K : PySem.W.Frag) (mg : Str → Option Value) (base : Heap) (CX : CXT) (k : Nat) (f : Addr) (fd : FuncData) (ps : List Str) (sp : Sp) : Prop where
 len : ∀ vs H Q E, sp vs H Q E → vs.length = ps.length
 run : ∀ (A : Around) (outer : List Env) (s : Shared) (H : Hp) (args : Args) (us : List Value) (vs : List V) (Q : VK) (E : XK), RoomU k A → Env0 P w K mg base A outer s H → BindsTo s fd args (ps.zip us) → Vals vs us → sp vs H Q E →
  codeAny (model P w) A (.call (.ref f) args) (CR CX outer P w H s Q E) s
end L2

set_option Elab.async false
set_option linter.all false
set_option maxRecDepth 100000
set_option maxHeartbeats 4000000
namespace L2
open PySem PySem.Spec PyProof.Rows
section
variable {X : Cx} {pins : List (Addr × Obj)} {σ : St} {H : Hp} {s : Shared}
end
end L2

set_option Elab.async false
set_option linter.all false
set_option maxRecDepth 100000
set_option maxHeartbeats 8000000
namespace L2
open PySem PySem.Spec PyProof.Rows
structure ExcLook (K : PySem.W.Frag) (C : Addr) : Prop where
 ga : PySem.W.findIn K (.ref C) "__getattribute__" = some (some (.builtin "BaseException.__getattribute__"))
 gn : PySem.W.findIn K (.ref C) "__getattr__" = some none
 cl : PySem.W.findIn K (.ref C) "__class__" = some (some (.builtin "object.__class__"))
 mb : PySem.W.mroIn K C (.type "BaseException") = some true
 mo : PySem.W.mroIn K C (.type "object") = some true
 ty : (PySem.W.clsIn K C).isSome = true
section
variable {prog : Program} {w : World} {A : Around} {E : Value → Shared → Prop} {h : Heap} {g : Array GenState} {d : Drawn} {t : Nat} {os : OsState} {a C : Addr} {o : Obj} {K : PySem.W.Frag}
end
end L2

set_option Elab.async false
set_option linter.all false
set_option maxRecDepth 100000
set_option maxHeartbeats 4000000
namespace L2
open PySem PySem.Spec PyProof.Rows
section
variable {X : Cx}
end
end L2

set_option Elab.async false
set_option linter.all false
set_option maxRecDepth 100000
namespace L2
open PySem PySem.Spec PyProof.Rows
section
variable {κ : Type} [DecidableEq κ]
def valV (kvs : List (κ × V)) (k : κ) : Option V := (kvs.find? fun kv => decide (kv.1 = k)).map (·.2)
theorem valV_pos {p : κ × V} {r : List (κ × V)} {k : κ} (e : p.1 = k) : valV (p :: r) k = some p.2 := by simp [valV, List.find?_cons, e]
theorem valV_neg {p : κ × V} {r : List (κ × V)} {k : κ} (e : ¬ p.1 = k) : valV (p :: r) k = valV r k := by simp [valV, List.find?_cons, e]
theorem RelO.isSome_eq {o : Option V} {u : Option Value} (r : RelO o u) : o.isSome = u.isSome := by
 cases o with
 | none => cases u with
  | none => rfl
  | some _ => exact (show False from r).elim
 | some _ => cases u with
  | none => exact (show False from r).elim
  | some _ => rfl
theorem KV.val {kvs : List (κ × V)} {vs : List (κ × Value)} (r : KV kvs vs) (k : κ) : RelO (valV kvs k) (valueAt vs k) := by
 unfold KV at r
 induction r with
 | nil => exact True.intro
 | @cons p q ps qs h t ih =>
  obtain ⟨h1, h2⟩ := h
  by_cases e : p.1 = k
  ·have e' : q.1 = k := h1.symm.trans e
   have b : valueAt (q :: qs) k = some q.2 := by simp [valueAt, List.find?_cons, e']
   rw [valV_pos e, b]; exact h2
  ·have e' : ¬ q.1 = k := fun z => e (h1.trans z)
   have b : valueAt (q :: qs) k = valueAt qs k := by simp [valueAt, List.find?_cons, e']
   rw [valV_neg e, b]; exact ih
end
theorem kV_is {P : Program} {w : World} {k : Key} {u : Value} (r : RelV (kV k) u) : (mixKind P w).is k u = true := by
 cases k with
 | inl i => obtain ⟨t, e⟩ := (show ∃ t, u = Value.int i t from r); subst e; exact mixKind_int P w i t
 | inr x => obtain ⟨t, e⟩ := (show ∃ t, u = Value.str x t from r); subst e; exact mixKind_str P w x t
theorem items_are {P : Program} {w : World} : ∀ {ks : List Key} {us : List Value}, Vals (ks.map kV) us → ItemsAre (mixKind P w) ks us
 | [], _, r => by rw [List.map_nil] at r; cases r; exact .nil
 | k :: ks, _, r => by
  rw [List.map_cons] at r
  cases r with
  | cons h t => exact .cons (kV_is h) (items_are t)
abbrev KT (H : Hp) : List (List Key × V) → List (List Key × Addr × Value) → Prop := Paired fun p q => p.1 = q.1 ∧ H q.2.1 = some (.tup (p.1.map kV)) ∧ RelV p.2 q.2.2
theorem KT.val {H : Hp} {kvs : List (List Key × V)} {xs : List (List Key × Addr × Value)} (r : KT H kvs xs) (k : List Key) : RelO (valV kvs k) ((atKey xs k).map (·.2)) := by
 induction r with
 | nil => exact True.intro
 | @cons p q ps qs h t ih =>
  obtain ⟨h1, _, h2⟩ := h
  by_cases e : p.1 = k
  ·have e' : q.1 = k := h1.symm.trans e
   have b : atKey (q :: qs) k = some q.2 := by simp [atKey, List.find?_cons, e']
   rw [valV_pos e, b]; exact h2
  ·have e' : ¬ q.1 = k := fun z => e (h1.trans z)
   have b : atKey (q :: qs) k = atKey qs k := by simp [atKey, List.find?_cons, e']
   rw [valV_neg e, b]; exact ih
section
variable {P : Program} {w : World} {H : Hp} {h : Heap} {a : Addr}
theorem rd_of {u : HO} (ok : HOk P w H h) (e : Rd H a u) : ObjOk P w H h a u := e.ok ok
theorem dk_rd {kvs : List (Key × V)} (ok : HOk P w H h) (e : Rd H a (.dK kvs)) : kvs.length ≤ sizeLine ∧ (a == sysModules) = false ∧ ∃ vs, KV kvs vs ∧ h.DictOf (mixKind P w) a vs :=
 show ObjOk P w H h a (.dK kvs) from rd_of ok e
theorem key_of {ks : List Key} (ok : HOk P w H h) (e : H a = some (.tup (ks.map kV))) : (tupleKind (mixKind P w)).is h ks a := by
 obtain ⟨_, its, r, o, h1, h2, n, h3⟩ := (show ObjOk P w H h a (.tup (ks.map kV)) from ok a _ e)
 exact ⟨o, its.toArray, n, h1, h2, h3, by simpa using items_are r⟩
theorem dt_rd {kvs : List (List Key × V)} (ok : HOk P w H h) (e : Rd H a (.dT kvs)) : kvs.length ≤ sizeLine ∧ (a == sysModules) = false ∧
  ∃ xs, KT H kvs xs ∧ h.DictOfH (tupleKind (mixKind P w)) a xs := by
 obtain ⟨z, y, xs, r, o, es, ep, h1, h2, h3, h4, h5⟩ := (show ObjOk P w H h a (.dT kvs) from rd_of ok e)
 refine ⟨z, y, xs, r, o, es, ep, h1, h2, h3, h4, fun x hx => ?_, h5⟩
 have all : ∀ {l : List (List Key × V)} {m : List (List Key × Addr × Value)}, KT H l m → ∀ x ∈ m, (tupleKind (mixKind P w)).is h x.1 x.2.1 := by
  intro l m q
  induction q with
  | nil => intro x hx; exact nomatch hx
  | @cons p q ps qs hq t ih =>
   intro x hx
   rcases List.mem_cons.mp hx with e | hx
   ·subst e
    exact key_of ok (by rw [← hq.1]; exact hq.2.1)
   ·exact ih x hx
 exact all r x hx
end
def DGet (H : Hp) (a : Addr) (y : V) (r : Option V) : Prop :=
 (∃ kvs k, Rd H a (.dK kvs) ∧ y = kV k ∧ r = valV kvs k) ∨ ∃ kvs k b, Rd H a (.dT kvs) ∧ y = .ref b ∧ H b = some (.tup (k.map kV)) ∧ r = valV kvs k
theorem DGet.k {H : Hp} {a : Addr} {kvs : List (Key × V)} {k : Key} (e : H a = some (.dK kvs)) : DGet H a (kV k) (valV kvs k) := .inl ⟨kvs, k, .inl e, rfl, rfl⟩
section
variable {X : Cx} {pins : List (Addr × Obj)} {σ : St} {H : Hp} {s : Shared} {a : Addr} {y v : V} {u r : Value} {o : Option V} {A : Around} {E : Value → Shared → Prop}
theorem Inv.big (I : Inv X pins σ H s) : sysModules < s.heap.objs.size := by
 have h : mainGlobals < s.heap.objs.size := (I.mod.glob.keeps I.bk).lt
 exact Nat.lt_trans (by decide) h
theorem d_getItem {Q : Value → Shared → Prop} (hu : A.units + 1 < cLine) (I : Inv X pins σ H s) (g : DGet H a y (some v)) (ry : RelV y u) (h : ∀ w' s', Inv X pins σ H s' → RelV v w' → Q w' s') :
  wpAny (model X.prog X.w) A (getItem (.ref a) u) Q E s := by
 rcases g with ⟨kvs, k, e, ey, l⟩ | ⟨kvs, k, b, e, ey, eb, l⟩
 ·subst ey
  obtain ⟨z, hd, vs, rel, dd⟩ := dk_rd I.hok e
  obtain ⟨w', hw, rw'⟩ := RelO.some_of (v := v) (o := valueAt vs k) (by rw [l]; exact rel.val k)
  exact wpAny_getItem_of (kV_is ry) dd.mapOf hw (h w' _ (I.tok _) rw')
 ·subst ey
  cases (show u = Value.ref b from ry)
  obtain ⟨z, hd, xs, rel, dd⟩ := dt_rd I.hok e
  obtain ⟨w', hw, rw'⟩ := RelO.some_of (v := v) (o := (atKey xs k).map (·.2)) (by rw [l]; exact rel.val k)
  obtain ⟨p, hp, hp2⟩ := Option.map_eq_some_iff.mp hw
  refine wpAny_getItem_heap (tupleKind_room_in1 hu) (key_of I.hok eb) dd hp ?_
  rw [hp2]
  exact h w' _ (I.tok _) rw'
theorem d_write {h' : Heap} {t' : Nat} {ob : HO} (I : Inv X pins σ H s) (mu : Mut (H a)) (hs : Heap.SameBut a s.heap h') (he : ∃ q, h'.get? a = some q) (new : ObjOk X.prog X.w (upd H a ob) h' a ob) :
  Inv X pins σ (upd H a ob) { s with heap := h', toks := t' } :=
 I.write (x := a) (e := a) mu (.inl rfl) (fun b q hb z => (hs.2 b hb).trans z) he new
end
section
variable {X : Cx} {pins : List (Addr × Obj)} {σ : St} {H : Hp} {s : Shared} {a : Addr} {kvs : List (Key × V)} {k : Key} {u : Value} {A : Around} {E : Value → Shared → Prop}
end
def NoSl (i : Expr) : Prop := ∀ ov iv, subscripted i false ov iv = operate [ov, iv] (getItem ov iv)
theorem subD_of {prog : Program} {w : World} {A : Around} {E : Value → Shared → Prop} {s : Shared} {env : Env} {value slice : Expr} {pos : Pos} {T id : String} {Q : Value → Shared → Prop}
  (hl : typeLookup (.type T) "__getitem__" = pure (some (.builtin id))) (hs : NoSl slice)
  (h : wpAny (model prog w) A (eval value env) (fun o s₁ => wpAny (model prog w) A (eval slice env) (fun i s₂ => s₂.TypeIs o T ∧ wpAny (model prog w) A (getItem o i) Q E s₂) E s₁) E s) :
  wpAny (model prog w) A (eval (.Subscript value slice pos) env) Q E s := by
 refine Subscript_ (wpAny_mono h (fun o s₁ h₁ => wpAny_mono h₁ (fun i s₂ h₂ => ?_) fun _ _ x => x) fun _ _ x => x)
 obtain ⟨hT, h₂⟩ := h₂
 unfold subscriptTail
 refine wpAny_bind ?_
 rw [getitemInPython_of_ne hT.not_modules]
 refine wpAny_bind (wpAny_specialOf hT hl ?_)
 have fin : wpAny (model prog w) A (subscripted slice false o i) (fun r s₃ => wpAny (model prog w) A (letTemporaryGo value o r >>= fun _ => pure r) Q E s₃) E s₂ := by
  rw [hs o i]
  exact wpAny_operating (wpAny_mono h₂ (fun r s₃ h₃ => wpAny_bind (wpAny_letTemporaryGo (wpAny_pure h₃))) fun _ _ x => x)
 first
  | exact wpAny_pure (wpAny_bind fin)
  | exact wpAny_bind (wpAny_pure (wpAny_bind fin))
  | exact wpAny_bind fin
theorem dict_typeIs {X : Cx} {pins : List (Addr × Obj)} {σ : St} {H : Hp} {s : Shared} {a : Addr} {y : V} {o : Option V} (I : Inv X pins σ H s) (g : DGet H a y o) : s.TypeIs (.ref a) "dict" := by
 rcases g with ⟨kvs, k, e, _, _⟩ | ⟨kvs, k, b, e, _, _, _⟩
 ·obtain ⟨_, _, vs, _, dd⟩ := dk_rd I.hok e
  exact dd.typeIs
 ·obtain ⟨_, _, xs, _, dd⟩ := dt_rd I.hok e
  exact dd.typeIs
def tDGet (td ty : TE) : TE := fun σ H Q => td σ H fun x H1 => ty σ H1 fun y H2 => ∃ a v, x = .ref a ∧ DGet H2 a y (some v) ∧ Q v H2
section
variable {X : Cx} {o i e value : Expr} {pos pos' tpos : Pos} {td ty tv : TE}
theorem pe_dget (hu : X.A.units + 1 < cLine) (ho : PE X o td) (hi : PE X i ty) (hs : NoSl i) : PE X (.Subscript o i pos) (tDGet td ty) := by
 intro pins s σ H Q I h
 refine subD_of PySem.F.slot_dict_getitem.lookup hs (thn (ho pins s σ H _ I h) fun u s1 ⟨x, H1, I1, rx, q1⟩ => thn (hi pins s1 σ H1 _ I1 q1) fun iv s2 ⟨y, H2, I2, ry, a, v, ex, g, q2⟩ => ?_)
 subst ex
 obtain rfl : u = Value.ref a := rx
 exact ⟨dict_typeIs I2 g, d_getItem hu I2 g ry fun w' s3 I3 rw' => ⟨v, H2, I3, rw', q2⟩⟩
end
section
variable {X : Cx} {pos : Pos}
end
structure M1 (X : Cx) (o : Expr) (m : Str) (apos : Pos) (e : Expr) (cpos : Pos) : Prop where
 base : attributeBase o m X.env (eval o X.env) = eval o X.env
 few : ((backTo cpos (starEach [e] X.env)).all (fun x => !x.1) && (backToKw cpos (keywordEach [] X.env)).all (fun x => x.1.isSome)
  && decide (([e] : List Expr).length + ([] : List Keyword).length + (if ([] : List Keyword).isEmpty then 0 else 1) < 30)) = true
 line : (apos.endLine == cpos.line) = true
 trees : backTo cpos (starEach [e] X.env) = [(false, eval e X.env)]
structure M2 (X : Cx) (o : Expr) (m : Str) (apos : Pos) (e f : Expr) (cpos : Pos) : Prop where
 base : attributeBase o m X.env (eval o X.env) = eval o X.env
 few : ((backTo cpos (starEach [e, f] X.env)).all (fun x => !x.1) && (backToKw cpos (keywordEach [] X.env)).all (fun x => x.1.isSome)
  && decide (([e, f] : List Expr).length + ([] : List Keyword).length + (if ([] : List Keyword).isEmpty then 0 else 1) < 30)) = true
 line : (apos.endLine == cpos.line) = true
 trees : backTo cpos (starEach [e, f] X.env) = [(false, eval e X.env), (false, eval f X.env)]
section
variable {X : Cx} {pins : List (Addr × Obj)} {σ : St} {H : Hp} {s : Shared} {a : Addr} {y d : V} {u r : Value} {o : Option V} {A : Around} {E : Value → Shared → Prop}
end
section
variable {X : Cx} {o e f : Expr} {apos cpos : Pos} {td ty tx : TE}
end
section
variable {X : Cx} {pins : List (Addr × Obj)} {σ : St} {H : Hp} {s : Shared} {a : Addr} {kvs : List (Key × V)} {A : Around} {E : Value → Shared → Prop}
end
section
variable {X : Cx} {pins : List (Addr × Obj)} {σ : St} {H : Hp} {s : Shared} {a : Addr} {y : V} {u : Value} {A : Around} {E : Value → Shared → Prop}
end
end L2
namespace L2
open PySem PySem.Spec PyProof.Rows
section
variable {κ : Type} [DecidableEq κ]
end
end L2

set_option Elab.async false
set_option linter.all false
set_option maxRecDepth 100000
set_option maxHeartbeats 4000000
namespace L2
open PySem PySem.Spec PyProof.Rows
section
variable {X : Cx} {n : Nat} {N' : List Str} {scope : Scope} {elt cnd tg iter : Expr} {pos : Pos} {pins : List (Addr × Obj)} {σ : St} {H2 : Hp} {s2 : Shared} {cl : List (Str × Addr)}
end
end L2

set_option Elab.async false
set_option linter.all false
set_option maxRecDepth 100000
set_option maxHeartbeats 4000000
namespace L2
open PySem PySem.Spec PyProof.Rows
section
variable {X : Cx} {pins : List (Addr × Obj)} {σ : St} {H : Hp} {s : Shared}
end
section
variable {X : Cx} {elts : List Expr} {k : Nat} {tpos : Pos}
end
end L2

set_option Elab.async false
set_option linter.all false
set_option maxRecDepth 100000
set_option maxHeartbeats 1000000
namespace L2
open PySem PySem.Spec PyProof.Rows
section
variable {X : Cx}
end
end L2

set_option Elab.async false
set_option linter.all false
set_option maxRecDepth 100000
set_option maxHeartbeats 1000000
namespace HT
open PySem PySem.Spec PyProof.Rows L2
section
variable {prog : Program} {w : World} {A : Around} {E : Value → Shared → Prop} {s : Shared}
end
end HT
namespace L2
open PySem PySem.Spec PyProof.Rows
section
variable {X : Cx}
end
end L2

set_option Elab.async false
set_option linter.all false
set_option maxRecDepth 100000
set_option maxHeartbeats 1000000
namespace L2
open PySem PySem.Spec PyProof.Rows
abbrev CK := Str × List Int
section
variable {P : Program} {w : World}
def CellKey (P : Program) (w : World) (h : Heap) (k : CK) (a : Addr) : Prop :=
 ∃ o b t n, h.get? a = some o ∧ o.cls = .type "tuple" ∧ o.data = .seq #[.str k.1 t, .ref b] n ∧ IsTupleKey (PySem.intKind P w) h k.2 b
theorem CellKey.inj {h : Heap} {a : Addr} {x y : CK} (hx : CellKey P w h x a) (hy : CellKey P w h y a) : x = y := by
 obtain ⟨o, b, t, n, ho, _, hd, hi⟩ := hx
 obtain ⟨o', b', t', n', ho', _, hd', hi'⟩ := hy
 obtain rfl : o = o' := Option.some.inj (ho.symm.trans ho')
 rw [hd] at hd'
 injection hd' with h1 _
 have h2 := congrArg Array.toList h1
 simp only [List.cons.injEq, Value.str.injEq, Value.ref.injEq, and_true] at h2
 obtain ⟨⟨e1, _⟩, e2⟩ := h2
 subst e2
 exact Prod.ext e1 (hi.inj hi')
theorem CellKey.keeps {h h' : Heap} {k : CK} {a d : Addr} {o : Obj} {es ep} (x : CellKey P w h k a) (ho : h.get? d = some o) (hd : o.data = .dict es ep) (hs : Heap.SameBut d h h') : CellKey P w h' k a := by
 obtain ⟨o', b, t, n, ho', hc, hd', hi⟩ := x
 have hne : a ≠ d := by
  rintro rfl
  obtain rfl : o' = o := Option.some.inj (ho'.symm.trans ho)
  rw [hd] at hd'; exact nomatch hd'
 exact ⟨o', b, t, n, (hs.2 a hne).trans ho', hc, hd', hi.keeps ho hd hs⟩
theorem CellKey.typeIs {s : Shared} {k : CK} {a : Addr} (x : CellKey P w s.heap k a) : s.TypeIs (.ref a) "tuple" := let ⟨o, _, _, _, ho, hc, _⟩ := x; ⟨o, ho, hc⟩
def cellHash (P : Program) (w : World) (k : CK) : Int := reduceHash (Builtin.Tuple.tupleHashOf [(PySem.strKind P w).hash k.1, tupleKeyHash (PySem.intKind P w) k.2])
variable {A : Around} {E : Value → Shared → Prop} {s : Shared}
theorem pyHash_cell {k : CK} {a : Addr} {Q : Int → Shared → Prop} (hu : A.units + 1 < cLine) (hk : CellKey P w s.heap k a) (h : Q (cellHash P w k) { s with toks := s.toks + (k.2.length + 3) }) :
  wpAny (model P w) A (pyHash (.ref a)) Q E s := by
 have hT := hk.typeIs
 obtain ⟨o, c, t, n, ho, _, hd, hi⟩ := hk
 unfold pyHash
 first | unfold pyHashByItsType | skip
 first | refine wpAny_bind (wpAny_cRoomFor_or (.inr (by omega)) ?_) | skip
 refine wpAny_bind (wpAny_specialOf hT F.slot_tuple_hash.lookup ?_)
 show wpAny _ _ (if (some (Value.builtin "tuple.__hash__") == some Value.none) = true then _ else _) Q E s
 rw [if_neg (by rw [beq_builtin_none]; exact Bool.false_ne_true)]
 refine wpAny_bind (wpAny_specialOf hT F.slot_tuple_hash.lookup ?_)
 show wpAny _ _ (callSpecialIfBoundUnlessNone? (.ref a) "__hash__" _ >>= _) Q E s
 refine wpAny_bind (wpAny_callSpecialIfBoundUnlessNone?_slot hT F.slot_tuple_hash (wpAny_call_entry F.slot_tuple_hash hT F.entry_tuple_hash ?_ (F.args_tuple_hash_1 _)))
 show wpAny _ _ (Builtin.Tuple.tupleItemsOf (.ref a) >>= _) _ _ s
 refine wpAny_bind (wpAny_tupleItemsOf ho hd ?_)
 refine wpAny_bind ?_
 rw [← Array.forIn_toList]
 have hst : (PySem.strKind P w).is k.1 (.str k.1 t) = true := PySem.strKind_is P w k.1 t
 refine wpAny_forIn_list _
  (fun rest (b : Array Int) s' => (rest = [.str k.1 t, .ref c] ∧ b.toList = [] ∧ s' = s) ∨ (rest = [.ref c] ∧ b.toList = [(PySem.strKind P w).hash k.1] ∧ s' = { s with toks := s.toks + 1 }) ∨
   (rest = [] ∧ b.toList = [(PySem.strKind P w).hash k.1, tupleKeyHash (PySem.intKind P w) k.2] ∧ s' = { s with toks := s.toks + (k.2.length + 2) }))
  _ ?_ ?_ _ _ (.inl ⟨rfl, rfl, rfl⟩)
 ·rintro x rest b s' (⟨e, hb, rfl⟩ | ⟨e, hb, rfl⟩ | ⟨e, hb, rfl⟩)
  ·simp only [List.cons.injEq] at e
   obtain ⟨rfl, rfl⟩ := e
   refine wpAny_bind ((PySem.strKind P w).pyHash hst ?_)
   first
    | exact wpAny_pure (.inr (.inl ⟨rfl, by simp [hb], rfl⟩))
    | exact wpAny_bind (wpAny_pure (wpAny_pure (.inr (.inl ⟨rfl, by simp [hb], rfl⟩))))
  ·simp only [List.cons.injEq] at e
   obtain ⟨rfl, rfl⟩ := e
   refine wpAny_bind (wpAny_pyHash_tuple (knd := PySem.intKind P w) (ks := k.2) hu hi ?_)
   first
    | exact wpAny_pure (.inr (.inr ⟨rfl, by simp [hb], by simp only [Shared.mk.injEq, true_and, and_true]; omega⟩))
    | exact wpAny_bind (wpAny_pure (wpAny_pure (.inr (.inr ⟨rfl, by simp [hb], by simp only [Shared.mk.injEq, true_and, and_true]; omega⟩))))
  ·exact nomatch e
 ·rintro b s' (⟨e, hb, rfl⟩ | ⟨e, hb, rfl⟩ | ⟨e, hb, rfl⟩)
  ·exact nomatch e
  ·exact nomatch e
  ·show wpAny _ _ (retInt (Builtin.Tuple.tupleHashOf b.toList)) _ _ _
   rw [hb]
   refine wpAny_ret_mkInt ?_
   show wpAny _ _ (if (decide (-(2 : Int) ^ 63 ≤ Builtin.Tuple.tupleHashOf [(PySem.strKind P w).hash k.1, tupleKeyHash (PySem.intKind P w) k.2]) && decide (Builtin.Tuple.tupleHashOf [(PySem.strKind P w).hash k.1, tupleKeyHash (PySem.intKind P w) k.2] < 2 ^ 63)) = true then _ else _) Q E _
   unfold cellHash reduceHash at h
   have e3 : s.toks + (k.2.length + 2) + 1 = s.toks + (k.2.length + 3) := by omega
   by_cases hr : (decide (-(2 : Int) ^ 63 ≤ Builtin.Tuple.tupleHashOf [(PySem.strKind P w).hash k.1, tupleKeyHash (PySem.intKind P w) k.2]) && decide (Builtin.Tuple.tupleHashOf [(PySem.strKind P w).hash k.1, tupleKeyHash (PySem.intKind P w) k.2] < 2 ^ 63)) = true
   ·rw [if_pos hr]
    rw [if_pos hr] at h
    exact wpAny_pure (by rw [← e3] at h; exact h)
   ·rw [if_neg hr]
    rw [if_neg hr] at h
    exact wpAny_bind (wpAny_rule (wpAny_pure (by rw [← e3] at h; exact h)))
theorem cell_eq_tree {x y : CK} {a b : Addr} {R : Fin → Shared → Prop} (hu : A.units < cLine) (hx : CellKey P w s.heap x a) (hy : CellKey P w s.heap y b) (h : R (.done (.ret (.bool (decide (x = y))))) s) :
  wpAny (model P w) A (Builtin.«tuple.__eq__» ⟨[.ref a, .ref b], []⟩) R E s := by
 have hTb := hy.typeIs
 obtain ⟨oa, c, t, na, hoa, _, hda, hia⟩ := hx
 obtain ⟨ob, d, t', nb, hob, _, hdb, hib⟩ := hy
 have hst : (PySem.strKind P w).is x.1 (.str x.1 t) = true := PySem.strKind_is P w x.1 t
 have hst' : (PySem.strKind P w).is y.1 (.str y.1 t') = true := PySem.strKind_is P w y.1 t'
 show wpAny _ _ (isInstance (.ref b) (.type "tuple") >>= _) _ _ s
 refine wpAny_bind (wpAny_isInstance hTb isSubtype_tuple_tuple ?_)
 simp only [Bool.not_true, Bool.false_eq_true, if_false]
 refine wpAny_bind (wpAny_tupleItemsOf hoa hda ?_)
 refine wpAny_bind (wpAny_tupleItemsOf hob hdb ?_)
 refine wpAny_bind ?_
 refine wpAny_forIn_list _
  (fun rest r s' => r.1 = none ∧ s' = s ∧ (rest = [(.str x.1 t, .str y.1 t'), (.ref c, .ref d)] ∨ (rest = [(.ref c, .ref d)] ∧ x.1 = y.1) ∨ (rest = [] ∧ x = y)))
  _ ?_ ?_ _ _ ⟨rfl, rfl, .inl rfl⟩
 ·rintro ⟨u, v⟩ rest r s' ⟨hr, rfl, e | ⟨e, e1⟩ | ⟨e, e1⟩⟩
  ·simp only [List.cons.injEq, Prod.mk.injEq] at e
   obtain ⟨⟨rfl, rfl⟩, rfl⟩ := e
   refine wpAny_bind ((PySem.strKind P w).eqBool (a := x.1) (b := y.1) hst hst' ?_)
   by_cases hk : x.1 = y.1
   ·rw [decide_eq_true hk]
    simp only [Bool.not_true, Bool.false_eq_true, if_false]
    exact wpAny_pure ⟨rfl, rfl, .inr (.inl ⟨trivial, hk⟩)⟩
   ·rw [decide_eq_false hk]
    simp only [Bool.not_false, if_true]
    have hf : decide (x = y) = false := decide_eq_false fun z => hk (congrArg Prod.fst z)
    rw [hf] at h
    exact wpAny_bind (wpAny_pure (wpAny_pure (wpAny_pure h)))
  ·simp only [List.cons.injEq, Prod.mk.injEq] at e
   obtain ⟨⟨rfl, rfl⟩, rfl⟩ := e
   refine wpAny_bind (wpAny_eqBool_tuple (knd := PySem.intKind P w) (x := x.2) (y := y.2) hu hia hib ?_)
   by_cases hk : x.2 = y.2
   ·rw [decide_eq_true hk]
    simp only [Bool.not_true, Bool.false_eq_true, if_false]
    exact wpAny_pure ⟨rfl, rfl, .inr (.inr ⟨trivial, Prod.ext e1 hk⟩)⟩
   ·rw [decide_eq_false hk]
    simp only [Bool.not_false, if_true]
    have hf : decide (x = y) = false := decide_eq_false fun z => hk (congrArg Prod.snd z)
    rw [hf] at h
    exact wpAny_bind (wpAny_pure (wpAny_pure (wpAny_pure h)))
  ·exact nomatch e
 ·rintro ⟨r1, r2⟩ s' ⟨hr, rfl, e | ⟨e, e1⟩ | ⟨e, e1⟩⟩
  ·exact nomatch e
  ·exact nomatch e
  ·simp only at hr
   subst hr
   refine wpAny_pure ?_
   rw [decide_eq_true e1] at h
   exact h
theorem eqBool_cell {x y : CK} {a b : Addr} {Q : Bool → Shared → Prop} (hu : A.units + 1 < cLine) (hx : CellKey P w s.heap x a) (hy : CellKey P w s.heap y b) (h : Q (decide (x = y)) s) :
  wpAny (model P w) A (eqBool (.ref a) (.ref b)) Q E s := by
 unfold eqBool
 try with_reducible refine wpAny_holding ?_
 show wpAny _ _ (if (Value.ref a == Value.ref b) = true then _ else _) Q E s
 by_cases hab : (Value.ref a == Value.ref b) = true
 ·rw [if_pos hab]
  have e : a = b := by have := eq_of_beq hab; injection this
  subst e
  obtain rfl := hx.inj hy
  exact wpAny_bind (wpAny_rule (wpAny_pure (by simpa using h)))
 ·rw [if_neg hab]
  exact wpAny_bind (wpAny_richCompare_same_room (op := .Eq) hx.typeIs hy.typeIs F.slot_tuple_eq
   (wpAny_call_entry F.slot_tuple_eq hx.typeIs F.entry_tuple_eq (cell_eq_tree hu hx hy ⟨_, rfl, (fun e => nomatch e), wpAny_truthy_bool h⟩) (F.args_tuple_eq_2 _ _)) (by omega))
theorem quiet_tupN {K : Type} [DecidableEq K] {knd : KeyKind P w K} {ks : List K} {a : Addr} {Q : Bool → Shared → Prop} (n : Nat) (hk : IsTupleKey knd s.heap ks a) (h : Q true s) : wpAny (model P w) A (eqIsQuiet (n + 1) (.ref a)) Q E s := by
 have hT := hk.typeIs
 obtain ⟨o, items, m, ho, _, hd, hi⟩ := hk
 unfold eqIsQuiet
 refine wpAny_bind (wpAny_specialOf hT F.slot_tuple_eq.lookup ?_)
 show wpAny _ _ (isInstance (.ref a) (.type "tuple") >>= _) _ _ s
 refine wpAny_bind (wpAny_isInstance hT isSubtype_tuple_tuple ?_)
 simp only [Bool.not_true, Bool.false_eq_true, if_false]
 refine wpAny_bind (wpAny_seqItems ho hd ?_)
 refine wpAny_bind ?_
 show wpAny _ _ (forIn items _ _) _ _ s
 rw [← Array.forIn_toList]
 refine wpAny_forIn_list _ (fun rest r s' => r.1 = none ∧ s' = s ∧ ∀ v ∈ rest, carriedByValue v = true) _ ?_ ?_ _ _ ⟨rfl, rfl, hi.byValue⟩
 ·rintro v rest r s' ⟨hr, rfl, hall⟩
  rw [eqIsQuiet_byValue _ (hall v List.mem_cons_self)]
  refine wpAny_bind (wpAny_pure ?_)
  simp only [Bool.not_true, Bool.false_eq_true, if_false]
  exact wpAny_pure ⟨rfl, rfl, fun u hu' => hall u (List.mem_cons_of_mem _ hu')⟩
 ·rintro ⟨r1, r2⟩ s' ⟨hr, rfl, _⟩
  simp only at hr
  subst hr
  exact wpAny_pure h
theorem quiet_cell {k : CK} {a : Addr} {Q : Bool → Shared → Prop} (hk : CellKey P w s.heap k a) (h : Q true s) : wpAny (model P w) A (eqIsQuiet 8 (.ref a)) Q E s := by
 have hT := hk.typeIs
 obtain ⟨o, c, t, m, ho, _, hd, hi⟩ := hk
 unfold eqIsQuiet
 refine wpAny_bind (wpAny_specialOf hT F.slot_tuple_eq.lookup ?_)
 show wpAny _ _ (isInstance (.ref a) (.type "tuple") >>= _) _ _ s
 refine wpAny_bind (wpAny_isInstance hT isSubtype_tuple_tuple ?_)
 simp only [Bool.not_true, Bool.false_eq_true, if_false]
 refine wpAny_bind (wpAny_seqItems ho hd ?_)
 refine wpAny_bind ?_
 show wpAny _ _ (forIn #[Value.str k.1 t, .ref c] _ _) _ _ s
 rw [← Array.forIn_toList]
 refine wpAny_forIn_list _ (fun rest r s' => r.1 = none ∧ s' = s ∧ ∀ v ∈ rest, carriedByValue v = true ∨ v = .ref c) _ ?_ ?_ _ _ ⟨rfl, rfl, fun v hv => by simp at hv; rcases hv with rfl | rfl; exact .inl rfl; exact .inr rfl⟩
 ·rintro v rest r s' ⟨hr, rfl, hall⟩
  have go : wpAny (model P w) A (eqIsQuiet 7 v) (fun b s1 => b = true ∧ s1 = s') E s' := by
   rcases hall v List.mem_cons_self with e | rfl
   ·rw [eqIsQuiet_byValue _ e]; exact wpAny_pure ⟨rfl, rfl⟩
   ·exact quiet_tupN 6 hi ⟨rfl, rfl⟩
  refine wpAny_bind (wpAny_mono go ?_ fun _ _ z => z)
  rintro b s1 ⟨rfl, rfl⟩
  simp only [Bool.not_true, Bool.false_eq_true, if_false]
  exact wpAny_pure ⟨rfl, rfl, fun u hu' => hall u (List.mem_cons_of_mem _ hu')⟩
 ·rintro ⟨r1, r2⟩ s' ⟨hr, rfl, _⟩
  simp only at hr
  subst hr
  exact wpAny_pure h
def cellKind (P : Program) (w : World) : HeapKind P w CK where
 is := CellKey P w
 hash := cellHash P w
 draws := fun k => k.2.length + 3
 room := fun A => A.units + 1 < cLine
 inj := fun hx hy => hx.inj hy
 keeps := fun x ho hd hs => x.keeps ho hd hs
 pyHash := fun hu hk h => pyHash_cell hu hk h
 eqBool := fun hu hx hy h => eqBool_cell hu hx hy h
 quiet := fun hk h => quiet_cell hk h
end
end L2

set_option Elab.async false
set_option linter.all false
set_option maxRecDepth 100000
set_option maxHeartbeats 1000000
namespace L2
open PySem PySem.Spec PyProof.Rows
def Raw (h : Heap) (d : Addr) (es : Array DictEntry) (ep : Nat) : Prop := ∃ o, h.get? d = some o ∧ o.ExactDict ∧ o.data = .dict es ep
theorem Raw.typeIs {s : Shared} {d : Addr} {es : Array DictEntry} {ep : Nat} (m : Raw s.heap d es ep) : s.TypeIs (.ref d) "dict" := let ⟨o, ho, hc, _⟩ := m; ⟨o, ho, hc.1⟩
theorem Raw.at {h h' : Heap} {d : Addr} {es : Array DictEntry} {ep : Nat} (m : Raw h d es ep) (k : ∀ o, h.get? d = some o → h'.get? d = some o) : Raw h' d es ep := let ⟨o, ho, r⟩ := m; ⟨o, k o ho, r⟩
theorem Raw.lt {h : Heap} {d : Addr} {es : Array DictEntry} {ep : Nat} (m : Raw h d es ep) : d < h.objs.size := let ⟨o, ho, _⟩ := m; Heap.lt_size ho
section
variable {P : Program} {w : World} {A : Around} {E : Value → Shared → Prop} {s : Shared} {d it : Addr} {es : Array DictEntry} {ep i : Nat}
theorem raw_iter {Q : Value → Shared → Prop} (hd : (d == sysModules) = false) (hm : Raw s.heap d es ep)
  (hQ : Q (.ref s.heap.objs.size) { s with heap := s.heap.push { cls := .type "dict_keyiterator", data := .fields #[.ref d, .int 0 0, .int es.size 0, .int ep 0] } }) : wpAny (model P w) A (pyIter (.ref d)) Q E s := by
 have hT := hm.typeIs
 obtain ⟨o, ho, hc, hdat⟩ := hm
 refine wpAny_pyIter_slot hT F.slot_dict_iter (wpAny_call_entry F.slot_dict_iter hT F.entry_dict_iter ?_ (F.args_dict_iter_1 _))
 unfold Builtin.«dict.__iter__»
 refine wpAny_bind ?_
 unfold Builtin.Dict.dictSlotNone
 refine wpAny_bind (wpAny_notOrdered_dict hT ?_)
 show wpAny _ _ (pure (Value.ref d)) _ _ s
 refine wpAny_pure ?_
 show wpAny _ _ (Builtin.Dict.showsAll d >>= _) _ _ s
 unfold Builtin.Dict.showsAll
 rw [if_neg (by rw [hd]; exact Bool.false_ne_true)]
 refine wpAny_bind (wpAny_pure (wpAny_bind (wpAny_dictEntries ho hdat (wpAny_bind (wpAny_dictEpoch ho hdat ?_)))))
 refine wpAny_bind (wpAny_newObj_type (wpAny_pure ⟨_, rfl, "dict_keyiterator", _, ⟨_, Heap.get?_push_size _ rfl, rfl⟩, F.slot_dict_keyiterator_next.lookup, ?_⟩))
 simpa [rawInt] using hQ
theorem raw_item {Q : Option Value → Shared → Prop} (hit : s.heap.IsKeyIter it d i es.size ep) (hm : Raw s.heap d es ep) (hlt : i < es.size)
  (hQ : ∀ h', h'.IsKeyIter it d (i + 1) es.size ep → Heap.SameBut it s.heap h' → Q (some es[i].key) { s with heap := h' }) : wpAny (model P w) A (pyNext (.ref it)) Q E s := by
 obtain ⟨o, ho, hc, hd⟩ := id hit
 obtain ⟨od, hod, hcd, hdd⟩ := id hm
 unfold pyNext
 refine wpAny_bind (wpAny_attempt (wpAny_callSpecial?_slot (name := Str.ofString "__next__") hit.typeIs F.slot_dict_keyiterator_next (wpAny_call_entry F.slot_dict_keyiterator_next hit.typeIs F.entry_dict_keyiterator_next ?_ (F.args_dict_keyiterator_next_1 _))))
 refine wpAny_bind (wpAny_pure (wpAny_bind (wpAny_bind ?_)))
 first | refine wpAny_bind (wpAny_typeNameOfWhole_keyiter hit.typeIs (wpAny_pure ?_)) | refine wpAny_bind (wpAny_typeNameOf_keyiter hit.typeIs (wpAny_pure ?_))
 refine wpAny_bind (wpAny_fieldsOf ho hd ?_)
 have hown : Builtin.Dict_items.ownsTuple "dict_keyiterator" = false := by decide
 simp only [hown, Bool.false_eq_true, if_false]
 show wpAny _ _ (if (Value.ref d == Value.none) = true then _ else _) _ _ s
 rw [if_neg (show ¬ ((Value.ref d == Value.none) = true) from Bool.false_ne_true)]
 refine wpAny_bind (wpAny_pure (wpAny_bind (wpAny_dictEntries hod hdd ?_)))
 rw [if_neg (by simp)]
 refine wpAny_bind (wpAny_pure (wpAny_bind (wpAny_dictEpoch hod hdd ?_)))
 rw [if_neg (by simp)]
 refine wpAny_pure ?_
 simp only [show ¬ ((i : Int) < 0) from by omega, if_false, Int.toNat_natCast, Array.getElem?_eq_getElem hlt]
 refine wpAny_bind ?_
 first | refine wpAny_bind (wpAny_typeNameOfWhole_keyiter hit.typeIs (wpAny_pure ?_)) | refine wpAny_bind (wpAny_typeNameOf_keyiter hit.typeIs (wpAny_pure ?_))
 refine wpAny_bind (wpAny_isOneOf_keyiter hit.typeIs ?_)
 show wpAny _ _ (setField (.ref it) 1 (rawInt ((i : Int) + 1)) >>= _) _ _ s
 refine wpAny_bind (wpAny_setField ho hd (by simp) ?_)
 have hit' : (s.heap.update it (Obj.mapFields (·.setIfInBounds 1 (rawInt ((i : Int) + 1))))).IsKeyIter it d (i + 1) es.size ep :=
  ⟨_, Heap.get?_update_self _ ho (Obj.isFreed_of_fields (Obj.data_mapFields hd _)), (Obj.cls_mapFields ..).trans hc, by rw [Obj.data_mapFields hd]; simp [rawInt]⟩
 refine wpAny_bind (wpAny_holding ?_)
 refine wpAny_bind (wpAny_isOneOf_keyiter (s := { s with heap := s.heap.update it (Obj.mapFields (·.setIfInBounds 1 (rawInt ((i : Int) + 1)))) }) hit'.typeIs ?_)
 show wpAny _ _ (pure es[i].key) _ _ _
 exact wpAny_pure (wpAny_pure ⟨_, rfl, wpAny_pure (hQ _ hit' (Heap.SameBut.update ..))⟩)
theorem raw_end {Q : Option Value → Shared → Prop} (hh : A.handled = none) (hit : s.heap.IsKeyIter it d es.size es.size ep) (hm : Raw s.heap d es ep)
  (hQ : ∀ h', Heap.ExtBut it s.heap h' → Q none { s with heap := h' }) : wpAny (model P w) A (pyNext (.ref it)) Q E s := by
 obtain ⟨o, ho, hc, hd⟩ := id hit
 obtain ⟨od, hod, hcd, hdd⟩ := id hm
 unfold pyNext
 refine wpAny_bind (wpAny_attempt (wpAny_callSpecial?_slot (name := Str.ofString "__next__") hit.typeIs F.slot_dict_keyiterator_next (wpAny_call_entry F.slot_dict_keyiterator_next hit.typeIs F.entry_dict_keyiterator_next ?_ (F.args_dict_keyiterator_next_1 _))))
 refine wpAny_bind (wpAny_pure (wpAny_bind (wpAny_bind ?_)))
 first | refine wpAny_bind (wpAny_typeNameOfWhole_keyiter hit.typeIs (wpAny_pure ?_)) | refine wpAny_bind (wpAny_typeNameOf_keyiter hit.typeIs (wpAny_pure ?_))
 refine wpAny_bind (wpAny_fieldsOf ho hd ?_)
 have hown : Builtin.Dict_items.ownsTuple "dict_keyiterator" = false := by decide
 simp only [hown, Bool.false_eq_true, if_false]
 show wpAny _ _ (if (Value.ref d == Value.none) = true then _ else _) _ _ s
 rw [if_neg (show ¬ ((Value.ref d == Value.none) = true) from Bool.false_ne_true)]
 refine wpAny_bind (wpAny_pure (wpAny_bind (wpAny_dictEntries hod hdd ?_)))
 rw [if_neg (by simp)]
 refine wpAny_bind (wpAny_pure (wpAny_bind (wpAny_dictEpoch hod hdd ?_)))
 rw [if_neg (by simp)]
 refine wpAny_pure ?_
 simp only [show ¬ ((es.size : Int) < 0) from by omega, if_false, Int.toNat_natCast, Array.getElem?_eq_none (Nat.le_refl es.size)]
 refine wpAny_bind ?_
 first | refine wpAny_bind (wpAny_typeNameOfWhole_keyiter hit.typeIs (wpAny_pure ?_)) | refine wpAny_bind (wpAny_typeNameOf_keyiter hit.typeIs (wpAny_pure ?_))
 show wpAny _ _ (setField (.ref it) 0 .none >>= _) _ _ s
 refine wpAny_bind (wpAny_setField ho hd (by simp) ?_)
 show wpAny _ _ (newExc (.type "StopIteration") [] >>= _) _ _ _
 refine wpAny_bind ?_
 simp only [newExc, newTuple]
 refine wpAny_bind (wpAny_newObj_type ?_ (by size_fits))
 refine wpAny_bind (m := firstArgMember _ _) (wpAny_of_eq (a := Value.none) (by first | rfl | (simp only [firstArgMember]; rfl)) ?_)
 refine wpAny_newObj_type ?_ (by size_fits)
 simp only [raiseNew]
 refine wpAny_bind (wpAny_handled ?_)
 rw [show A.in1.handled = none from hh]
 refine wpAny_bind (wpAny_pure (wpAny_throw ?_))
 refine wpAny_bind (wpAny_isInstance (T := "StopIteration") (b := true) ⟨_, Heap.get?_push_size _ rfl, rfl⟩ isSubtype_stop ?_)
 exact wpAny_pure (hQ _ (((Heap.SameBut.update ..).extBut.push _).push _))
theorem raw_walks (hh : A.handled = none) (I d : Addr) (hne : d ≠ I) (es : Array DictEntry) (ep : Nat) :
  Walks P w A I [I, d] [I] es.size (fun i v => ∃ e, es[i]? = some e ∧ v = e.key) (fun i h => h.IsKeyIter I d i es.size ep ∧ Raw h d es ep) where
 sub := fun b hb => by simp at hb; simp [hb]
 frame := fun _ _ _ st hk => ⟨st.1.at fun o e => hk I (by simp) o e, st.2.at fun o e => hk d (by simp) o e⟩
 item := fun i s Q E hi st hQ => raw_item st.1 st.2 hi fun h' hit' hs' =>
  hQ _ h' s.toks ⟨es[i], by simp [hi], rfl⟩ ⟨hit', st.2.at fun o e => hs'.extBut d o hne e⟩ fun b o hb e => hs'.extBut b o (fun h => hb (by simp [h])) e
 done := fun s Q E st hQ => raw_end hh st.1 st.2 fun h' he' => hQ h' s.toks fun b o hb e => he' b o (fun h => hb (by simp [h])) e
 self := fun _ _ _ _ st hQ => wpAny_pyIter_keyiter st.1 hQ
theorem raw_src (lo : (d == sysModules) = false) : PySem.W.KdlSrc P w "dict" d d es.size (fun i v => ∃ e, es[i]? = some e ∧ v = e.key) (fun h => Raw h d es ep) where
 type := fun _ hm => hm.typeIs
 there := fun _ hm => ⟨hm.lt, hm.lt⟩
 keep := fun _ _ hm hk => hm.at fun o e => hk d (.inl rfl) o e
 notList := by decide
 notTuple := by decide
 hint := fun _ _ _ _ hm hq => PySem.W.kdl_hint_dict hm.typeIs hq
 iter := fun _ _ hh hm => ⟨_, _, (fun _ _ hq => raw_iter lo hm hq), raw_walks hh _ d (Nat.ne_of_lt hm.lt) es ep, ⟨⟨_, Heap.get?_push_size _ rfl, rfl, rfl⟩, hm.at fun o e => Heap.get?_push_of_some _ e⟩⟩
end
end L2

set_option Elab.async false
set_option linter.all false
set_option maxRecDepth 100000
set_option maxHeartbeats 1000000
namespace L2
open PySem PySem.Spec PyProof.Rows
abbrev CD := List (CK × Addr × V)
def valC (cd : CD) (k : CK) : Option V := (cd.find? fun x => decide (x.1 = k)).map (·.2.2)
def putC (cd : CD) (k : CK) (q : Addr) (v : V) : CD := if (valC cd k).isSome then cd.map (fun x => if x.1 = k then (x.1, x.2.1, v) else x) else cd ++ [(k, q, v)]
theorem putC_new {cd : CD} {k : CK} (h : valC cd k = none) (q : Addr) (v : V) : putC cd k q v = cd ++ [(k, q, v)] := by unfold putC; rw [h]; rfl
theorem valC_none {cd : CD} {k : CK} (h : ¬ k ∈ cd.map (·.1)) : valC cd k = none := by
 unfold valC
 rw [List.find?_eq_none.mpr fun x hx e => h (List.mem_map.mpr ⟨x, hx, of_decide_eq_true e⟩)]
 rfl
theorem valC_some {cd : CD} (hn : (cd.map (·.1)).Nodup) {k : CK} {q : Addr} {v : V} (h : (k, q, v) ∈ cd) : valC cd k = some v := by
 induction cd with
 | nil => exact nomatch h
 | cons x r ih =>
  rw [List.map_cons, List.nodup_cons] at hn
  rcases List.mem_cons.mp h with e | h
  ·subst e; simp [valC]
  ·have : ¬ x.1 = k := fun e => hn.1 (List.mem_map.mpr ⟨_, h, e.symm⟩)
   have := ih hn.2 h
   simp only [valC, List.find?_cons] at this ⊢
   rw [decide_eq_false ‹_›]
   exact this
abbrev CRel : CD → List (CK × Addr × Value) → Prop := Paired fun p q => p.1 = q.1 ∧ p.2.1 = q.2.1 ∧ RelV p.2.2 q.2.2
theorem CRel.val {cd : CD} {xs : List (CK × Addr × Value)} (r : CRel cd xs) (k : CK) : RelO (valC cd k) ((atKey xs k).map (·.2)) := by
 induction r with
 | nil => exact True.intro
 | @cons p q _ _ h t ih =>
  obtain ⟨e1, e2, e3⟩ := h
  by_cases hk : p.1 = k
  ·have a : decide (q.1 = k) = true := decide_eq_true (e1 ▸ hk)
   simp only [valC, atKey, List.find?_cons, decide_eq_true hk, a, Option.map_some]
   exact e3
  ·have a : decide (q.1 = k) = false := decide_eq_false (e1 ▸ hk)
   simp only [valC, atKey, List.find?_cons, decide_eq_false hk, a] at ih ⊢
   exact ih
theorem CRel.keys {cd : CD} {xs : List (CK × Addr × Value)} (r : CRel cd xs) : cd.map (·.1) = xs.map (·.1) := by
 induction r with
 | nil => rfl
 | cons h _ ih => rw [List.map_cons, List.map_cons, ih, h.1]
theorem CRel.put {cd : CD} {xs : List (CK × Addr × Value)} (r : CRel cd xs) (k : CK) (q : Addr) {v : V} {u : Value} (rv : RelV v u) : CRel (putC cd k q v) (storedH xs k q u) := by
 have hs := (r.val k).isSome_eq
 rw [Option.isSome_map] at hs
 unfold putC storedH
 rw [hs]
 by_cases c : (atKey xs k).isSome = true
 ·rw [if_pos c, if_pos c]
  clear hs c
  induction r with
  | nil => exact .nil
  | @cons p q _ _ h t ih =>
   rw [List.map_cons, List.map_cons]
   refine .cons ?_ ih
   obtain ⟨e1, e2, e3⟩ := h
   by_cases hk : p.1 = k
   ·rw [if_pos hk, putAt, if_pos (e1 ▸ hk)]; exact ⟨e1, e2, rv⟩
   ·rw [if_neg hk, putAt, if_neg (e1 ▸ hk)]; exact ⟨e1, e2, e3⟩
 ·rw [if_neg c, if_neg c]
  clear hs c
  induction r with
  | nil => exact .cons ⟨rfl, rfl, rv⟩ .nil
  | cons h _ ih => exact .cons h ih
theorem putC_nodup {cd : CD} (h : (cd.map (·.1)).Nodup) (k : CK) (q : Addr) (v : V) : ((putC cd k q v).map (·.1)).Nodup := by
 unfold putC
 by_cases c : (valC cd k).isSome = true
 ·rw [if_pos c, List.map_map]
  have : ((fun x => x.1) ∘ fun x : CK × Addr × V => if x.1 = k then (x.1, x.2.1, v) else x) = fun x => x.1 := by funext x; show (if x.1 = k then _ else x).1 = x.1; split <;> rfl
  rw [this]; exact h
 ·rw [if_neg c, List.map_append, List.nodup_append]
  refine ⟨h, by simp, fun a ha b hb => ?_⟩
  simp only [List.map_cons, List.map_nil, List.mem_singleton] at hb
  subst hb
  rintro rfl
  obtain ⟨x, hx, rfl⟩ := List.mem_map.mp ha
  exact c (by rw [valC_some h (show (x.1, x.2.1, x.2.2) ∈ cd from hx)]; rfl)
theorem putC_length (cd : CD) (k : CK) (q : Addr) (v : V) : (putC cd k q v).length ≤ cd.length + 1 := by
 unfold putC
 split
 ·rw [List.length_map]; omega
 ·simp
def CellD (P : Program) (w : World) (a : Addr) (cd : CD) : HO := .ext fun h => cd.length ≤ sizeLine ∧ (a == sysModules) = false ∧ (cd.map (·.1)).Nodup ∧ ∃ xs ep, CRel cd xs ∧ Raw h a (xs.map (entryOfKey (cellKind P w))).toArray ep
def CellAt (H : Hp) (k : CK) (q : Addr) : Prop := ∃ b, H q = some (.tup [.str k.1, .ref b]) ∧ H b = some (.tup (k.2.map V.int))
def KeysAt (H : Hp) (cd : CD) : Prop := ∀ x ∈ cd, CellAt H x.1 x.2.1
theorem CellAt.keep {H H' : Hp} {k : CK} {q : Addr} (h : CellAt H k q) (t : ∀ a xs, H a = some (.tup xs) → H' a = some (.tup xs)) : CellAt H' k q := let ⟨b, x, y⟩ := h; ⟨b, t _ _ x, t _ _ y⟩
theorem KeysAt.keep {H H' : Hp} {cd : CD} (h : KeysAt H cd) (t : ∀ a xs, H a = some (.tup xs) → H' a = some (.tup xs)) : KeysAt H' cd := fun x hx => (h x hx).keep t
theorem KeysAt.put {H : Hp} {cd : CD} (h : KeysAt H cd) {k : CK} {q : Addr} (c : CellAt H k q) (v : V) : KeysAt H (putC cd k q v) := by
 intro x hx
 unfold putC at hx
 split at hx
 ·obtain ⟨y, hy, rfl⟩ := List.mem_map.mp hx
  split
  ·exact h y hy
  ·exact h y hy
 ·rcases List.mem_append.mp hx with hx | hx
  ·exact h x hx
  ·rw [List.mem_singleton.mp hx]; exact c
section
variable {P : Program} {w : World} {H : Hp} {h : Heap} {a : Addr}
theorem ints_are : ∀ {ns : List Int} {us : List Value}, Vals (ns.map V.int) us → ItemsAre (PySem.intKind P w) ns us
 | [], _, .nil => .nil
 | n :: ns, _, .cons r t => by
  obtain ⟨k, rfl⟩ := r
  exact .cons (by simp [PySem.intKind, Value.isInt]) (ints_are t)
theorem CellAt.key {k : CK} {q : Addr} (c : CellAt H k q) (ok : HOk P w H h) : CellKey P w h k q := by
 obtain ⟨b, hq, hb⟩ := c
 obtain ⟨_, its, r, o, h1, h2, n, h3⟩ := (show ObjOk P w H h q (.tup [.str k.1, .ref b]) from ok q _ hq)
 obtain ⟨_, its', r', o', h1', h2', n', h3'⟩ := (show ObjOk P w H h b (.tup (k.2.map V.int)) from ok b _ hb)
 cases r with
 | cons r1 t1 => cases t1 with
  | cons r2 t2 => cases t2 with
   | nil =>
    obtain ⟨t, rfl⟩ := r1
    obtain rfl := r2
    exact ⟨o, b, t, n, h1, h2, h3, o', its'.toArray, n', h1', h2', h3', by simpa using ints_are r'⟩
theorem cd_of {cd : CD} (ok : HOk P w H h) (e : H a = some (CellD P w a cd)) (ks : KeysAt H cd) :
  cd.length ≤ sizeLine ∧ (a == sysModules) = false ∧ ∃ xs, CRel cd xs ∧ h.DictOfH (cellKind P w) a xs := by
 obtain ⟨⟨hl, hs, hn, xs, ep, r, o, ho, hx, hd⟩, _⟩ := (show ObjOk P w H h a (CellD P w a cd) from ok a _ e)
 refine ⟨hl, hs, xs, r, o, _, ep, ho, hx, hd, by simp, ?_, by rw [← r.keys]; exact hn⟩
 have all : ∀ {l : CD} {m : List (CK × Addr × Value)}, CRel l m → (∀ x ∈ l, CellAt H x.1 x.2.1) → ∀ x ∈ m, CellKey P w h x.1 x.2.1 := by
  intro l m q
  induction q with
  | nil => intro _ x hx; exact nomatch hx
  | @cons p q ps qs hq t ih =>
   intro hc x hx
   rcases List.mem_cons.mp hx with e | hx
   ·subst e
    have := (hc p List.mem_cons_self).key ok
    rw [hq.1, hq.2.1] at this
    exact this
   ·exact ih (fun y hy => hc y (List.mem_cons_of_mem _ hy)) x hx
 exact all r ks
theorem cellD_new {cd : CD} {xs : List (CK × Addr × Value)} (hl : cd.length ≤ sizeLine) (hs : (a == sysModules) = false) (hn : (cd.map (·.1)).Nodup) (r : CRel cd xs) {H' : Hp} (d : h.DictOfH (cellKind P w) a xs) : ObjOk P w H' h a (CellD P w a cd) := by
 obtain ⟨o, es, ep, ho, hx, hd, he, _, _⟩ := d
 have e : es = (xs.map (entryOfKey (cellKind P w))).toArray := by rw [← he]
 subst e
 refine ⟨⟨hl, hs, hn, xs, ep, r, o, ho, hx, hd⟩, ⟨o, ho⟩, ?_⟩
 rintro h1 h2 ⟨a1, a2, a3, ys, ep', r', m⟩ k
 exact ⟨a1, a2, a3, ys, ep', r', m.at k⟩
end
section
variable {X : Cx} {pins : List (Addr × Obj)} {σ : St} {H : Hp} {s : Shared} {a q : Addr} {cd : CD} {k : CK} {v : V} {r : Value} {A : Around} {E : Value → Shared → Prop}
theorem c_getItem {Q : Value → Shared → Prop} (hu : A.units + 2 < cLine) (I : Inv X pins σ H s) (e : H a = some (CellD X.prog X.w a cd)) (ks : KeysAt H cd) (c : CellAt H k q) (hv : valC cd k = some v) (h : ∀ w' s', Inv X pins σ H s' → RelV v w' → Q w' s') :
  wpAny (model X.prog X.w) A (getItem (.ref a) (.ref q)) Q E s := by
 obtain ⟨_, _, xs, rel, dd⟩ := cd_of I.hok e ks
 obtain ⟨w', hw, rw'⟩ := RelO.some_of (v := v) (o := (atKey xs k).map (·.2)) (by rw [← hv]; exact rel.val k)
 obtain ⟨p, hp, hp2⟩ := Option.map_eq_some_iff.mp hw
 refine wpAny_getItem_heap (knd := cellKind X.prog X.w) (show A.in1.units + 1 < cLine from hu) (c.key I.hok) dd hp ?_
 rw [hp2]
 exact h w' _ (I.tok _) rw'
theorem c_notIn {Q : Value → Shared → Prop} (hu : A.units + 2 < cLine) (I : Inv X pins σ H s) (e : H a = some (CellD X.prog X.w a cd)) (ks : KeysAt H cd) (c : CellAt H k q) (h : ∀ s', Inv X pins σ H s' → Q (.bool (!(valC cd k).isSome)) s') :
  wpAny (model X.prog X.w) A (compareOp .NotIn (.ref q) (.ref a)) Q E s := by
 obtain ⟨_, hd, xs, rel, dd⟩ := cd_of I.hok e ks
 refine wpAny_notIn_heap (knd := cellKind X.prog X.w) (show A.in1.units + 1 < cLine from hu) (c.key I.hok) hd dd ?_
 have z := (rel.val k).isSome_eq
 rw [Option.isSome_map] at z
 rw [← z]
 exact h _ (I.tok _)
theorem c_setItem {Q : Unit → Shared → Prop} (hu : A.units + 2 < cLine) (I : Inv X pins σ H s) (e : H a = some (CellD X.prog X.w a cd)) (ks : KeysAt H cd) (c : CellAt H k q) (hl : cd.length < sizeLine) (rv : RelV v r) (h : ∀ s', Inv X pins σ (upd H a (CellD X.prog X.w a (putC cd k q v))) s' → Q () s') :
  wpAny (model X.prog X.w) A (setItem (.ref a) (.ref q) r) Q E s := by
 obtain ⟨z, hd, xs, rel, dd⟩ := cd_of I.hok e ks
 have hn : (cd.map (·.1)).Nodup := by
  obtain ⟨⟨_, _, hn, _⟩, _⟩ := (show ObjOk X.prog X.w H s.heap a (CellD X.prog X.w a cd) from I.hok a _ e)
  exact hn
 refine wpAny_setItem_heap (knd := cellKind X.prog X.w) (hsz := by rw [← Paired.length rel]; exact z) (show A.in1.units + 1 < cLine from hu) (c.key I.hok) dd fun h' dd' hs => h _ ?_
 refine d_write I (by rw [e]; exact True.intro) hs (let ⟨o, _, _, ho, _⟩ := dd'; ⟨o, ho⟩) (cellD_new ?_ hd (putC_nodup hn _ _ _) (rel.put k q rv) dd')
 have := putC_length cd k q v
 omega
end
def tCGet (P : Program) (w : World) (td ty : TE) : TE := fun σ H Q => td σ H fun x H1 => ty σ H1 fun y H2 => ∃ a q cd k v, x = .ref a ∧ y = .ref q ∧ H2 a = some (CellD P w a cd) ∧ KeysAt H2 cd ∧ CellAt H2 k q ∧ valC cd k = some v ∧ Q v H2
def tCNotIn (P : Program) (w : World) (ty td : TE) : TE := fun σ H Q => ty σ H fun y H1 => td σ H1 fun x H2 => ∃ a q cd k, x = .ref a ∧ y = .ref q ∧ H2 a = some (CellD P w a cd) ∧ KeysAt H2 cd ∧ CellAt H2 k q ∧ Q (.bl (!(valC cd k).isSome)) H2
def sCPut (P : Program) (w : World) (td ty tv : TE) : TS := fun D σ H => tv σ H fun v H1 => td σ H1 fun x H2 => ty σ H2 fun y H3 => ∃ a q cd k, x = .ref a ∧ y = .ref q ∧ H3 a = some (CellD P w a cd) ∧ KeysAt H3 cd ∧ CellAt H3 k q ∧ cd.length < sizeLine ∧ D.nx σ (upd H3 a (CellD P w a (putC cd k q v)))
def tCNew (P : Program) (w : World) : TE := fun _ H Q => ∀ p, H p = none → Q (.ref p) (upd H p (CellD P w p []))
section
variable {X : Cx} {o i e value : Expr} {pos pos' tpos : Pos} {td ty tv : TE}
theorem pe_cget (hu : X.A.units + 2 < cLine) (ho : PE X o td) (hi : PE X i ty) (hs : NoSl i) : PE X (.Subscript o i pos) (tCGet X.prog X.w td ty) := by
 intro pins s σ H Q I h
 refine subD_of PySem.F.slot_dict_getitem.lookup hs (thn (ho pins s σ H _ I h) fun u s1 ⟨x, H1, I1, rx, q1⟩ => thn (hi pins s1 σ H1 _ I1 q1) fun iv s2 ⟨y, H2, I2, ry, a, q, cd, k, v, ex, ey, ea, ks, c, hv, q2⟩ => ?_)
 subst ex ey
 obtain rfl : u = Value.ref a := rx
 obtain rfl : iv = Value.ref q := ry
 obtain ⟨_, _, xs, _, dd⟩ := cd_of I2.hok ea ks
 exact ⟨dd.typeIs, c_getItem hu I2 ea ks c hv fun w' s3 I3 rw' => ⟨v, H2, I3, rw', q2⟩⟩
theorem pc_cnotin (hu : X.A.units + 2 < cLine) (hi : PE X i ty) (ho : PE X o td) : PC X .NotIn i o (tCNotIn X.prog X.w ty td) := by
 intro pins s σ H Q I h
 refine thn (hi pins s σ H _ I h) fun iv s1 ⟨y, H1, I1, ry, q1⟩ => thn (ho pins s1 σ H1 _ I1 q1) fun u s2 ⟨x, H2, I2, rx, a, q, cd, k, ex, ey, ea, ks, c, q2⟩ => ?_
 subst ex ey
 obtain rfl : u = Value.ref a := rx
 obtain rfl : iv = Value.ref q := ry
 exact c_notIn hu I2 ea ks c fun s3 I3 => ⟨.bl (!(valC cd k).isSome), H2, I3, rfl, q2⟩
theorem ps_cput (hu : X.A.units + 2 < cLine) (ho : PE X o td) (hi : PE X i ty) (hv : PE X value tv) (hs : swapsWith value (some (.Subscript o i pos')) pos.line X.env = pure false) :
  PS X (.Assign [.Subscript o i pos'] value pos) (sCPut X.prog X.w td ty tv) := by
 intro pins s σ H D I h
 refine wpAny_Assign_Subscript (thn (hv pins s σ H _ I h) fun r s1 ⟨v, H1, I1, rv, q1⟩ => thn (ho pins s1 σ H1 _ I1 q1) fun u s2 ⟨x, H2, I2, rx, q2⟩ => thn (hi pins s2 σ H2 _ I2 q2) fun iv s3 ⟨y, H3, I3, ry, a, q, cd, k, ex, ey, ea, ks, c, hl, q3⟩ => ?_) hs
 subst ex ey
 obtain rfl : u = Value.ref a := rx
 obtain rfl : iv = Value.ref q := ry
 exact c_setItem hu I3 ea ks c hl rv fun s4 I4 => ⟨σ, _, I4, q3⟩
theorem pe_cnew : PE X (.Dict [] [] pos) (tCNew X.prog X.w) := fun pins s σ H Q I h =>
 wpAny_Dict_empty ⟨.ref s.heap.objs.size, _, I.laid (a := s.heap.objs.size) (o := CellD X.prog X.w s.heap.objs.size []) (t' := s.toks) (fun _ _ q => Heap.get?_push_of_some _ q) (Nat.le_refl _)
  (cellD_new (cd := []) (xs := []) (Nat.zero_le _) (beq_eq_false_iff_ne.mpr (Ne.symm (Nat.ne_of_lt I.big))) List.nodup_nil .nil (Heap.DictOfH.new s.heap)), rfl, h _ (I.hok.fresh (Nat.le_refl _))⟩
theorem CRel.addrs {cd : CD} {xs : List (CK × Addr × Value)} (r : CRel cd xs) : xs.map (fun x => Value.ref x.2.1) = cd.map fun x => Value.ref x.2.1 := by
 induction r with
 | nil => rfl
 | cons h _ ih => rw [List.map_cons, List.map_cons, ih, h.2.1]
theorem vals_refs : ∀ l : List Addr, Vals (l.map V.ref) (l.map Value.ref)
 | [] => .nil
 | _ :: l => .cons rfl (vals_refs l)
theorem call_listC (hc : X.calm = true) : CallR X (.type "list") (fun xs H Q => ∃ a cd, xs = [.ref a] ∧ H a = some (CellD X.prog X.w a cd) ∧ ∀ l, H l = none → Q (.ref l) (upd H l (.lst (cd.map fun x => .ref x.2.1)))) := by
 intro pins s σ H xs us Q I r h
 obtain ⟨a, cd, rfl, e, q⟩ := h
 obtain ⟨u, rfl, rx⟩ := vals1 r
 cases rx
 obtain ⟨⟨hl, hs, hn, ys, ep, rel, m⟩, _⟩ := (show ObjOk X.prog X.w H s.heap a (CellD X.prog X.w a cd) from I.hok a _ e)
 have hsz : (ys.map (entryOfKey (cellKind X.prog X.w))).toArray.size = cd.length := by rw [List.size_toArray, List.length_map, ← Paired.length rel]
 refine PySem.W.kdl_call (raw_src (P := X.prog) (w := X.w) hs) (I.ok.hd hc) m (by rw [hsz]; exact hl) fun h' tk acc c kp hget hit => ?_
 have hacc : acc.toList = cd.map fun x => Value.ref x.2.1 := by
  rw [← rel.addrs]
  refine List.ext_getElem? fun i => ?_
  rw [Array.getElem?_toList, List.getElem?_map]
  rcases Nat.lt_or_ge i ys.length with hi | hi
  ·have h1 : i < acc.size := by rw [hit.1, List.size_toArray, List.length_map]; exact hi
   obtain ⟨en, he, hv⟩ := hit.2 i acc[i] (by simp [h1])
   simp only [List.getElem?_toArray, List.getElem?_map, List.getElem?_eq_getElem hi, Option.map_some, Option.some.injEq] at he
   rw [Array.getElem?_eq_getElem h1, List.getElem?_eq_getElem hi, hv, ← he]
   rfl
  ·rw [Array.getElem?_eq_none (by rw [hit.1, List.size_toArray, List.length_map]; exact hi), List.getElem?_eq_none hi]
   rfl
 refine ⟨.ref s.heap.objs.size, _, I.laid (t' := tk) kp (Nat.le_refl _) (show ObjOk X.prog X.w _ h' _ (.lst (cd.map fun x => .ref x.2.1)) from ⟨by rw [List.length_map]; exact hl, acc.toList, c, ?_, ?_⟩), rfl, q _ (I.hok.fresh (Nat.le_refl _))⟩
 ·rw [hacc]
  have := vals_refs (cd.map fun x => x.2.1)
  rw [List.map_map, List.map_map] at this
  exact this
 ·rw [hget]
end
end L2

set_option Elab.async false
set_option linter.all false
set_option maxRecDepth 100000
set_option maxHeartbeats 1000000
namespace L2
open PySem PySem.Spec PyProof.Rows
structure Feed (P : Program) (w : World) (i l : Addr) (xs : Array Value) (It : Nat → Heap → Prop) : Prop where
 item : ∀ (A : Around) (s : Shared) (k : Nat) (x : Value) (Q : Value → Shared → Prop) (E : Value → Shared → Prop), It k s.heap → xs[k]? = some x →
  (∀ h', It (k + 1) h' → Heap.SameBut i s.heap h' → Q x { s with heap := h' }) → wpAny (model P w) A (Builtin.SmallTypes.nextOf (.ref i)) Q E s
 fin : ∀ (A : Around) (s : Shared) (k : Nat) (Q : Value → Shared → Prop) (E : Value → Shared → Prop), A.handled = none → It k s.heap → xs[k]? = none →
  (∀ h' e, Heap.ExtBut i s.heap h' → (∃ o, h'.get? e = some o ∧ o.cls = .type "StopIteration") → E (.ref e) { s with heap := h' }) → wpAny (model P w) A (Builtin.SmallTypes.nextOf (.ref i)) Q E s
 keep : ∀ (h h' : Heap) (k : Nat), It k h → (∀ b, b = i ∨ b = l → ∀ o, h.get? b = some o → h'.get? b = some o) → It k h'
section
variable {P : Program} {w : World}
theorem feed_list (i l : Addr) (xs : Array Value) (hne : l ≠ i) : Feed P w i l xs fun k h => h.IsListIter i l k ∧ h.IsList l xs where
 item := fun A s k x Q E st hx hQ => wpAny_nextOf_list_item st.1 st.2 hx fun h' it' hs => hQ h' ⟨it', st.2.extBut hs.extBut hne⟩ hs
 fin := fun A s k Q E hh st hx hE => wpAny_nextOf_list_end hh st.1 st.2 hx hE
 keep := fun h h' k st hk => ⟨st.1.at fun o e => hk i (.inl rfl) o e, st.2.at fun o e => hk l (.inr rfl) o e⟩
section
variable {A : Around} {E : Value → Shared → Prop} {s : Shared}
theorem tup_item {it t : Addr} {k : Nat} {items : Array Value} {x : Value} {Q : Value → Shared → Prop} (hit : s.heap.IsTupleIter it t k) (ht : s.heap.IsTuple t items) (hx : items[k]? = some x)
  (hQ : ∀ h', h'.IsTupleIter it t (k + 1) → Heap.SameBut it s.heap h' → Q x { s with heap := h' }) : wpAny (model P w) A (Builtin.SmallTypes.nextOf (.ref it)) Q E s := by
 obtain ⟨o, ho, hc, hd⟩ := id hit
 obtain ⟨ol, hol, _, nl, hdl⟩ := ht
 unfold Builtin.SmallTypes.nextOf
 refine wpAny_bind (wpAny_callSpecial?_slot (name := Str.ofString "__next__") hit.typeIs F.slot_tuple_iterator_next (wpAny_call_entry F.slot_tuple_iterator_next hit.typeIs F.entry_tuple_iterator_next ?_ (F.args_tuple_iterator_next_1 _)))
 show wpAny _ _ (field (.ref it) 0 >>= _) _ _ s
 refine wpAny_bind (wpAny_field ho hd (x := .ref t) rfl ?_)
 show wpAny _ _ (if (Value.ref t == Value.none) = true then _ else _) _ _ s
 rw [if_neg (show ¬ ((Value.ref t == Value.none) = true) from Bool.false_ne_true)]
 show wpAny _ _ (field (.ref it) 1 >>= _) _ _ s
 refine wpAny_bind (wpAny_field ho hd (x := .int k 0) rfl ?_)
 show wpAny _ _ (seqItems? (.ref t) >>= _) _ _ s
 refine wpAny_bind (wpAny_seqItems hol hdl ?_)
 simp only [Int.toNat_natCast, hx]
 refine wpAny_bind (wpAny_setField ho hd (by simp) (wpAny_pure ⟨x, rfl, wpAny_pure (hQ _ ⟨_, Heap.get?_update_self _ ho (Obj.isFreed_of_fields (Obj.data_mapFields hd _)), (Obj.cls_mapFields ..).trans hc, ?_⟩ (Heap.SameBut.update ..))⟩))
 rw [Obj.data_mapFields hd]; simp [rawInt]
theorem tup_end {it t : Addr} {k : Nat} {items : Array Value} {Q : Value → Shared → Prop} (hh : A.handled = none) (hit : s.heap.IsTupleIter it t k) (ht : s.heap.IsTuple t items) (hx : items[k]? = none)
  (hE : ∀ h' e, Heap.ExtBut it s.heap h' → (∃ o, h'.get? e = some o ∧ o.cls = .type "StopIteration") → E (.ref e) { s with heap := h' }) : wpAny (model P w) A (Builtin.SmallTypes.nextOf (.ref it)) Q E s := by
 obtain ⟨o, ho, hc, hd⟩ := id hit
 obtain ⟨ol, hol, _, nl, hdl⟩ := ht
 unfold Builtin.SmallTypes.nextOf
 refine wpAny_bind (wpAny_callSpecial?_slot (name := Str.ofString "__next__") hit.typeIs F.slot_tuple_iterator_next (wpAny_call_entry F.slot_tuple_iterator_next hit.typeIs F.entry_tuple_iterator_next ?_ (F.args_tuple_iterator_next_1 _)))
 show wpAny _ _ (field (.ref it) 0 >>= _) _ _ s
 refine wpAny_bind (wpAny_field ho hd (x := .ref t) rfl ?_)
 show wpAny _ _ (if (Value.ref t == Value.none) = true then _ else _) _ _ s
 rw [if_neg (show ¬ ((Value.ref t == Value.none) = true) from Bool.false_ne_true)]
 show wpAny _ _ (field (.ref it) 1 >>= _) _ _ s
 refine wpAny_bind (wpAny_field ho hd (x := .int k 0) rfl ?_)
 show wpAny _ _ (seqItems? (.ref t) >>= _) _ _ s
 refine wpAny_bind (wpAny_seqItems hol hdl ?_)
 simp only [Int.toNat_natCast, hx]
 refine wpAny_bind (wpAny_rule (wpAny_bind (wpAny_setField ho hd (by simp) ?_)))
 show wpAny _ _ (newExc (.type "StopIteration") [] >>= _) _ _ _
 refine wpAny_bind ?_
 simp only [newExc, newTuple]
 refine wpAny_bind (wpAny_newObj_type ?_ (by size_fits))
 refine wpAny_bind (m := firstArgMember _ _) (wpAny_of_eq (a := Value.none) (by first | rfl | (simp only [firstArgMember]; rfl)) ?_)
 refine wpAny_newObj_type ?_ (by size_fits)
 simp only [raiseNew]
 refine wpAny_bind (wpAny_handled ?_)
 rw [show A.in1.handled = none from hh]
 refine wpAny_bind (wpAny_pure (wpAny_throw ?_))
 exact hE _ _ (((Heap.SameBut.update ..).extBut.push _).push _) ⟨_, Heap.get?_push_size _ rfl, rfl⟩
end
theorem feed_tup (i l : Addr) (xs : Array Value) (hne : l ≠ i) : Feed P w i l xs fun k h => h.IsTupleIter i l k ∧ h.IsTuple l xs where
 item := fun A s k x Q E st hx hQ => tup_item st.1 st.2 hx fun h' it' hs => hQ h' ⟨it', st.2.extBut hs.extBut hne⟩ hs
 fin := fun A s k Q E hh st hx hE => tup_end hh st.1 st.2 hx hE
 keep := fun h h' k st hk => ⟨let ⟨o, ho, r⟩ := st.1; ⟨o, hk i (.inl rfl) o ho, r⟩, let ⟨o, ho, r⟩ := st.2; ⟨o, hk l (.inr rfl) o ho, r⟩⟩
end
end L2

set_option Elab.async false
set_option linter.all false
set_option maxRecDepth 100000
set_option maxHeartbeats 1000000
namespace L2
open PySem PySem.Spec PyProof.Rows
abbrev ZAt (h : Heap) (z TI TO : Addr) (f0 : Value) (f1 : Bool) : Prop :=
 h.get? z = some { cls := .type "zip", dict := none, data := .fields #[f0, .bool f1, .bool false, .ref TI, .ref TO], slots := #[] }
structure ZSt (It1 It2 : Nat → Heap → Prop) (z TI TO i1 i2 : Addr) (k : Nat) (h : Heap) : Prop where
 z : ∃ f0 f1, ZAt h z TI TO f0 f1 ∧ (f0 = .none ∨ ∃ (T : Addr) (o : Obj), f0 = rawInt (T : Int) ∧ h.get? T = some o ∧ T ≠ z ∧ T ≠ TO ∧ T ≠ i1 ∧ T ≠ i2)
 ti : IsPair h TI (.ref i1) (.ref i2)
 to : ∃ a b, IsPair h TO a b
 a : It1 k h
 b : It2 k h
section
variable {P : Program} {w : World} {A : Around} {E : Value → Shared → Prop} {s : Shared} {It1 It2 : Nat → Heap → Prop} {z TI TO i1 i2 l1 l2 : Addr} {xs ys : Array Value} {k : Nat} {x y : Value}
theorem z_item (hi : ∀ k h, It1 k h → i1 < h.objs.size) (hi' : ∀ k h, It2 k h → i2 < h.objs.size) {Q : Option Value → Shared → Prop} (D : ZipApart z TI TO i1 i2 l1 l2) (F1 : Feed P w i1 l1 xs It1) (F2 : Feed P w i2 l2 ys It2) (st : ZSt It1 It2 z TI TO i1 i2 k s.heap) (hx : xs[k]? = some x) (hy : ys[k]? = some y)
  (hQ : ∀ h', ZSt It1 It2 z TI TO i1 i2 (k + 1) h' → IsPair h' s.heap.objs.size x y → (∀ c o, c ≠ z → c ≠ TO → c ≠ i1 → c ≠ i2 → s.heap.get? c = some o → h'.get? c = some o) → Q (some (.ref s.heap.objs.size)) { s with heap := h' }) :
  wpAny (model P w) A (pyNext (.ref z)) Q E s := by
 obtain ⟨⟨f0, f1, hz, hf⟩, hTI, ⟨a, b, hTO⟩, h1, h2⟩ := st
 have hT : s.TypeIs (.ref z) "zip" := ⟨_, hz, rfl⟩
 have hzl := Heap.lt_size hz
 have hTOl := Heap.lt_size hTO
 have hi1l := hi _ _ h1
 have hi2l := hi' _ _ h2
 unfold pyNext
 refine wpAny_bind (wpAny_attempt (wpAny_callSpecial?_slot (name := Str.ofString "__next__") hT F.slot_zip_next (wpAny_call_entry F.slot_zip_next hT F.entry_zip_next ?_ (F.args_zip_next_1 _))))
 show wpAny _ _ (field (.ref z) 2 >>= _) _ _ _
 refine wpAny_bind (wpAny_field hz rfl (x := .bool false) rfl ?_)
 show wpAny _ _ (field (.ref z) 3 >>= _) _ _ _
 refine wpAny_bind (wpAny_field hz rfl (x := .ref TI) rfl (wpAny_bind (wpAny_seqItems hTI rfl ?_)))
 show wpAny _ _ (Builtin.SmallTypes.ownedTupleIsFree (.ref z) >>= _) _ _ _
 refine wpAny_bind ?_
 rcases hf with rfl | ⟨T, oT, rfl, hT0, tz, tTO, t1, t2⟩
 ·unfold Builtin.SmallTypes.ownedTupleIsFree
  refine wpAny_bind (wpAny_field hz rfl (x := .none) rfl (wpAny_pure ?_))
  simp only [if_true]
  refine wpAny_bind (wpAny_rule ?_)
  refine wpAny_bind (wpAny_field hz rfl (x := .ref TO) rfl ?_)
  refine wpAny_bind (wpAny_setField_rec hz (by simp) fun h₁ hz₁ hs₁ => ?_)
  replace hz₁ : ZAt h₁ z TI TO .ellipsis f1 := hz₁
  refine wpAny_bind ?_
  simp only [List.zipIdx_cons, List.zipIdx_nil, List.forIn_cons, List.forIn_nil]
  have kp1 : ∀ c o, c ≠ z → s.heap.get? c = some o → h₁.get? c = some o := fun c o hc e => hs₁.extBut c o hc e
  have a1 : It1 k h₁ := F1.keep _ _ _ h1 fun b hb o e => kp1 b o (by rcases hb with rfl | rfl; exact D.i1z; exact D.l1z) e
  have b1 : It2 k h₁ := F2.keep _ _ _ h2 fun b hb o e => kp1 b o (by rcases hb with rfl | rfl; exact D.i2z; exact D.l2z) e
  refine wpAny_bind (wpAny_bind (wpAny_onRaise ?_))
  show wpAny _ _ (Builtin.SmallTypes.nextOf (.ref i1) >>= _) _ _ _
  refine wpAny_bind (F1.item _ { s with heap := h₁ } k x _ _ a1 hx fun h₂ a2 hs₂ => wpAny_pure ?_)
  have hTO₂ : IsPair h₂ TO a b := hs₂.extBut _ _ D.TOi1 (kp1 _ _ D.TOz hTO)
  refine wpAny_bind (wpAny_seqItems hTO₂ rfl ?_)
  refine wpAny_bind (wpAny_updateSeq_pair hTO₂ fun h₃ hTO₃ hs₃ => ?_)
  replace hTO₃ : IsPair h₃ TO x b := hTO₃
  refine wpAny_bind (wpAny_letGo (wpAny_pure ?_))
  have b3 : It2 k h₃ := F2.keep _ _ _ b1 fun c hc o e => hs₃.extBut c o (by rcases hc with rfl | rfl; exact D.TOi2.symm; exact D.l2TO) (hs₂.extBut c o (by rcases hc with rfl | rfl; exact D.i12.symm; exact D.l2i1) e)
  have a3 : It1 (k + 1) h₃ := F1.keep _ _ _ a2 fun c hc o e => hs₃.extBut c o (by rcases hc with rfl | rfl; exact D.TOi1.symm; exact D.l1TO) e
  refine wpAny_bind (wpAny_bind (wpAny_onRaise ?_))
  show wpAny _ _ (Builtin.SmallTypes.nextOf (.ref i2) >>= _) _ _ _
  refine wpAny_bind (F2.item _ { s with heap := h₃ } k y _ _ b3 hy fun h₄ b4 hs₄ => wpAny_pure ?_)
  have hTO₄ : IsPair h₄ TO x b := hs₄.extBut _ _ D.TOi2 hTO₃
  refine wpAny_bind (wpAny_seqItems hTO₄ rfl ?_)
  refine wpAny_bind (wpAny_updateSeq_pair hTO₄ fun h₅ hTO₅ hs₅ => ?_)
  replace hTO₅ : IsPair h₅ TO x y := hTO₅
  refine wpAny_bind (wpAny_letGo (wpAny_pure (wpAny_pure ?_)))
  refine wpAny_bind (wpAny_seqItems hTO₅ rfl ?_)
  refine wpAny_bind (wpAny_newTuple ?_)
  have hsz : h₅.objs.size = s.heap.objs.size := by rw [hs₅.1, hs₄.1, hs₃.1, hs₂.1, hs₁.1]
  have hz₅ : ZAt h₅ z TI TO .ellipsis f1 := hs₅.extBut _ _ D.TOz.symm (hs₄.extBut _ _ D.i2z.symm (hs₃.extBut _ _ D.TOz.symm (hs₂.extBut _ _ D.i1z.symm hz₁)))
  have hk₅ : ∀ c o, c ≠ z → c ≠ TO → c ≠ i1 → c ≠ i2 → s.heap.get? c = some o → h₅.get? c = some o := fun c o c1 c2 c3 c4 e =>
   hs₅.extBut _ _ c2 (hs₄.extBut _ _ c4 (hs₃.extBut _ _ c2 (hs₂.extBut _ _ c3 (kp1 _ _ c1 e))))
  have a5 : It1 (k + 1) h₅ := F1.keep _ _ _ a3 fun c hc o e => hs₅.extBut c o (by rcases hc with rfl | rfl; exact D.TOi1.symm; exact D.l1TO) (hs₄.extBut c o (by rcases hc with rfl | rfl; exact D.i12; exact D.l1i2) e)
  have b5 : It2 (k + 1) h₅ := F2.keep _ _ _ b4 fun c hc o e => hs₅.extBut c o (by rcases hc with rfl | rfl; exact D.TOi2.symm; exact D.l2TO) e
  show wpAny _ _ (Builtin.SmallTypes.ownedTupleHandOut (.ref z) (.ref h₅.objs.size) >>= _) _ _ _
  refine wpAny_bind ?_
  unfold Builtin.SmallTypes.ownedTupleHandOut
  have hz₆ : ZAt (h₅.push { cls := .type "tuple", data := .seq #[x, y] }) z TI TO .ellipsis f1 := Heap.get?_push_of_some _ hz₅
  refine wpAny_bind (wpAny_setField_rec hz₆ (by simp) fun h₇ hz₇ hs₇ => ?_)
  replace hz₇ : ZAt h₇ z TI TO (rawInt h₅.objs.size) f1 := hz₇
  refine wpAny_setField_rec hz₇ (by simp) fun h₈ hz₈ hs₈ => ?_
  replace hz₈ : ZAt h₈ z TI TO (rawInt h₅.objs.size) false := hz₈
  have up : ∀ c o, c ≠ z → h₅.get? c = some o → h₈.get? c = some o := fun c o c1 e => hs₈.extBut _ _ c1 (hs₇.extBut _ _ c1 (Heap.get?_push_of_some _ e))
  have hT₈ : IsPair h₈ h₅.objs.size x y := hs₈.extBut _ _ (by rw [hsz]; exact Nat.ne_of_gt hzl) (hs₇.extBut _ _ (by rw [hsz]; exact Nat.ne_of_gt hzl) (Heap.get?_push_size _ rfl))
  rw [hsz] at hz₈ hT₈
  refine wpAny_pure ⟨_, rfl, ?_⟩
  show wpAny _ _ (pure (some (Value.ref h₅.objs.size))) _ _ _
  rw [hsz]
  refine wpAny_pure (hQ h₈ ⟨⟨_, _, hz₈, .inr ⟨_, _, rfl, hT₈, Nat.ne_of_gt hzl, Nat.ne_of_gt hTOl, Nat.ne_of_gt hi1l, Nat.ne_of_gt hi2l⟩⟩, up _ _ D.TIz (hk₅ _ _ D.TIz D.TITO D.TIi1 D.TIi2 hTI), ⟨_, _, up _ _ D.TOz hTO₅⟩, F1.keep _ _ _ a5 fun c hc o e => up c o (by rcases hc with rfl | rfl; exact D.i1z; exact D.l1z) e, F2.keep _ _ _ b5 fun c hc o e => up c o (by rcases hc with rfl | rfl; exact D.i2z; exact D.l2z) e⟩ hT₈ fun c o c1 c2 c3 c4 e => up c o c1 (hk₅ c o c1 c2 c3 c4 e))
 ·refine wpAny_mono (Q := fun b s₁ => b = false ∧ ∃ h₁, s₁ = { s with heap := h₁ } ∧ ZAt h₁ z TI TO (rawInt (T : Int)) true ∧ Heap.SameBut z s.heap h₁) ?_ ?_ fun _ _ q => q
  ·unfold Builtin.SmallTypes.ownedTupleIsFree
   refine wpAny_bind (wpAny_field hz rfl (x := rawInt (T : Int)) rfl ?_)
   show wpAny _ _ (loadIfAlive ((T : Int).toNat) >>= _) _ _ _
   rw [Int.toNat_natCast]
   refine wpAny_bind (PySem.W.kdx_alive hT0 ?_)
   simp only [Option.isNone_some, Bool.false_eq_true, if_false]
   refine wpAny_bind (wpAny_field hz rfl (x := .bool f1) rfl ?_)
   cases f1 with
   | true =>
    rw [if_neg (show ¬ ((Value.bool true != Value.bool true) = true) from Bool.false_ne_true)]
    exact wpAny_pure ⟨rfl, _, rfl, hz, Heap.SameBut.refl _ _⟩
   | false =>
    rw [if_pos (show (Value.bool false != Value.bool true) = true from rfl)]
    refine wpAny_bind (wpAny_setField_rec hz (by simp) fun h₁ hz₁ hs₁ => ?_)
    exact wpAny_pure ⟨rfl, _, rfl, hz₁, hs₁⟩
  ·rintro b' s₁ ⟨rfl, h₁, rfl, hz₁, hs₁⟩
   simp only [Bool.false_eq_true, if_false]
   have kp1 : ∀ c o, c ≠ z → s.heap.get? c = some o → h₁.get? c = some o := fun c o hc e => hs₁.extBut c o hc e
   have a1 : It1 k h₁ := F1.keep _ _ _ h1 fun b hb o e => kp1 b o (by rcases hb with rfl | rfl; exact D.i1z; exact D.l1z) e
   have b1 : It2 k h₁ := F2.keep _ _ _ h2 fun b hb o e => kp1 b o (by rcases hb with rfl | rfl; exact D.i2z; exact D.l2z) e
   refine wpAny_bind ?_
   rw [← Array.forIn_toList]
   simp only [List.forIn_cons, List.forIn_nil]
   refine wpAny_bind (wpAny_bind (wpAny_holding ?_))
   show wpAny _ _ (Builtin.SmallTypes.nextOf (.ref i1) >>= _) _ _ _
   refine wpAny_bind (F1.item _ { s with heap := h₁ } k x _ _ a1 hx fun h₂ a2 hs₂ => wpAny_pure (wpAny_pure ?_))
   have b2 : It2 k h₂ := F2.keep _ _ _ b1 fun c hc o e => hs₂.extBut c o (by rcases hc with rfl | rfl; exact D.i12.symm; exact D.l2i1) e
   refine wpAny_bind (wpAny_bind (wpAny_holding ?_))
   show wpAny _ _ (Builtin.SmallTypes.nextOf (.ref i2) >>= _) _ _ _
   refine wpAny_bind (F2.item _ { s with heap := h₂ } k y _ _ b2 hy fun h₃ b3 hs₃ => wpAny_pure (wpAny_pure (wpAny_pure ?_)))
   have a3 : It1 (k + 1) h₃ := F1.keep _ _ _ a2 fun c hc o e => hs₃.extBut c o (by rcases hc with rfl | rfl; exact D.i12; exact D.l1i2) e
   have hsz : h₃.objs.size = s.heap.objs.size := by rw [hs₃.1, hs₂.1, hs₁.1]
   have hk₃ : ∀ c o, c ≠ z → c ≠ i1 → c ≠ i2 → s.heap.get? c = some o → h₃.get? c = some o := fun c o c1 c3 c4 e => hs₃.extBut _ _ c4 (hs₂.extBut _ _ c3 (kp1 _ _ c1 e))
   have hz₃ : ZAt h₃ z TI TO (rawInt (T : Int)) true := hs₃.extBut _ _ D.i2z.symm (hs₂.extBut _ _ D.i1z.symm hz₁)
   show wpAny _ _ (newTuple [x, y] >>= _) _ _ _
   refine wpAny_bind (wpAny_newTuple ?_)
   refine wpAny_pure ⟨_, rfl, ?_⟩
   show wpAny _ _ (pure (some (Value.ref h₃.objs.size))) _ _ _
   have up : ∀ c o, h₃.get? c = some o → (h₃.push { cls := .type "tuple", data := .seq #[x, y] }).get? c = some o := fun c o e => Heap.get?_push_of_some _ e
   have hT₄ : IsPair (h₃.push { cls := .type "tuple", data := .seq #[x, y] }) h₃.objs.size x y := Heap.get?_push_size _ rfl
   rw [hsz] at hT₄ ⊢
   refine wpAny_pure (hQ _ ⟨⟨_, _, up _ _ hz₃, .inr ⟨T, _, rfl, up _ _ (hk₃ _ _ tz t1 t2 hT0), tz, tTO, t1, t2⟩⟩, up _ _ (hk₃ _ _ D.TIz D.TIi1 D.TIi2 hTI), ⟨_, _, up _ _ (hk₃ _ _ D.TOz D.TOi1 D.TOi2 hTO)⟩, F1.keep _ _ _ a3 fun c hc o e => up c o e, F2.keep _ _ _ b3 fun c hc o e => up c o e⟩ hT₄ fun c o c1 c2 c3 c4 e => up c o (hk₃ c o c1 c3 c4 e))
theorem z_end {Q : Option Value → Shared → Prop} (hh : A.handled = none) (D : ZipApart z TI TO i1 i2 l1 l2) (F1 : Feed P w i1 l1 xs It1) (st : ZSt It1 It2 z TI TO i1 i2 k s.heap) (hx : xs[k]? = none)
  (hQ : ∀ h', (∀ c o, c ≠ z → c ≠ TO → c ≠ i1 → c ≠ i2 → s.heap.get? c = some o → h'.get? c = some o) → Q none { s with heap := h' }) :
  wpAny (model P w) A (pyNext (.ref z)) Q E s := by
 obtain ⟨⟨f0, f1, hz, hf⟩, hTI, ⟨a, b, hTO⟩, h1, h2⟩ := st
 have hT : s.TypeIs (.ref z) "zip" := ⟨_, hz, rfl⟩
 unfold pyNext
 refine wpAny_bind (wpAny_attempt (wpAny_callSpecial?_slot (name := Str.ofString "__next__") hT F.slot_zip_next (wpAny_call_entry F.slot_zip_next hT F.entry_zip_next ?_ (F.args_zip_next_1 _))))
 refine wpAny_mono (Q := fun _ _ => False) (E := fun e s' => ∃ h' a, e = .ref a ∧ s' = { s with heap := h' } ∧ (∀ c o, c ≠ z → c ≠ TO → c ≠ i1 → c ≠ i2 → s.heap.get? c = some o → h'.get? c = some o) ∧ ∃ o, h'.get? a = some o ∧ o.cls = .type "StopIteration") ?_ (fun _ _ q => q.elim) ?_
 ·show wpAny _ _ (field (.ref z) 2 >>= _) _ _ _
  refine wpAny_bind (wpAny_field hz rfl (x := .bool false) rfl ?_)
  show wpAny _ _ (field (.ref z) 3 >>= _) _ _ _
  refine wpAny_bind (wpAny_field hz rfl (x := .ref TI) rfl (wpAny_bind (wpAny_seqItems hTI rfl ?_)))
  show wpAny _ _ (Builtin.SmallTypes.ownedTupleIsFree (.ref z) >>= _) _ _ _
  refine wpAny_bind ?_
  rcases hf with rfl | ⟨T, oT, rfl, hT0, tz, tTO, t1, t2⟩
  ·unfold Builtin.SmallTypes.ownedTupleIsFree
   refine wpAny_bind (wpAny_field hz rfl (x := .none) rfl (wpAny_pure ?_))
   simp only [if_true]
   refine wpAny_bind (wpAny_rule ?_)
   refine wpAny_bind (wpAny_field hz rfl (x := .ref TO) rfl ?_)
   refine wpAny_bind (wpAny_setField_rec hz (by simp) fun h₁ hz₁ hs₁ => ?_)
   replace hz₁ : ZAt h₁ z TI TO .ellipsis f1 := hz₁
   refine wpAny_bind ?_
   simp only [List.zipIdx_cons, List.zipIdx_nil, List.forIn_cons, List.forIn_nil]
   have kp1 : ∀ c o, c ≠ z → s.heap.get? c = some o → h₁.get? c = some o := fun c o hc e => hs₁.extBut c o hc e
   have a1 : It1 k h₁ := F1.keep _ _ _ h1 fun b hb o e => kp1 b o (by rcases hb with rfl | rfl; exact D.i1z; exact D.l1z) e
   refine wpAny_bind (wpAny_bind (wpAny_onRaise ?_))
   show wpAny _ _ (Builtin.SmallTypes.nextOf (.ref i1) >>= _) _ _ _
   refine wpAny_bind (F1.fin _ { s with heap := h₁ } k _ _ (by exact hh) a1 hx fun h₂ e hs₂ he => ?_)
   obtain ⟨oe, hoe, hce⟩ := he
   have hz₂ : ZAt h₂ z TI TO .ellipsis f1 := hs₂ _ _ D.i1z.symm hz₁
   have hez : e ≠ z := fun q => by subst q; rw [hz₂] at hoe; cases hoe; simp at hce
   refine wpAny_setField_rec hz₂ (by simp) fun h₃ _ hs₃ => ⟨h₃, e, rfl, rfl, fun c o c1 _ c3 _ q => hs₃.extBut _ _ c1 (hs₂ _ _ c3 (kp1 _ _ c1 q)), oe, hs₃.extBut _ _ hez hoe, hce⟩
  ·refine wpAny_mono (Q := fun b s₁ => b = false ∧ ∃ h₁, s₁ = { s with heap := h₁ } ∧ ZAt h₁ z TI TO (rawInt (T : Int)) true ∧ Heap.SameBut z s.heap h₁) ?_ ?_ fun _ _ q => q
   ·unfold Builtin.SmallTypes.ownedTupleIsFree
    refine wpAny_bind (wpAny_field hz rfl (x := rawInt (T : Int)) rfl ?_)
    show wpAny _ _ (loadIfAlive ((T : Int).toNat) >>= _) _ _ _
    rw [Int.toNat_natCast]
    refine wpAny_bind (PySem.W.kdx_alive hT0 ?_)
    simp only [Option.isNone_some, Bool.false_eq_true, if_false]
    refine wpAny_bind (wpAny_field hz rfl (x := .bool f1) rfl ?_)
    cases f1 with
    | true =>
     rw [if_neg (show ¬ ((Value.bool true != Value.bool true) = true) from Bool.false_ne_true)]
     exact wpAny_pure ⟨rfl, _, rfl, hz, Heap.SameBut.refl _ _⟩
    | false =>
     rw [if_pos (show (Value.bool false != Value.bool true) = true from rfl)]
     refine wpAny_bind (wpAny_setField_rec hz (by simp) fun h₁ hz₁ hs₁ => ?_)
     exact wpAny_pure ⟨rfl, _, rfl, hz₁, hs₁⟩
   ·rintro b' s₁ ⟨rfl, h₁, rfl, hz₁, hs₁⟩
    simp only [Bool.false_eq_true, if_false]
    have kp1 : ∀ c o, c ≠ z → s.heap.get? c = some o → h₁.get? c = some o := fun c o hc e => hs₁.extBut c o hc e
    have a1 : It1 k h₁ := F1.keep _ _ _ h1 fun b hb o e => kp1 b o (by rcases hb with rfl | rfl; exact D.i1z; exact D.l1z) e
    refine wpAny_bind ?_
    rw [← Array.forIn_toList]
    simp only [List.forIn_cons, List.forIn_nil]
    refine wpAny_bind (wpAny_bind (wpAny_holding ?_))
    show wpAny _ _ (Builtin.SmallTypes.nextOf (.ref i1) >>= _) _ _ _
    refine wpAny_bind (F1.fin _ { s with heap := h₁ } k _ _ (by exact hh) a1 hx fun h₂ e hs₂ he => ?_)
    exact ⟨h₂, e, rfl, rfl, fun c o c1 _ c3 _ q => hs₂ _ _ c3 (kp1 _ _ c1 q), he⟩
 ·rintro e s' ⟨h', c, rfl, rfl, hk, o, ho, hc⟩
  refine wpAny_bind (wpAny_isInstance (T := "StopIteration") (b := true) ⟨o, ho, hc⟩ isSubtype_stop ?_)
  exact wpAny_pure (hQ _ hk)
end
end L2

set_option Elab.async false
set_option linter.all false
set_option maxRecDepth 100000
set_option maxHeartbeats 1000000
namespace L2
open PySem PySem.Spec PyProof.Rows
theorem zip_noHook : typeLookup (.type "zip") "__getattr__" = pure none := by rw [typeLookup_type, builtinLookup_eq_fast]; kernel_rfl
theorem zip_noKeys : typeLookup (.type "zip") "keys" = pure none := by rw [typeLookup_type, builtinLookup_eq_fast]; kernel_rfl
theorem zip_getattribute : entryFor table "zip.__getattribute__" = some Builtin.«object.__getattribute__» :=
 entryFor_alias (id' := "object.__getattribute__") (by kernel_rfl) (by decide +kernel) (by decide +kernel) (by kernel_rfl)
theorem keys_plain : (["__module__", "__name__", "__qualname__", "__doc__", "__annotations__"] : List Str).contains "keys" = false := by decide +kernel
theorem zip_miss (z TI TO : Addr) (f0 : Value) (f1 : Bool) (u : Tok) :
  Meets (Builtin.«object.__getattribute__» ⟨[.ref z, .str "keys" u], []⟩) (fun A R s => ZAt s.heap z TI TO f0 f1 ∧ raisesAttr (.ref z) "keys" A R s) :=
 Meets.of_wp fun prog w A R s hs => by
  obtain ⟨hp, g, d, tk, os⟩ := s
  obtain ⟨hx, hs⟩ := hs
  have hT : (⟨hp, g, d, tk, os⟩ : Shared).TypeIs (.ref z) "zip" := ⟨_, hx, rfl⟩
  have hmiss := zip_noKeys
  have hname := keys_plain
  unfold Builtin.«object.__getattribute__»
  repeat (any_goals (first | assumption | wp_step))
  try simp only [hname, Bool.false_eq_true, if_false]
  repeat (any_goals (first | assumption | wp_step))
  exact wpAny_raiseAttrError hs.1 hs.2 (attrMsg_fits (by decide +kernel) (by decide))
theorem zip_keys {P : Program} {w : World} {A : Around} {E : Value → Shared → Prop} {s : Shared} {z TI TO : Addr} {f0 : Value} {f1 : Bool} {Q : Option Value → Shared → Prop} (hx : ZAt s.heap z TI TO f0 f1) (hA : A.handled = none)
  (h : ∀ h' tk e, Heap.NewExcOf s.heap h' e "AttributeError" → Q none { s with heap := h', toks := tk }) : wpAny (model P w) A (getAttr? (.ref z) "keys") Q E s := by
 obtain ⟨hp, g, d, tk, os⟩ := s
 have hT : ∀ tk', (⟨hp, g, d, tk', os⟩ : Shared).TypeIs (.ref z) "zip" := fun _ => ⟨_, hx, rfl⟩
 have f1' := sub_AttributeError
 have f3 := F.slot_zip_getattribute.lookup
 have f4 := F.slot_zip_getattribute.bind (.ref z)
 have f5 := zip_noHook
 unfold getAttr? getAttrBy? getAttrBy
 repeat (any_goals (first | assumption | exact hT _ | ((with_reducible show wpAny _ _ (call (Value.builtin "zip.__getattribute__") _ _) _ _ _); refine call_meets F.slot_zip_getattribute (hT _) zip_getattribute (F.args_zip_getattribute_2 _ _) (zip_miss z TI TO f0 f1 _) ⟨hx, hA, fun h' tk' e hx' => ?_⟩) | wp_step))
 obtain ⟨t', u', he⟩ := hx'.there
 show wpAny _ _ (getattributeRaised _ _ _ _ _ _ _) _ _ _
 unfold getattributeRaised
 repeat (any_goals (first | assumption | wp_step))
 exact h _ _ _ hx'.of
end L2

set_option Elab.async false
set_option linter.all false
set_option maxRecDepth 100000
set_option maxHeartbeats 1000000
namespace L2
open PySem PySem.Spec PyProof.Rows
theorem entry_upd_loop : entryFor table "dict.update.loop" = some Builtin.«dict.update.loop» := entryFor_of_tree (by kernel_rfl)
theorem plain_upd_loop : plainId "dict.update.loop" = true := by decide +kernel
def zipP {α : Type} (ws : List Str) (us : List α) : List (Key × α) := List.zipWith (fun n v => (Sum.inr n, v)) ws us
theorem zipP_keys {α : Type} : ∀ {ws : List Str} {us : List α}, us.length = ws.length → (zipP ws us).map (·.1) = ws.map Sum.inr
 | [], [], _ => rfl
 | w :: ws, u :: us, h => by
  show Sum.inr w :: (zipP ws us).map (·.1) = _
  rw [zipP_keys (by simpa using h)]; rfl
theorem zipP_length {α : Type} {ws : List Str} {us : List α} (h : us.length = ws.length) : (zipP ws us).length = ws.length := by unfold zipP; rw [List.length_zipWith]; omega
theorem zipP_get {α : Type} : ∀ {ws : List Str} {us : List α} {i : Nat} {n : Str} {v : α}, ws[i]? = some n → us[i]? = some v → (zipP ws us)[i]? = some (.inr n, v)
 | [], _, _, _, _, h, _ => by simp at h
 | _ :: _, [], _, _, _, _, h => by simp at h
 | w :: ws, u :: us, 0, n, v, h, h' => by simp at h h'; subst h h'; rfl
 | w :: ws, u :: us, i + 1, n, v, h, h' => by simpa [zipP] using zipP_get (ws := ws) (us := us) (i := i) (by simpa using h) (by simpa using h')
theorem stored_take {kvs : List (Key × Value)} (hn : (kvs.map (·.1)).Nodup) {i : Nat} {k : Key} {v : Value} (h : kvs[i]? = some (k, v)) : stored (kvs.take i) k v = kvs.take (i + 1) := by
 have hi : i < kvs.length := (List.getElem?_eq_some_iff.mp h).1
 have hk : ¬ (kvs.take i).any (fun kv => decide (kv.1 = k)) = true := by
  intro z
  obtain ⟨x, hx, e⟩ := List.any_eq_true.mp z
  obtain ⟨j, hj⟩ := List.mem_iff_getElem?.mp hx
  have hji : j < i := by have := (List.getElem?_eq_some_iff.mp hj).1; rw [List.length_take] at this; omega
  have hj' : kvs[j]? = some x := by rw [List.getElem?_take] at hj; rw [if_pos hji] at hj; exact hj
  have e1 : (kvs.map (·.1))[j]? = some k := by rw [List.getElem?_map, hj']; show some x.1 = some k; rw [of_decide_eq_true e]
  have e2 : (kvs.map (·.1))[i]? = some k := by rw [List.getElem?_map, h]; rfl
  have := (List.getElem?_inj (by rw [List.length_map]; omega) hn).mp (e1.trans e2.symm)
  omega
 unfold stored
 rw [if_neg hk, List.take_succ, h]
 rfl
section
variable {P : Program} {w : World} {A : Around} {R : Result → Shared → Prop} {It1 It2 : Nat → Heap → Prop} {z TI TO i1 i2 l1 l2 d : Addr} {xs ys : Array Value} {ws : List Str}
theorem dz_loop (hh : A.handled = none) (hi : ∀ k h, It1 k h → i1 < h.objs.size) (hi' : ∀ k h, It2 k h → i2 < h.objs.size) (D : ZipApart z TI TO i1 i2 l1 l2) (F1 : Feed P w i1 l1 xs It1) (F2 : Feed P w i2 l2 ys It2)
  (dz : d ≠ z) (dTO : d ≠ TO) (d1 : d ≠ i1) (d2 : d ≠ i2) (dTI : d ≠ TI) (dl1 : d ≠ l1) (dl2 : d ≠ l2) (hx : ∀ (i : Nat) (n : Str), ws[i]? = some n → ∃ t, xs[i]? = some (Value.str n t)) (hxn : xs.size = ws.length) (hyn : ys.size = ws.length) (hw : ws.Nodup) (hsz : ws.length ≤ sizeLine) :
  ∀ (m i : Nat) (s : Shared), ws.length - i = m → i ≤ ws.length → ZSt It1 It2 z TI TO i1 i2 i s.heap → s.heap.DictOf (mixKind P w) d ((zipP ws ys.toList).take i) →
   (∀ h' tk, h'.DictOf (mixKind P w) d (zipP ws ys.toList) → (∀ c o, c ≠ d → c ≠ z → c ≠ TO → c ≠ i1 → c ≠ i2 → s.heap.get? c = some o → h'.get? c = some o) → R (.ok (.ret .none)) { s with heap := h', toks := tk }) →
   codeAny (model P w) A (.builtin "dict.update.loop" ⟨[.ref d, .ref z, rawInt (i : Int), .none], []⟩) R s := by
 have hlen : (zipP ws ys.toList).length = ws.length := zipP_length (by rw [Array.length_toList]; exact hyn)
 have hnd : ((zipP ws ys.toList).map (·.1)).Nodup := by
  rw [zipP_keys (by rw [Array.length_toList]; exact hyn)]
  exact List.Pairwise.map _ (fun a b (hab : a ≠ b) e => hab (Sum.inr.inj e)) hw
 intro m
 induction m with
 | zero =>
  intro i s hm hil st hd hR
  have hin : i = ws.length := by omega
  subst hin
  refine codeAny_builtin entry_upd_loop ?_
  rw [Around.under_plainId plain_upd_loop _]
  show wpAny _ A.in1 (pyNext (.ref z) >>= _) _ _ s
  refine wpAny_bind (z_end (A := A.in1) hh D F1 st (by rw [Array.getElem?_eq_none]; omega) fun h' hk => ?_)
  show wpAny _ A.in1 (Builtin.Dict.addKeywords d [] >>= _) _ _ _
  refine wpAny_bind (wpAny_pure (wpAny_pure (hR h' s.toks ?_ fun c o _ c1 c2 c3 c4 e => hk c o c1 c2 c3 c4 e)))
  rw [List.take_of_length_le (by omega)] at hd
  obtain ⟨o, es, ep, ho, r⟩ := hd
  exact ⟨o, es, ep, hk d o dz dTO d1 d2 ho, r⟩
 | succ m ih =>
  intro i s hm hil st hd hR
  have hlt : i < ws.length := by omega
  obtain ⟨t, hxi⟩ := hx i ws[i] (by simp [hlt])
  have hyi : ys[i]? = some ys[i] := by simp [hyn, hlt]
  refine codeAny_builtin entry_upd_loop ?_
  rw [Around.under_plainId plain_upd_loop _]
  show wpAny _ A.in1 (pyNext (.ref z) >>= _) _ _ s
  refine wpAny_bind (z_item (A := A.in1) hi hi' D F1 F2 st hxi hyi fun h' st' hp hk => ?_)
  have hsl := st'.z
  show wpAny _ A.in1 (holding [Value.ref s.heap.objs.size] _ >>= _) _ _ _
  refine wpAny_bind (wpAny_holding ?_)
  refine wpAny_bind (wpAny_tryCatch ?_)
  unfold Builtin.Dict.pairItems
  refine wpAny_bind (wpAny_typeOf (T := "tuple") ⟨_, hp, rfl⟩ ?_)
  rw [if_pos (by rfl)]
  refine wpAny_bind (wpAny_seqItems hp rfl (wpAny_pure ?_))
  show wpAny _ A.in1 (holding [Value.str ws[i] t, ys[i]] (dictSet d (.str ws[i] t) ys[i])) _ _ _
  refine wpAny_holding ?_
  have hd' : h'.DictOf (mixKind P w) d ((zipP ws ys.toList).take i) := by
   obtain ⟨o, es, ep, ho, r⟩ := hd
   exact ⟨o, es, ep, hk d o dz dTO d1 d2 ho, r⟩
  refine wpAny_dictSet_pairs (knd := mixKind P w) (k := .inr ws[i]) (hsz := by rw [List.length_take]; omega) (mixKind_str P w ws[i] t) hd' fun h2 hd2 hs2 => ?_
  rw [stored_take hnd (zipP_get (i := i) (n := ws[i]) (v := ys[i]) (by simp [hlt]) (by rw [Array.getElem?_toList]; exact hyi))] at hd2
  have kp : ∀ c o, c ≠ d → h'.get? c = some o → h2.get? c = some o := fun c o hc e => hs2.extBut c o hc e
  have st2 : ZSt It1 It2 z TI TO i1 i2 (i + 1) h2 := by
   obtain ⟨⟨f0, f1, hz, hf⟩, hTI, ⟨a, b, hTO⟩, ha, hb⟩ := st'
   refine ⟨⟨f0, f1, kp _ _ dz.symm hz, ?_⟩, kp _ _ dTI.symm hTI, ⟨a, b, kp _ _ dTO.symm hTO⟩, F1.keep _ _ _ ha fun c hc o e => kp c o (by rcases hc with rfl | rfl; exact d1.symm; exact dl1.symm) e, F2.keep _ _ _ hb fun c hc o e => kp c o (by rcases hc with rfl | rfl; exact d2.symm; exact dl2.symm) e⟩
   rcases hf with rfl | ⟨T, o, rfl, hT, t1, t2, t3, t4⟩
   ·exact .inl rfl
   ·by_cases hTd : T = d
    ·subst hTd
     obtain ⟨o', _, _, ho', _⟩ := hd2
     exact .inr ⟨T, o', rfl, ho', t1, t2, t3, t4⟩
    ·exact .inr ⟨T, o, rfl, kp _ _ hTd hT, t1, t2, t3, t4⟩
  have ih' := ih (i + 1) { s with heap := h2, toks := s.toks + 1 } (by omega) hlt st2 hd2 fun h3 tk hd3 hk3 => hR h3 tk hd3 fun c o c0 c1 c2 c3 c4 e => hk3 c o c0 c1 c2 c3 c4 (kp c o c0 (hk c o c1 c2 c3 c4 e))
  rw [show ((i + 1 : Nat) : Int) = (i : Int) + 1 from by omega] at ih'
  exact wpAny_pure ⟨plainId_quiet plain_upd_loop _, ih'⟩
end
end L2

set_option Elab.async false
set_option linter.all false
set_option maxRecDepth 100000
set_option maxHeartbeats 1000000
namespace L2
open PySem PySem.Spec PyProof.Rows
theorem nz1 {l n : Nat} (h : l < n) : l ≠ n + 1 := by omega
theorem nzj {m n : Nat} (j : Nat) (h : n + 4 < m) (hj : j ≤ 4 := by decide) : m ≠ n + j := by omega
theorem nzl {m n l : Nat} (hl : l < n) (h : n + 4 < m) : m ≠ l := by omega
theorem nzc {c n : Nat} (j : Nat) (h : c < n) : c ≠ n + j := by omega
abbrev zt2 (h : Heap) (l1 l2 : Addr) : Heap := (zipH1 h l1).push { cls := .type "tuple_iterator", data := .fields #[.ref l2, .int 0 0] }
abbrev zt3 (h : Heap) (l1 l2 : Addr) : Heap := (zt2 h l1 l2).push { cls := .type "tuple", data := .seq #[.ref h.objs.size, .ref (zipH1 h l1).objs.size] }
abbrev zt4 (h : Heap) (l1 l2 : Addr) : Heap := (zt3 h l1 l2).push { cls := .type "tuple", data := .seq #[.none, .none] }
abbrev zt5 (h : Heap) (l1 l2 : Addr) : Heap := (zt4 h l1 l2).push { cls := .type "zip", data := .fields #[.none, .bool false, .bool false, .ref (zt2 h l1 l2).objs.size, .ref (zt3 h l1 l2).objs.size] }
theorem zt_new (l1 l2 : Addr) (xs ys : Array Value) :
  Meets (Builtin.«zip.__new__» ⟨[.type "zip", .ref l1, .ref l2], []⟩) (fun _ R s => s.heap.IsList l1 xs ∧ s.heap.IsTuple l2 ys ∧ R (.ok (.ret (.ref (zt4 s.heap l1 l2).objs.size))) { s with heap := zt5 s.heap l1 l2 }) :=
 .of_wp fun prog w A R s h => by
  obtain ⟨hp, g, d, tk, os⟩ := s; obtain ⟨hl1, hl2, h⟩ := h
  have hsub := sub_zip
  have hL1 : Heap.IsList (Shared.heap ⟨hp, g, d, tk, os⟩) l1 xs := hl1
  have hL2 : Heap.IsTuple (Shared.heap ⟨hp.push { cls := .type "list_iterator", data := .fields #[.ref l1, .int 0 0] }, g, d, tk, os⟩) l2 ys := Heap.IsTuple.push hl2 _
  wp_walk using wpAny_pyIter_list hL1, wpAny_pyIter_tuple hL2
  exact ⟨_, rfl, h⟩
section
variable {P : Program} {w : World} {A : Around} {E : Value → Shared → Prop} {s : Shared} {l1 l2 : Addr} {xs ys : Array Value}
theorem call_zipT {Q : Value → Shared → Prop} (hl1 : s.heap.IsList l1 xs) (hl2 : s.heap.IsTuple l2 ys)
  (h : ∀ h', IsZip h' (s.heap.objs.size + 4) (s.heap.objs.size + 2) (s.heap.objs.size + 3) .none → IsPair h' (s.heap.objs.size + 2) (.ref s.heap.objs.size) (.ref (s.heap.objs.size + 1)) → IsPair h' (s.heap.objs.size + 3) .none .none →
   h'.IsListIter s.heap.objs.size l1 0 → h'.IsTupleIter (s.heap.objs.size + 1) l2 0 → (∀ c o, s.heap.get? c = some o → h'.get? c = some o) → Q (.ref (s.heap.objs.size + 4)) { s with heap := h' }) :
  wpAny (model P w) A (call (.type "zip") [.ref l1, .ref l2]) Q E s := by
 refine callType_new F.called_zip (by decide) (F.typeCall_zip_2 _ _) (F.newCall_zip_2 _ _) (fun obj => F.args_object_init_3 obj _ _) F.entry_zip_new (zt_new l1 l2 xs ys) ⟨hl1, hl2, ?_⟩
 have z1 : (zipH1 s.heap l1).objs.size = s.heap.objs.size + 1 := Heap.size_push ..
 have z2 : (zt2 s.heap l1 l2).objs.size = s.heap.objs.size + 2 := by rw [Heap.size_push, z1]
 have z3 : (zt3 s.heap l1 l2).objs.size = s.heap.objs.size + 3 := by rw [Heap.size_push, z2]
 have z4 : (zt4 s.heap l1 l2).objs.size = s.heap.objs.size + 4 := by rw [Heap.size_push, z3]
 have g5 : (zt5 s.heap l1 l2).get? (zt4 s.heap l1 l2).objs.size = some _ := Heap.get?_push_size _ rfl
 have g4 : (zt5 s.heap l1 l2).get? (zt3 s.heap l1 l2).objs.size = some _ := Heap.get?_push_of_some _ (Heap.get?_push_size _ rfl)
 have g3 : (zt5 s.heap l1 l2).get? (zt2 s.heap l1 l2).objs.size = some _ := Heap.get?_push_of_some _ (Heap.get?_push_of_some _ (Heap.get?_push_size _ rfl))
 have g2 : (zt5 s.heap l1 l2).get? (zipH1 s.heap l1).objs.size = some _ := Heap.get?_push_of_some _ (Heap.get?_push_of_some _ (Heap.get?_push_of_some _ (Heap.get?_push_size _ rfl)))
 have g1 : (zt5 s.heap l1 l2).get? s.heap.objs.size = some _ := Heap.get?_push_of_some _ (Heap.get?_push_of_some _ (Heap.get?_push_of_some _ (Heap.get?_push_of_some _ (Heap.get?_push_size _ rfl))))
 show _ ∧ _
 rw [z2, z3, z4] at g5
 rw [z1, z2] at g3
 rw [z3] at g4
 rw [z1] at g2
 rw [z4]
 exact ⟨⟨_, g5, rfl⟩, h _ g5 g3 g4 ⟨_, g1, rfl, rfl⟩ ⟨_, g2, rfl, rfl⟩ fun c o x => Heap.get?_push_of_some _ (Heap.get?_push_of_some _ (Heap.get?_push_of_some _ (Heap.get?_push_of_some _ (Heap.get?_push_of_some _ x))))⟩
def ZNew (P : Program) (w : World) (n l1 l2 : Addr) (xs ys : Array Value) (h : Heap) : Prop :=
 ∃ It1 It2 : Nat → Heap → Prop, Feed P w n l1 xs It1 ∧ Feed P w (n + 1) l2 ys It2 ∧ (∀ k h, It1 k h → n < h.objs.size) ∧ (∀ k h, It2 k h → n + 1 < h.objs.size) ∧ ZSt It1 It2 (n + 4) (n + 2) (n + 3) n (n + 1) 0 h
theorem call_zipA {Q : Value → Shared → Prop} (hl1 : s.heap.IsList l1 xs) (hl2 : s.heap.IsList l2 ys ∨ s.heap.IsTuple l2 ys)
  (h : ∀ h', ZNew P w s.heap.objs.size l1 l2 xs ys h' → (∀ c o, s.heap.get? c = some o → h'.get? c = some o) → Q (.ref (s.heap.objs.size + 4)) { s with heap := h' }) :
  wpAny (model P w) A (call (.type "zip") [.ref l1, .ref l2]) Q E s := by
 have n1 : l1 ≠ s.heap.objs.size := by obtain ⟨o, ho, _⟩ := hl1; exact Nat.ne_of_lt (Heap.lt_size ho)
 rcases hl2 with hl2 | hl2
 ·have n2 : l2 ≠ s.heap.objs.size + 1 := by obtain ⟨o, ho, _⟩ := hl2; exact nz1 (Heap.lt_size ho)
  refine call_zip_2 hl1 hl2 fun h' hz hTI hTO hi1 hi2 _ hk => h h' ⟨_, _, feed_list _ l1 xs n1, feed_list _ l2 ys n2, ?_, ?_, ⟨_, _, hz, .inl rfl⟩, hTI, ⟨_, _, hTO⟩, ⟨hi1, hl1.at fun o e => hk _ o e⟩, hi2, hl2.at fun o e => hk _ o e⟩ hk
  ·rintro k h ⟨⟨o, ho, _⟩, _⟩; exact Heap.lt_size ho
  ·rintro k h ⟨⟨o, ho, _⟩, _⟩; exact Heap.lt_size ho
 ·have n2 : l2 ≠ s.heap.objs.size + 1 := by obtain ⟨o, ho, _⟩ := hl2; exact nz1 (Heap.lt_size ho)
  refine call_zipT hl1 hl2 fun h' hz hTI hTO hi1 hi2 hk => h h' ⟨_, _, feed_list _ l1 xs n1, feed_tup _ l2 ys n2, ?_, ?_, ⟨_, _, hz, .inl rfl⟩, hTI, ⟨_, _, hTO⟩, ⟨hi1, hl1.at fun o e => hk _ o e⟩, hi2, let ⟨o, ho, r⟩ := hl2; ⟨o, hk _ o ho, r⟩⟩ hk
  ·rintro k h ⟨⟨o, ho, _⟩, _⟩; exact Heap.lt_size ho
  ·rintro k h ⟨⟨o, ho, _⟩, _⟩; exact Heap.lt_size ho
theorem call_dictZ {Q : Value → Shared → Prop} {n : Addr} {ws : List Str} (hh : A.handled = none) (zn : ZNew P w n l1 l2 xs ys s.heap) (hl1 : l1 < n) (hl2 : l2 < n)
  (hx : ∀ (i : Nat) (c : Str), ws[i]? = some c → ∃ t, xs[i]? = some (Value.str c t)) (hxn : xs.size = ws.length) (hyn : ys.size = ws.length) (hw : ws.Nodup) (hsz : ws.length ≤ sizeLine)
  (h : ∀ h' tk, h'.DictOf (mixKind P w) s.heap.objs.size (zipP ws ys.toList) → (∀ c o, c < n → s.heap.get? c = some o → h'.get? c = some o) → Q (.ref s.heap.objs.size) { s with heap := h', toks := tk }) :
  wpAny (model P w) A (call (.type "dict") [.ref (n + 4)]) Q E s := by
 obtain ⟨It1, It2, F1, F2, hi, hi', st⟩ := zn
 have D : ZipApart (n + 4) (n + 2) (n + 3) n (n + 1) l1 l2 := zipApart_new hl1 hl2
 refine callType_codes (Q₁ := fun obj s₁ => obj = .ref s.heap.objs.size ∧ s₁ = { s with heap := s.heap.push { cls := .type "dict", data := .dict #[] } }) F.kt_called_dict (F.kt_typeCall_dict_1 _) F.entry_dict_init (kt_code_dict_new _ ⟨rfl, rfl⟩) ?_
 rintro obj s₁ ⟨rfl, rfl⟩
 have hnew : (s.heap.push { cls := .type "dict", data := .dict #[] }).DictOf (mixKind P w) s.heap.objs.size [] := Heap.DictOf.new s.heap
 refine ⟨hnew.typeIs, F.args_dict_init_2 _ _, ?_⟩
 have pu : ∀ c o, s.heap.get? c = some o → (s.heap.push { cls := .type "dict", data := .dict #[] }).get? c = some o := fun c o e => Heap.get?_push_of_some _ e
 have mv : ∀ h1 h2 : Heap, (∀ c o, h1.get? c = some o → h2.get? c = some o) → ZSt It1 It2 (n + 4) (n + 2) (n + 3) n (n + 1) 0 h1 → ZSt It1 It2 (n + 4) (n + 2) (n + 3) n (n + 1) 0 h2 := fun h1 h2 k st => by
  obtain ⟨⟨f0, f1, hz, hf⟩, hTI, ⟨a, b, hTO⟩, ha, hb⟩ := st
  refine ⟨⟨f0, f1, k _ _ hz, ?_⟩, k _ _ hTI, ⟨a, b, k _ _ hTO⟩, F1.keep _ _ _ ha fun c _ o e => k c o e, F2.keep _ _ _ hb fun c _ o e => k c o e⟩
  rcases hf with rfl | ⟨T, o, rfl, hT, r⟩
  ·exact .inl rfl
  ·exact .inr ⟨T, o, rfl, k _ _ hT, r⟩
 have st1 := mv _ _ pu st
 obtain ⟨f0, f1, hz, _⟩ := st1.z
 have hnz : n + 4 < s.heap.objs.size := by obtain ⟨_, _, hz0, _⟩ := st.z; exact Heap.lt_size hz0
 unfold Builtin.«dict.__init__»
 refine wpAny_bind ?_
 unfold Builtin.Dict.selfAndRest
 refine wpAny_bind (wpAny_notOrdered_dict hnew.typeIs ?_)
 show wpAny _ _ (pure (s.heap.objs.size, [Value.ref (n + 4)])) _ _ _
 refine wpAny_pure ?_
 show wpAny _ _ (Builtin.Dict.updateFrom "dict.__init__" s.heap.objs.size (.ref (n + 4)) [] .none) _ _ _
 unfold Builtin.Dict.updateFrom
 refine wpAny_bind (wpAny_typeOf (T := "zip") ⟨_, hz, rfl⟩ ?_)
 rw [if_pos (by decide)]
 refine wpAny_bind (zip_keys hz (by exact hh) fun h2 tk e hn => ?_)
 have k2 : ∀ c o, (s.heap.push { cls := .type "dict", data := .dict #[] }).get? c = some o → h2.get? c = some o := hn.1
 simp only [Option.isNone_none, if_true]
 refine wpAny_bind (wpAny_rule ?_)
 have st2 := mv _ _ k2 st1
 obtain ⟨g0, g1, hz2, _⟩ := st2.z
 have hd2 : h2.DictOf (mixKind P w) s.heap.objs.size [] := by
  obtain ⟨o, es, ep, ho, r⟩ := hnew
  exact ⟨o, es, ep, k2 _ _ ho, r⟩
 refine wpAny_bind ?_
 have pit : ∀ {Q' : Value → Shared → Prop} {E' : Value → Shared → Prop} {A' : Around} {s' : Shared}, ZAt s'.heap (n + 4) (n + 2) (n + 3) g0 g1 → Q' (.ref (n + 4)) s' → wpAny (model P w) A' (pyIter (.ref (n + 4))) Q' E' s' := fun {Q' E' A' s'} hz' q => by
  have hT : s'.TypeIs (.ref (n + 4)) "zip" := ⟨_, hz', rfl⟩
  refine wpAny_pyIter_slot hT F.slot_zip_iter (wpAny_call_entry F.slot_zip_iter hT F.entry_zip_iter ?_ (F.args_zip_iter_1 _))
  show wpAny _ _ (ret (.ref (n + 4))) _ _ s'
  exact wpAny_pure ⟨_, rfl, "zip", _, hT, F.slot_zip_next.lookup, q⟩
 refine pit hz2 (wpAny_pure ⟨plainId_quiet plain_upd_loop _, ?_⟩)
 refine dz_loop (A := A.in1) hh hi hi' D F1 F2 (nzj 4 hnz) (nzj 3 hnz) (nzj 0 hnz) (nzj 1 hnz) (nzj 2 hnz) (nzl hl1 hnz) (nzl hl2 hnz) hx hxn hyn hw hsz (ws.length - 0) 0 _ rfl (Nat.zero_le _) st2 hd2 fun h3 tk3 hd3 hk3 => ⟨rfl, ?_⟩
 exact h h3 tk3 hd3 fun c o hc e => hk3 c o (Nat.ne_of_lt (Heap.lt_size e)) (nzc 4 hc) (nzc 3 hc) (nzc 0 hc) (nzc 1 hc) (k2 c o (pu c o e))
end
end L2

set_option Elab.async false
set_option linter.all false
set_option maxRecDepth 100000
set_option maxHeartbeats 1000000
namespace L2
open PySem PySem.Spec PyProof.Rows
theorem bt_zip : bootBuiltins "zip" = some (.type "zip") := by decide +kernel
theorem zipP_rel : ∀ {ws : List Str} {us : List V} {vs : List Value}, Vals us vs → KV (zipP ws us) (zipP ws vs)
 | [], _, _, _ => .nil
 | _ :: _, [], _, .nil => .nil
 | w :: ws, _ :: _, _ :: _, .cons r t => .cons ⟨rfl, r⟩ (zipP_rel t)
theorem strs_at : ∀ {ws : List Str} {its : List Value}, Vals (ws.map V.str) its → ∀ (i : Nat) (c : Str), ws[i]? = some c → ∃ t, its.toArray[i]? = some (Value.str c t)
 | ws, its, r, i, c, h => by
  obtain ⟨u, hu, ru⟩ := r.get (i := i) (x := V.str c) (by rw [List.getElem?_map, h]; rfl)
  obtain ⟨t, rfl⟩ := ru
  exact ⟨t, by rw [List.getElem?_toArray]; exact hu⟩
def tDictZip (K : PySem.W.Frag) (ta : TA) : TE := fun σ H Q => ta σ H fun vs H1 => ∃ (a b : Addr) (ws : List Str) (us : List V), vs = [.ref a, .ref b] ∧ SqL K H1 a (ws.map V.str) ∧ (SqL K H1 b us ∨ SqT K H1 b us) ∧ us.length = ws.length ∧ ws.Nodup ∧
 ∀ d, H1 d = none → Q (.ref d) (upd H1 d (.dK (zipP ws us)))
theorem pe_dictZip {X : Cx} {e1 e2 : Expr} {ta : TA} {p p' pos pos' : Pos} (hc : X.calm = true) (hg : Gl X "dict") (hg' : Gl X "zip") (hm : X.mg "dict" = none) (hm' : X.mg "zip" = none) (ha : PA X [e1, e2] ta)
  (he : starEach [Expr.Call (.Name "zip" p') [e1, e2] [] pos'] X.env = [(false, eval (Expr.Call (.Name "zip" p') [e1, e2] [] pos') X.env)] := by rfl)
  (he' : starEach [e1, e2] X.env = (false, eval e1 X.env) :: starEach [e2] X.env := by rfl) (hpl' : (backTo pos' (starEach [e2] X.env)).any (·.1) = false := by rfl) :
  PE X (.Call (.Name "dict" p) [.Call (.Name "zip" p') [e1, e2] [] pos'] [] pos) (tDictZip X.K ta) := by
 intro pins s σ H Q I h
 refine wpAny_Call_Name_kw (ld_blt I hg hm bt_dict ?_ (by decide) (by decide))
 refine callWith_type1 (rest := []) ?_ he rfl
 rw [he]
 show wpAny _ _ (spliced ((false, eval (Expr.Call (.Name "zip" p') [e1, e2] [] pos') X.env) :: [])) _ _ s
 refine Calls.spliced_cons ?_
 refine wpAny_Call_Name_kw (ld_blt I hg' hm' bt_zip ?_ (by decide) (by decide))
 refine callWith_type1 (thn (ha pos' pins s σ H _ I h) fun us s1 ⟨vs, H1, I1, r1, a, b, ws, zs, ev, ha1, hb1, hl, hw, q⟩ => ?_) he' hpl'
 subst ev
 obtain ⟨u, v, rfl, ru, rv⟩ := vals2 r1
 cases ru
 cases rv
 obtain ⟨its, r', pl, hz⟩ := I1.list ha1
 have hlen := r'.length
 rw [List.length_map] at hlen
 have hz' : ws.length ≤ sizeLine := by rw [List.length_map] at hz; exact hz
 have hb : ∃ jts : List Value, Vals zs jts ∧ (s1.heap.IsList b jts.toArray ∨ s1.heap.IsTuple b jts.toArray) := by
  rcases hb1 with hb1 | hb1
  ·obtain ⟨jts, r2, pl2, _⟩ := I1.list hb1
   exact ⟨jts, r2, .inl pl2.isList⟩
  ·obtain ⟨jts, r2, pl2, _⟩ := I1.tuple hb1
   exact ⟨jts, r2, .inr pl2⟩
 obtain ⟨jts, r2, hb2⟩ := hb
 have hl2 := r2.length
 have hal : a < s1.heap.objs.size := by obtain ⟨o, ho, _⟩ := pl.isList; exact Heap.lt_size ho
 have hbl : b < s1.heap.objs.size := by rcases hb2 with ⟨o, ho, _⟩ | ⟨o, ho, _⟩ <;> exact Heap.lt_size ho
 refine call_zipA (P := X.prog) (w := X.w) pl.isList hb2 fun h' zn hk => Calls.spliced_nil ?_
 have hsz : s1.heap.objs.size ≤ h'.objs.size := by
  obtain ⟨_, _, _, _, hi, _, st⟩ := zn
  exact Nat.le_of_lt (hi _ _ st.a)
 refine call_dictZ (s := { s1 with heap := h' }) (I1.ok.hd hc) zn hal hbl (strs_at r') (by rw [List.size_toArray]; omega) (by rw [List.size_toArray]; omega) hw hz' fun h2 tk hd hk2 => ?_
 have kp : ∀ c o, s1.heap.get? c = some o → h2.get? c = some o := fun c o e => hk2 c o (Heap.lt_size e) (hk c o e)
 refine ⟨.ref h'.objs.size, _, I1.laid (t' := tk) kp hsz (o := .dK (zipP ws zs)) ⟨?_, ?_, zipP ws jts, zipP_rel r2, by simpa using hd⟩, rfl, q _ (I1.hok.fresh hsz)⟩
 ·rw [zipP_length hl]; exact hz'
 ·exact beq_eq_false_iff_ne.mpr (Ne.symm (Nat.ne_of_lt (Nat.lt_of_lt_of_le I1.big hsz)))
end L2

set_option Elab.async false
set_option linter.all false
set_option maxRecDepth 100000
set_option maxHeartbeats 4000000
namespace L2
open PySem PySem.Spec PyProof.Rows
abbrev LC2 (elt tg iter tg2 iter2 : Expr) (ifs : List Expr) (scope : Scope) (pos : Pos) : Expr := .ListComp elt [⟨tg, iter, [], 0⟩, ⟨tg2, iter2, ifs, 0⟩] scope pos
section
variable {P : Program} {w : World} {A : Around} {R : Result → Shared → Prop} {s : Shared} {elt tg iter tg2 iter2 : Expr} {ifs : List Expr} {scope : Scope} {pos : Pos} {it acc : Value} {env : Env}
abbrev testsOf (ifs : List Expr) (env : Env) : Sem Bool := forIn ifs true fun c r => if r = true then do let ok ← isTrue c env (eval c env); pure (ForInStep.yield ok) else pure (ForInStep.yield r)
theorem turn0 : compTurn (LC2 elt tg iter tg2 iter2 ifs scope pos) 0 it acc env = (do
   standAt iter.pos
   match ← pyNext it with
   | none => pure (.done .next)
   | some v =>
    letOwnedTupleGo tg it v
    assign tg env v
    let mut ok := true
    for c in ([] : List Expr) do
     if ok then ok ← isTrue c env (eval c env)
    if ok then
     let x ← eval iter2 env
     standAt iter2.pos
     let x ← foldedSetIterable iter2 env x
     let _ ← runOwn (.compStart (LC2 elt tg iter tg2 iter2 ifs scope pos) 1 (← holding [x] (pyIter x)) acc env) env
    again (.compLoop (LC2 elt tg iter tg2 iter2 ifs scope pos) 0 it acc env)) := by rfl
theorem turn1 : compTurn (LC2 elt tg iter tg2 iter2 ifs scope pos) 1 it acc env = (do
   standAt iter2.pos
   match ← pyNext it with
   | none => pure (.done .next)
   | some v =>
    letOwnedTupleGo tg2 it v
    assign tg2 env v
    let mut ok := true
    for c in ifs do
     if ok then ok ← isTrue c env (eval c env)
    if ok then
     (do let _ ← call (.builtin "list.append") [acc, ← eval elt env])
    again (.compLoop (LC2 elt tg iter tg2 iter2 ifs scope pos) 1 it acc env)) := by rfl
theorem loop0 (I : Nat → Shared → Prop) (hs : ∀ x, foldedSetIterable iter2 env x = pure x)
  (turn : ∀ n s, I n s → wpAny (model P w) A (pyNext it) (fun r s1 => match r with
   | none => R (.ok .next) s1
   | some v => wpAny (model P w) A (letOwnedTupleGo tg it v) (fun _ s1' => wpAny (model P w) A (assign tg env v) (fun _ s2 =>
     wpAny (model P w) A (eval iter2 env) (fun x s3 => wpAny (model P w) A (pyIter x) (fun jt s4 =>
      codeAny (model P w) A (.compStart (LC2 elt tg iter tg2 iter2 ifs scope pos) 1 jt acc env) (fun r s5 => match r with | .ok _ => ∃ m, m < n ∧ I m s5 | .error _ => False) s4)
     (fun _ _ => False) s3) (fun _ _ => False) s2) (fun _ _ => False) s1') (fun _ _ => False) s1) (fun _ _ => False) s)
  (n : Nat) (h : I n s) : codeAny (model P w) A (.compLoop (LC2 elt tg iter tg2 iter2 ifs scope pos) 0 it acc env) R s := by
 refine codeAny_loop rfl I (fun n s hI => ?_) n h
 show wpAny _ A ((compTurn (LC2 elt tg iter tg2 iter2 ifs scope pos) 0 it acc env).onRaise (fun x => do noteFrame x env; theTreesLotGoes x)) _ _ s
 refine wpAny_noted ?_
 rw [turn0]
 refine wpAny_bind (wpAny_standAt (wpAny_bind (wpAny_mono (turn n s hI) (fun r s1 h1 => ?_) fun _ _ z => z.elim)))
 cases r with
 | none => exact wpAny_pure h1
 | some v =>
  refine wpAny_bind (wpAny_mono h1 (fun _ s1' h1' => ?_) fun _ _ z => z.elim)
  refine wpAny_bind (wpAny_mono h1' (fun _ s2 h2 => wpAny_bind (wpAny_mono (wpAny_tests_nil (Q := fun ok s3 => ok = true ∧ s3 = s2) ⟨rfl, rfl⟩) (fun ok s3 h3 => ?_) fun _ _ h' => h')) fun _ _ z => z.elim)
  obtain ⟨rfl, rfl⟩ := h3
  simp only [if_true]
  refine wpAny_bind (wpAny_mono h2 (fun x s4 h4 => wpAny_bind (wpAny_standAt (wpAny_bind (wpAny_of_eq (hs x) (wpAny_bind (wpAny_holding (wpAny_mono h4 (fun jt s5 h5 => ?_) fun _ _ z => z.elim))))))) fun _ _ z => z.elim)
  refine wpAny_bind (wpAny_runOwn (codeAny_mono h5 fun r s6 h6 => ?_))
  cases r with
  | error e => exact h6.elim
  | ok f => exact wpAny_pure ⟨rfl, h6⟩
theorem loop1 (I : Nat → Shared → Prop)
  (turn : ∀ n s, I n s → wpAny (model P w) A (pyNext it) (fun r s1 => match r with
   | none => R (.ok .next) s1
   | some v => wpAny (model P w) A (letOwnedTupleGo tg2 it v) (fun _ s1' => wpAny (model P w) A (assign tg2 env v) (fun _ s2 =>
     wpAny (model P w) A (testsOf ifs env) (fun b s3 => if b = true then wpAny (model P w) A (eval elt env) (fun x s4 =>
       wpAny (model P w) A (call (.builtin "list.append") [acc, x]) (fun _ s5 => ∃ m, m < n ∧ I m s5) (fun _ _ => False) s4) (fun _ _ => False) s3 else ∃ m, m < n ∧ I m s3) (fun _ _ => False) s2)
     (fun _ _ => False) s1') (fun _ _ => False) s1) (fun _ _ => False) s)
  (n : Nat) (h : I n s) : codeAny (model P w) A (.compLoop (LC2 elt tg iter tg2 iter2 ifs scope pos) 1 it acc env) R s := by
 refine codeAny_loop rfl I (fun n s hI => ?_) n h
 show wpAny _ A ((compTurn (LC2 elt tg iter tg2 iter2 ifs scope pos) 1 it acc env).onRaise (fun x => do noteFrame x env; theTreesLotGoes x)) _ _ s
 refine wpAny_noted ?_
 rw [turn1]
 refine wpAny_bind (wpAny_standAt (wpAny_bind (wpAny_mono (turn n s hI) (fun r s1 h1 => ?_) fun _ _ z => z.elim)))
 cases r with
 | none => exact wpAny_pure h1
 | some v =>
  refine wpAny_bind (wpAny_mono h1 (fun _ s1' h1' => ?_) fun _ _ z => z.elim)
  refine wpAny_bind (wpAny_mono h1' (fun _ s2 h2 => wpAny_bind (wpAny_mono h2 (fun ok s3 h3 => ?_) fun _ _ z => z.elim)) fun _ _ z => z.elim)
  cases ok with
  | true => exact wpAny_bind (wpAny_bind (wpAny_mono h3 (fun x s4 h4 => wpAny_bind (wpAny_mono h4 (fun _ s5 h5 => wpAny_pure (wpAny_pure ⟨rfl, h5⟩)) fun _ _ z => z.elim)) fun _ _ z => z.elim))
  | false => exact wpAny_bind (wpAny_pure (wpAny_pure ⟨rfl, h3⟩))
theorem start1 (h0 : codeAny (model P w) A (.compLoop (LC2 elt tg iter tg2 iter2 ifs scope pos) 1 it acc env) R s)
  (h : wpAny (model P w) A (pyIter it) (fun jt s' => codeAny (model P w) A (.compLoop (LC2 elt tg iter tg2 iter2 ifs scope pos) 1 jt acc env) R s') (fun _ _ => False) s) :
  codeAny (model P w) A (.compStart (LC2 elt tg iter tg2 iter2 ifs scope pos) 1 it acc env) R s := by
 refine codeAny_of_tree ?_
 show wpAny _ _ ((compStart (LC2 elt tg iter tg2 iter2 ifs scope pos) 1 it acc env).onRaise (fun x => do noteFrame x env; standAt theWindowsPlace)) _ _ s
 refine wpAny_notedAt ?_
 unfold compStart
 show wpAny _ _ (ask >>= _) _ _ s
 refine wpAny_bind (wpAny_askSetting (wpAny_ite ?_))
 split
 ·first
   | exact wpAny_bind (wpAny_pure (wpAny_pure (And.intro rfl h0)))
   | exact wpAny_pure (And.intro rfl h0)
 ·refine wpAny_bind (wpAny_rule ?_)
  show wpAny _ _ (standAt iter2.pos >>= _) _ _ s
  exact wpAny_bind (wpAny_standAt (wpAny_bind (wpAny_mono h (fun jt s' h' => wpAny_pure (And.intro rfl h')) fun _ _ z => z.elim)))
end
end L2

set_option Elab.async false
set_option linter.all false
set_option maxRecDepth 100000
set_option maxHeartbeats 4000000
namespace L2
open PySem PySem.Spec PyProof.Rows
def PTs (X : Cx) (ifs : List Expr) (t : TT) : Prop :=
 ∀ (pins : List (Addr × Obj)) (s : Shared) (σ : St) (H : Hp) (Q : Bool → Hp → Prop), Inv X pins σ H s → t σ H Q → wpAny (model X.prog X.w) X.A (testsOf ifs X.env) (TP X pins σ Q) X.xe s
def tYes : TT := fun _ H Q => Q true H
theorem pts_nil {X : Cx} : PTs X [] tYes := fun pins s σ H Q I h => wpAny_tests_nil ⟨H, I, h⟩
def CompOk2 (n : Nat) (J : It) (g : TG) (wi2 : TI) (g2 : TG) (tc : TT) (te : TE) (σ : St) (H : Hp) (Q : VK) : Prop :=
  ∃ W : Nat → Nat → List V → St → Hp → Prop, (∃ m, W 0 m [] (List.replicate n none ++ σ) H) ∧ ∀ i m ys σ' H, W i m ys σ' H →
    (J.stop i H ∧ ∀ D, H D = none → Q (.ref D) (upd H D (.lst ys))) ∨
    (J.go i H ∧ ∀ x H', J.yld i H x H' → g x σ' H' fun σ2 H2 => wi2 σ2 H2 fun J2 H3 => ∃ U : Nat → Nat → List V → St → Hp → Prop, (∃ l, U 0 l ys σ2 H3) ∧ ∀ j l zs σ4 H4, U j l zs σ4 H4 → zs.length ≤ sizeLine ∧
      ((J2.stop j H4 ∧ ∃ m', m' < m ∧ W (i + 1) m' zs σ4 H4) ∨
       (J2.go j H4 ∧ zs.length < sizeLine ∧ ∀ x H', J2.yld j H4 x H' → g2 x σ4 H' fun σ5 H5 => tc σ5 H5 fun b H6 => if b = true then ∃ N : VK, te σ5 H6 N ∧ ∀ v H7, N v H7 → ∃ l', l' < l ∧ U (j + 1) l' (zs ++ [v]) σ5 H7 else ∃ l', l' < l ∧ U (j + 1) l' zs σ5 H6)))
def tComp2 (n : Nat) (wi : TI) (g : InBlock TG) (wi2 : InBlock TI) (g2 : InBlock TG) (tc : InBlock TT) (te : InBlock TE) : TE := fun σ H Q => wi σ H fun J H1 => ∀ cl C ex s Hc, CompOk2 n J (g cl C ex s Hc) (wi2 cl C ex s Hc) (g2 cl C ex s Hc) (tc cl C ex s Hc) (te cl C ex s Hc) σ H1 Q
abbrev lsO (us : List Value) (k : Nat) : Obj := { cls := .type "list", data := .seq us.toArray k }
theorem Inv.grown {X : Cx} {D : Addr} {R : List (Addr × Obj)} {us us' : List Value} {k k' : Nat} {σ : St} {H : Hp} {s : Shared} {h8 : Heap} (I : Inv X ((D, lsO us k) :: R) σ H s) (hs8 : Heap.SameBut D s.heap h8) (hD8 : h8.get? D = some (lsO us' k')) (ab : X.s₀.heap.objs.size ≤ D)
  (hcell : ∀ x c, X.env.cells.lookup x = some c → c ≠ D) (hR : ∀ p ∈ X.pn ++ R, p.1 ≠ D) : Inv X ((D, lsO us' k') :: R) σ H { s with heap := h8 } := by
 obtain ⟨_, nD, lD, fD, _⟩ := I.pin (D, lsO us k) (List.mem_append_right _ List.mem_cons_self)
 have I8 : Inv X R σ H { s with heap := h8 } := (I.pins_of (pins' := R) fun p hp => I.pin p (List.mem_append_right _ (List.mem_cons_of_mem _ hp))).turned (t' := s.toks) (it := D) (fun b o hb e => (hs8.2 b hb).trans e) nD lD (.inr ab) hcell hR
 refine I8.pins_of fun p hp => ?_
 rcases List.mem_cons.mp hp with rfl | hp
 ·exact ⟨hD8, nD, lD, fD, fun v z => by cases z⟩
 ·exact I8.pin p (List.mem_append_right _ hp)
section
variable {X : Cx} {n : Nat} {N' : List Str} {scope : Scope} {elt tg iter tg2 iter2 : Expr} {ifs : List Expr} {pos : Pos} {pins : List (Addr × Obj)} {σ : St} {H2 : Hp} {s2 : Shared} {cl : List (Str × Addr)}
theorem comp_block2 {it : Addr} {fp : List Addr} {tn : Nat → Heap → Prop} {J : It} {g g2 : InBlock TG} {wi2 : InBlock TI} {tc : InBlock TT} {te : InBlock TE} {Q : VK} {E : Value → Shared → Prop}
  (hE : ∀ v s, ¬ X.xe v s) (hc : X.calm = true) (S : CompScope n N' X scope) (c1 : ∀ x c, cl.lookup x = some c → X.env.cells.lookup x = some c) (c2 : ∀ x ∈ scope.names, x.2 = .free → ∃ c, cl.lookup x.1 = some c)
  (I2 : Inv X pins σ H2 s2) (T : Turn X.prog X.w X.K tg J fp it tn) (st2 : tn 0 s2.heap) (f2 : ∀ b ∈ fp, FpOk X pins H2 b)
  (hg : ∀ cl C ex s H, PG (cxComp X N' scope cl C ex s H) tg (g cl C ex s H)) (hi2 : ∀ cl C ex s H, PI (cxComp X N' scope cl C ex s H) tg2 iter2 (wi2 cl C ex s H)) (hg2 : ∀ cl C ex s H, PG (cxComp X N' scope cl C ex s H) tg2 (g2 cl C ex s H)) (htc : ∀ cl C ex s H, PTs (cxComp X N' scope cl C ex s H) ifs (tc cl C ex s H)) (hs2 : ∀ cl C ex s H x, foldedSetIterable iter2 (cxComp X N' scope cl C ex s H).env x = pure x) (he : ∀ cl C ex s H, PE (cxComp X N' scope cl C ex s H) elt (te cl C ex s H))
  (cok : ∀ cl C ex s Hc, CompOk2 n J (g cl C ex s Hc) (wi2 cl C ex s Hc) (g2 cl C ex s Hc) (tc cl C ex s Hc) (te cl C ex s Hc) σ H2 Q) :
  wpAny (model X.prog X.w) X.A (newList []) (fun acc s3 => wpAny (model X.prog X.w) X.A (newFunctionEnv scope X.env.globals cl [] X.env.qual none .none (some X.env)) (fun cenv s4 =>
   codeAny (model X.prog X.w) X.A (.compStart (LC2 elt tg iter tg2 iter2 ifs scope pos) 0 (.ref it) acc { cenv with scope := relabel scope X.env })
    (fun r s' => match r with | .ok _ => CompBack X pins σ Q acc cenv.locals s' | .error _ => False) s4) E s3) E s2 := by
 have fl : ∀ b ∈ fp, @LT.lt Nat _ b s2.heap.objs.size := fun b hb => by
  obtain ⟨o, e, _⟩ := T.obj _ _ st2 b hb
  exact Heap.lt_size e
 have frl : ∀ b ∈ frs X.stack, @LT.lt Nat _ b s2.heap.objs.size := fun b hb => by
  obtain ⟨_, o, ho, _⟩ := I2.stack.mem hb
  exact Heap.lt_size ho
 have celll : ∀ x c, X.env.cells.lookup x = some c → @LT.lt Nat _ c s2.heap.objs.size := fun x c e => by
  obtain ⟨v, q⟩ := I2.cell x c e
  exact q.lt
 refine wpAny_newObj_type (wpAny_newFunctionEnv S.cell (by intro y hy; simp at hy) (fun h1 hns1 hsb1 => ?_) S.kind)
 dsimp only at hns1 hsb1 ⊢
 generalize hH2 : s2.heap.push { cls := .type "list", dict := none, data := .seq ([] : List Value).toArray } = G at hns1 hsb1 ⊢
 have hC : @Eq Nat G.objs.size (s2.heap.objs.size + 1) := by rw [← hH2, Heap.size_push]
 have hDC : s2.heap.objs.size ≠ G.objs.size := by show @Ne Nat _ _; omega
 have below : ∀ b, @LT.lt Nat _ b s2.heap.objs.size → b ≠ G.objs.size ∧ b ≠ s2.heap.objs.size := fun b hb => ⟨by show @Ne Nat _ _; omega, Nat.ne_of_lt hb⟩
 have old : ∀ b o, s2.heap.get? b = some o → h1.get? b = some o := fun b o e => hsb1.extBut b o (below b (Heap.lt_size e)).1 (Heap.get?_push_of_some _ (hH2 ▸ Heap.get?_push_of_some _ e))
 have hacc : h1.get? s2.heap.objs.size = some { cls := .type "list", data := .seq ([] : List Value).toArray 0 } := hsb1.extBut _ _ hDC (Heap.get?_push_of_some _ (hH2 ▸ Heap.get?_push_size _ rfl))
 have hst1 : tn 0 h1 := T.keep _ _ _ st2 fun b hb o e => old b o e
 let X' := cxComp X N' scope cl G.objs.size fp s2 H2
 obtain ⟨W, ⟨m0, w0⟩, turn⟩ := cok cl G.objs.size fp s2 H2
 have hXe : X'.xe = X.xe := rfl
 have stat : ∀ {H' : Hp} {ps : List (Addr × Obj)}, (∀ b ∈ fp, H' b = none) → (∀ p ∈ ps, p.1 = s2.heap.objs.size) → ∀ b ∈ fp, FpOk X' ps H' b := fun {H' ps} hn hp b hb => by
  obtain ⟨f0, f1, ff, f3, f4, f5⟩ := f2 b hb
  refine ⟨hn b hb, (below b (fl b hb)).1, fun z => ?_, .inl hb, fun x c e z => ?_, fun p hp' z => ?_⟩
  ·exact (List.mem_cons.mp (I2.stkSub b z)).elim f1 ff
  ·exact f4 x c (c1 x c e) z
  ·have e : p.1 = s2.heap.objs.size := hp p (by simpa [X', cxComp] using hp')
   exact (below b (fl b hb)).2 (z.symm.trans e)
 have loop : ∀ s3 : Shared, s3 = { s2 with heap := h1, toks := s2.toks + ([] : List (Str × Value)).length } →
   codeAny (model X.prog X.w) X.A (.compLoop (LC2 elt tg iter tg2 iter2 ifs scope pos) 0 (.ref it) (.ref s2.heap.objs.size) (compEnvC scope cl G.objs.size X.env))
    (fun r s' => match r with | .ok _ => CompBack X pins σ Q (.ref s2.heap.objs.size) G.objs.size s' | .error _ => False) s3 := by
  rintro s3 rfl
  have I3 := comp_inv (us := []) (k := 0) (s' := { s2 with heap := h1, toks := s2.toks + ([] : List (Str × Value)).length }) S c1 c2 I2 f2 fl rfl hC rfl rfl old ⟨_, hns1⟩ hacc
  refine loop0 (hs := hs2 cl G.objs.size fp s2 H2) (fun m s' => ∃ i ys us k σ' H', Inv X' [(s2.heap.objs.size, lsO us k)] σ' H' s' ∧ Vals ys us ∧ tn i s'.heap ∧ (∀ b ∈ fp, H' b = none) ∧ ys.length ≤ sizeLine ∧ W i m ys σ' H') ?_ m0
   ⟨0, [], [], 0, _, H2, I3, .nil, hst1, fun b hb => (f2 b hb).1, Nat.zero_le _, w0⟩
  rintro m s' ⟨i, ys, us, k, σ', H', I', rv, st', fr', hlen, w'⟩
  rcases turn i m ys σ' H' w' with ⟨stop, q⟩ | ⟨go, step⟩
  ·refine thn (T.done X' rfl rfl rfl hc i _ s' σ' H' _ I' (stat fr' (by simp)) st' stop) fun r s4 ⟨hr, I4⟩ => ?_
   subst hr
   show CompBack X pins σ Q (.ref s2.heap.objs.size) G.objs.size s4
   obtain ⟨m1, hn1, _⟩ := I4.loc
   obtain ⟨pD, nD, _, _, _⟩ := I4.pin (s2.heap.objs.size, { cls := .type "list", data := .seq us.toArray k }) (List.mem_append_right _ (by simp))
   have nD : H' s2.heap.objs.size = none := nD
   have pD : s4.heap.get? s2.heap.objs.size = some { cls := .type "list", data := .seq us.toArray k } := pD
   have hok : HOk X.prog X.w (upd H' s2.heap.objs.size (.lst ys)) s4.heap := fun b u e => by
    by_cases hb : b = s2.heap.objs.size
    ·subst hb
     rw [upd_same] at e; cases e
     exact ⟨hlen, us, k, rv, pD⟩
    ·rw [upd_ne hb] at e
     exact (I4.hok b u e).stay (fun _ _ _ q => q) (fun c q => by rw [upd_ne (ne_of_none q nD)]; exact q) fun c xs q => by rw [upd_ne (ne_of_none q nD)]; exact q
   have un : Un (frs X.stack) fp H2 (upd H' s2.heap.objs.size (.lst ys)) s2.heap s4.heap := by
    have u0 := I4.base
    refine ⟨u0.keep, u0.slot, fun b o e n hx => ?_, u0.there, fun b xs e => ?_, fun b o xs e => ?_, fun b ps e => ?_⟩
    ·rw [upd_ne (below b (Heap.lt_size e)).2]; exact u0.free b o e n hx
    ·have q := u0.tups b xs e
     rw [upd_ne (ne_of_none q nD)]; exact q
    ·have q := u0.frzs b o xs e
     rw [upd_ne (ne_of_none q nD)]; exact q
    ·obtain ⟨more, q⟩ := u0.tbls b ps e
     exact ⟨more, by rw [upd_ne (ne_of_none q nD)]; exact q⟩
   have IX : Inv X pins σ (upd H' s2.heap.objs.size (.lst ys)) s4 := I2.call' (ch := fp) I4.os un hok I4.bare fun b hb => by
    obtain ⟨f0, f1, ff, f3, f4, f5⟩ := f2 b hb
    exact ⟨f3, f1, f4, f5⟩
   have hG0 : H' G.objs.size = none := I4.free
   refine ⟨s2.heap.objs.size, _, m1, rfl, IX, hn1, ⟨by rw [upd_ne (Ne.symm hDC)]; exact hG0, fun z => ?_, fun z => ?_, .inr ?_, fun x c e z => ?_, fun p hp z => ?_⟩, q _ nD⟩
   ·have q1 : @LT.lt Nat _ X.env.locals s2.heap.objs.size := I2.lt
    have q2 : @Eq Nat G.objs.size X.env.locals := z
    omega
   ·have z' : G.objs.size ∈ frs X.outer := z
    obtain ⟨_, o, ho, _⟩ := I2.funs.mem z'
    have q1 : @LT.lt Nat _ G.objs.size s2.heap.objs.size := Heap.lt_size ho
    omega
   ·have q1 := I2.sz
    show @LE.le Nat _ X.s₀.heap.objs.size G.objs.size
    omega
   ·have q1 := celll x c e
    have q2 : @Eq Nat c G.objs.size := z
    omega
   ·have q1 : @LT.lt Nat _ p.1 s2.heap.objs.size := Heap.lt_size (I2.pin p hp).1
    have q2 : @Eq Nat p.1 G.objs.size := z
    omega
  ·have hcD : ∀ x c, cl.lookup x = some c → c ≠ s2.heap.objs.size := fun x c e => Nat.ne_of_lt (celll x c (c1 x c e))
   refine thn (T.item X' rfl rfl rfl hc i _ s' σ' H' _ I' (stat fr' (by simp)) st' go) fun r s4 ⟨u, hr, h4⟩ => ?_
   subst hr
   show wpAny _ _ (letOwnedTupleGo tg (.ref it) u) _ _ s4
   refine thn h4 fun _ s5 ⟨x, H5, I5, r5, y5, st5, fr5⟩ => ?_
   have I5' : Inv X' ((s2.heap.objs.size, lsO us k) :: pinsAt fp s5.heap) σ' H5 s5 := I5.pinned (stat fr5 (by simp)) (T.obj _ _ st5)
   have noD : ∀ p ∈ X'.pn ++ pinsAt fp s5.heap, p.1 ≠ s2.heap.objs.size := fun p hp => by
    have hp' : p ∈ pinsAt fp s5.heap := by simpa [X', cxComp] using hp
    exact (below p.1 (fl p.1 (of_pinsAt hp').1)).2
   have w1 := hg cl G.objs.size fp s2 H2 _ s5 σ' H5 x u _ I5' r5 (step x H5 y5)
   refine wpAny_mono w1 (fun _ s6 ⟨σ6, H6, I6, q6⟩ => ?_) fun v s hv => absurd hv (hE v s)
   refine wpAny_mono (hi2 cl G.objs.size fp s2 H2 _ s6 σ6 H6 _ I6 q6) (fun v s7 h7 => wpAny_mono h7 (fun jv s8 h8 => ?_) fun v s hv => absurd hv (hE v s)) fun v s hv => absurd hv (hE v s)
   obtain ⟨jt, fp2, tn2, J2, H8, rfl, I8, T2, st8, f8, U, ⟨l0, u0⟩, uturn⟩ := h8
   have f8' : ∀ {H9 : Hp} {us9 : List Value} {k9 : Nat}, (∀ b ∈ fp2, H9 b = none) → ∀ b ∈ fp2, FpOk X' ((s2.heap.objs.size, lsO us9 k9) :: pinsAt fp s5.heap) H9 b := fun {H9 us9 k9} hn b hb => by
    obtain ⟨a0, a1, a2, a3, a4, a5⟩ := f8 b hb
    refine ⟨hn b hb, a1, a2, a3, a4, fun p hp => ?_⟩
    rcases List.mem_append.mp hp with hp | hp
    ·exact a5 p (List.mem_append_left _ hp)
    ·rcases List.mem_cons.mp hp with rfl | hp
     ·exact a5 (s2.heap.objs.size, lsO us k) (List.mem_append_right _ List.mem_cons_self)
     ·exact a5 p (List.mem_append_right _ (List.mem_cons_of_mem _ hp))
   have inner : codeAny (model X.prog X.w) X.A (.compLoop (LC2 elt tg iter tg2 iter2 ifs scope pos) 1 (.ref jt) (.ref s2.heap.objs.size) (compEnvC scope cl G.objs.size X.env))
     (fun r s5 => match r with | .ok _ => ∃ m', m' < m ∧ (∃ i ys us k σ' H', Inv X' [(s2.heap.objs.size, lsO us k)] σ' H' s5 ∧ Vals ys us ∧ tn i s5.heap ∧ (∀ b ∈ fp, H' b = none) ∧ ys.length ≤ sizeLine ∧ W i m' ys σ' H') | .error _ => False) s8 := by
    refine loop1 (fun l s' => ∃ j zs us k σ4 H4, Inv X' ((s2.heap.objs.size, lsO us k) :: pinsAt fp s5.heap) σ4 H4 s' ∧ Vals zs us ∧ tn2 j s'.heap ∧ (∀ b ∈ fp2, H4 b = none) ∧ U j l zs σ4 H4) ?_ l0 ⟨0, ys, us, k, σ6, H8, I8, rv, st8, fun b hb => (f8 b hb).1, u0⟩
    rintro l s' ⟨j, zs, us, k, σ4, H4, I', rv, st', fr', u'⟩
    obtain ⟨hlen, ⟨stop, m', hm', w'⟩ | ⟨go, hlt, step⟩⟩ := uturn j l zs σ4 H4 u'
    ·refine thn (T2.done X' rfl rfl rfl hc j _ s' σ4 H4 _ I' (f8' fr') st' stop) fun r s9 ⟨hr, I9⟩ => ?_
     subst hr
     refine ⟨m', hm', i + 1, zs, us, k, σ4, H4, I9.pins_of fun p hp => I9.pin p (List.mem_append_right _ (by rw [List.mem_singleton.mp hp]; exact List.mem_cons_self)), rv, T.keep _ _ _ st5 fun b hb o e => ?_, fun b hb => ?_, hlen, w'⟩
     ·exact (I9.pin (b, o) (List.mem_append_right _ (List.mem_cons_of_mem _ (mem_pinsAt hb e)))).1
     ·obtain ⟨o, e, d⟩ := T.obj _ _ st5 b hb
      exact (I9.pin (b, o) (List.mem_append_right _ (List.mem_cons_of_mem _ (mem_pinsAt hb e)))).2.1
    ·refine thn (T2.item X' rfl rfl rfl hc j _ s' σ4 H4 _ I' (f8' fr') st' go) fun r s9 ⟨v, hr, h9⟩ => ?_
     subst hr
     show wpAny _ _ (letOwnedTupleGo tg2 (.ref jt) v) _ _ s9
     refine thn h9 fun _ sA ⟨x, HA, IA, rA, yA, stA, frA⟩ => ?_
     have IA' : Inv X' ((s2.heap.objs.size, lsO us k) :: (pinsAt fp s5.heap ++ pinsAt fp2 sA.heap)) σ4 HA sA := IA.pinned (f8' frA) (T2.obj _ _ stA)
     have noD2 : ∀ p ∈ X'.pn ++ (pinsAt fp s5.heap ++ pinsAt fp2 sA.heap), p.1 ≠ s2.heap.objs.size := fun p hp => by
      rcases List.mem_append.mp hp with hp | hp
      ·exact noD p (List.mem_append_left _ hp)
      ·rcases List.mem_append.mp hp with hp | hp
       ·exact noD p (List.mem_append_right _ hp)
       ·obtain ⟨_, _, _, _, _, a5⟩ := f8 p.1 (of_pinsAt hp).1
        exact Ne.symm (a5 (s2.heap.objs.size, lsO _ _) (List.mem_append_right _ List.mem_cons_self))
     have w1 := hg2 cl G.objs.size fp s2 H2 _ sA σ4 HA x v _ IA' rA (step x HA yA)
     refine wpAny_mono w1 (fun _ sB ⟨σB, HB, IB, qB⟩ => ?_) fun v s hv => absurd hv (hE v s)
     have keepT : ∀ {pins' : List (Addr × Obj)} {sC : Shared} {σC : St} {HC : Hp}, Inv X' (pins' ++ pinsAt fp2 sA.heap) σC HC sC → tn2 (j + 1) sC.heap ∧ ∀ b ∈ fp2, HC b = none := fun {pins' sC σC HC} IC => by
      refine ⟨T2.keep _ _ _ stA fun b hb o e => (IC.pin (b, o) (List.mem_append_right _ (List.mem_append_right _ (mem_pinsAt hb e)))).1, fun b hb => ?_⟩
      obtain ⟨o, e, d⟩ := T2.obj _ _ stA b hb
      exact (IC.pin (b, o) (List.mem_append_right _ (List.mem_append_right _ (mem_pinsAt hb e)))).2.1
     refine wpAny_mono (htc cl G.objs.size fp s2 H2 _ sB σB HB _ IB qB) (fun b sC ⟨HC, IC, qC⟩ => ?_) fun v s hv => absurd hv (hE v s)
     cases b with
     | false =>
      rw [if_neg Bool.false_ne_true] at qC ⊢
      obtain ⟨l', hl', uC⟩ := qC
      obtain ⟨k1, k2⟩ := keepT (pins' := (s2.heap.objs.size, lsO us k) :: pinsAt fp s5.heap) IC
      exact ⟨l', hl', j + 1, zs, us, k, σB, HC, IC.pins_of fun p hp => IC.pin p (List.mem_append_right _ (by rcases List.mem_cons.mp hp with rfl | hp; exact List.mem_cons_self; exact List.mem_cons_of_mem _ (List.mem_append_left _ hp))), rv, k1, k2, uC⟩
     | true =>
      rw [if_pos rfl] at qC ⊢
      obtain ⟨NN, qC, hNN⟩ := qC
      refine wpAny_mono (he cl G.objs.size fp s2 H2 _ sC σB HC _ IC qC) (fun y sD ⟨v, HD, ID, rD, qD⟩ => ?_) fun v s hv => absurd hv (hE v s)
      obtain ⟨l', hl', uD⟩ := hNN v HD qD
      obtain ⟨pD, nD, lD, fD, _⟩ := ID.pin (s2.heap.objs.size, lsO us k) (List.mem_append_right _ List.mem_cons_self)
      refine append_at (hsz := by rw [List.size_toArray, ← rv.length]; exact hlen) pD fun h9 hs9 hD9 => ?_
      have IE : Inv X' ((s2.heap.objs.size, lsO (us ++ [y]) (k + 1)) :: (pinsAt fp s5.heap ++ pinsAt fp2 sA.heap)) σB HD { sD with heap := h9 } := ID.grown hs9 (by rw [hD9, List.push_toArray]) (Nat.le_refl _) hcD noD2
      obtain ⟨k1, k2⟩ := keepT (pins' := (s2.heap.objs.size, lsO (us ++ [y]) (k + 1)) :: pinsAt fp s5.heap) IE
      exact ⟨l', hl', j + 1, zs ++ [v], us ++ [y], k + 1, σB, HD, IE.pins_of fun p hp => IE.pin p (List.mem_append_right _ (by rcases List.mem_cons.mp hp with rfl | hp; exact List.mem_cons_self; exact List.mem_cons_of_mem _ (List.mem_append_left _ hp))), rv.append (.cons rD .nil), k1, k2, uD⟩
   exact start1 inner (T2.self _ 0 _ _ _ st8 inner)
 exact codeAny_compStart_list (loop _ rfl) (T.self _ 0 _ _ _ hst1 (loop _ rfl))
theorem ps_setComp2 {wi : TI} {g g2 : InBlock TG} {wi2 : InBlock TI} {tc : InBlock TT} {te : InBlock TE} {i : Nat} {x : Str} {pos' spos : Pos} (hN : X.N.Nodup) (hi0 : X.N[i]? = some x) (hx : Loc X.env.scope x)
  (hsw : swapsWith (LC2 elt tg iter tg2 iter2 ifs scope pos) (some (.Name x pos')) spos.line X.env = pure true)
  (hE : ∀ v s, ¬ X.xe v s) (hc : X.calm = true) (S : CompScope n N' X scope) (hi : PI X tg iter wi)
  (hg : ∀ cl C ex s H, PG (cxComp X N' scope cl C ex s H) tg (g cl C ex s H)) (hi2 : ∀ cl C ex s H, PI (cxComp X N' scope cl C ex s H) tg2 iter2 (wi2 cl C ex s H)) (hg2 : ∀ cl C ex s H, PG (cxComp X N' scope cl C ex s H) tg2 (g2 cl C ex s H)) (htc : ∀ cl C ex s H, PTs (cxComp X N' scope cl C ex s H) ifs (tc cl C ex s H)) (he : ∀ cl C ex s H, PE (cxComp X N' scope cl C ex s H) elt (te cl C ex s H))
  (hs : ∀ x, foldedSetIterable iter X.env x = pure x := by intro _; rfl) (hs2 : ∀ cl C ex s H x, foldedSetIterable iter2 (cxComp X N' scope cl C ex s H).env x = pure x := by intro _ _ _ _ _ _; rfl) (hf : X.fn x = true ∨ X.env.scope.names.lookup x = some .local := by first | exact .inl rfl | exact .inr rfl | assumption) :
  PS X (.Assign [.Name x pos'] (LC2 elt tg iter tg2 iter2 ifs scope pos) spos) (tAsg (tComp2 n wi g wi2 g2 tc te) (gName i)) := by
 intro pins s σ H D I h
 rw [exec_Assign_Name_used _ _ _ _ hsw]
 refine wpAny_bind (wpAny_standAt (wpAny_bind ?_))
 obtain ⟨cl, hcl, c1, c2⟩ := closure_ok (scope := scope) (env := X.env) fun x hx hf => I.ok.has x.1 (S.free x hx hf)
 show wpAny _ _ (do let _ ← comprehension (LC2 elt tg iter tg2 iter2 ifs scope pos) scope X.env _ (newList []) false (eval iter X.env) (some (assign (.Name x pos') X.env))) _ _ s
 refine wpAny_bind (wpAny_mono (wpAny_comprehension_free (use := some (assign (.Name x pos') X.env)) (Q := fun _ s' => SP X pins D .next s') rfl hs hcl S.kind S.names
  (thn (hi pins s σ H _ I h) fun v s1 h1 => thn h1 fun itv s2 h2 => ?_)) (fun _ s' hq => wpAny_pure (wpAny_pure hq)) fun _ _ e => e)
 obtain ⟨it, fp, tn, J, H2, e, I2, T, st2, f2, cok⟩ := h2
 subst e
 refine wpAny_mono (comp_block2 (pos := pos) (iter := iter) (E := X.xe) (Q := fun x H1 => gName i x σ H1 D.nx) hE hc S c1 c2 I2 T st2 f2 hg hi2 hg2 htc hs2 he cok) (fun acc s3 h3 => wpAny_mono h3 (fun cenv s4 h4 => codeAny_mono h4 fun r s' hr => ?_) fun _ _ z => z) fun _ _ z => z
 cases r with
 | error e => exact False.elim hr
 | ok f =>
  obtain ⟨Dl, H', m, rfl, I', hn, ⟨f0, f1, ff, f3, f4, f5⟩, q⟩ := hr
  show wpAny _ _ (assign (.Name x pos') X.env (.ref Dl)) _ _ s'
  refine wpAny_assign_Name (store_ok2 I' hN hi0 hx (v := .ref Dl) (u := .ref Dl) rfl (fun s'' I'' hb => ?_) hf)
  obtain ⟨a, sb, ha⟩ := hb
  have hCa : cenv.locals ≠ a := by
   rcases ha with rfl | ha
   ·exact f1
   ·exact fun z => f4 x a ha z.symm
  refine ⟨m, hn.sameBut sb hCa, fun h' hs' => ⟨_, H', ?_, q⟩⟩
  exact I''.turned (t' := s''.toks) (fun b o hb e => (hs'.2 b hb).trans e) f0 f1 f3 f4 f5
end
end L2

set_option Elab.async false
set_option linter.all false
set_option maxRecDepth 100000
set_option maxHeartbeats 1000000
namespace L2
open PySem PySem.Spec PyProof.Rows
section
variable {X : Cx}
theorem mt_index : MtR X "list.index" (fun x xs H Q => ∃ (p : Addr) (ys : List Str) (k : Str), x = .ref p ∧ xs = [.str k] ∧ SqL X.K H p (ys.map V.str) ∧ k ∈ ys ∧ Q (.int (ys.idxOf k : Nat)) H) := by
 intro pins s σ H x xs v us Q I rx rs h
 obtain ⟨p, ys, k, rfl, rfl, hq, hk, q⟩ := h
 cases rx
 obtain ⟨u, rfl, t, rfl⟩ := vals1 rs
 obtain ⟨its, r', pl, hz⟩ := I.list hq
 obtain ⟨⟨cls, dd, data, sl⟩, ho, hc, n, hd⟩ := pl.isList
 simp only at hc hd
 subst hc hd
 have hlen := r'.length
 rw [List.length_map] at hlen hz
 have hj : ys.idxOf k < ys.length := List.idxOf_lt_length_iff.mpr hk
 have at_ : ∀ (j : Nat) (h1 : j < its.length) (h2 : j < ys.length), ∃ t, its[j] = Value.str ys[j] t := fun j h1 h2 => by
  obtain ⟨u, hu, ru⟩ := r'.get (i := j) (x := V.str ys[j]) (by simp [h2])
  obtain ⟨t, rfl⟩ := ru
  exact ⟨t, by rw [List.getElem?_eq_getElem h1] at hu; exact Option.some.inj hu⟩
 let e : Value → Bool := fun y => match y with | .str z _ => z == k | _ => false
 refine call_meets PySem.F.slot_list_index ⟨_, ho, rfl⟩ PySem.F.entry_list_index (PySem.F.args_list_index_2 _ _)
  (SeqAt.list_indexAt p its.toArray n dd sl (.str k t) e (ys.idxOf k) (by simpa [← hlen] using hj) (Int.lt_of_lt_of_le (Int.ofNat_lt.mpr hj) (Int.le_trans (Int.ofNat_le.mpr hz) (by decide))) ?_ ?_) ⟨ho, fun y hy => ?_, ⟨.int (ys.idxOf k : Nat), H, I.tok _, ⟨_, rfl⟩, q⟩⟩
 ·obtain ⟨t', e'⟩ := at_ (ys.idxOf k) (by omega) hj
  show e its[ys.idxOf k] = true
  rw [e']
  show (ys[ys.idxOf k] == k) = true
  simpa using List.getElem_idxOf hj
 ·intro j hjs hlt
  have h1 : j < its.length := by simpa using hjs
  obtain ⟨t', e'⟩ := at_ j h1 (by omega)
  show e its[j] = false
  rw [e']
  show (ys[j] == k) = false
  exact List.not_of_lt_findIdx hlt
 ·have hy' : y ∈ its := by simpa using hy
  obtain ⟨j, h1, rfl⟩ := List.getElem_of_mem hy'
  obtain ⟨t', e'⟩ := at_ j h1 (by omega)
  rw [e']
  exact (eqGives_str _ _ _ _).at _ _
theorem ints_same {its jts : List Value} {ns : List Int} (r1 : Vals (ns.map V.int) its) (r2 : Vals (ns.map V.int) jts) {A : Around} {s : Shared} (j : Nat) (h1 : j < its.toArray.size) (h2 : j < jts.toArray.size) : SeqAt.EqAt A s its.toArray[j] jts.toArray[j] true := by
 have h1' : j < its.length := by simpa using h1
 have h2' : j < jts.length := by simpa using h2
 have l1 := r1.length
 rw [List.length_map] at l1
 obtain ⟨u1, e1, t1, rfl⟩ := r1.get (i := j) (x := V.int (ns[j]'(by omega))) (by simp [show j < ns.length by omega])
 obtain ⟨u2, e2, t2, rfl⟩ := r2.get (i := j) (x := V.int (ns[j]'(by omega))) (by simp [show j < ns.length by omega])
 have g1 : its.toArray[j] = Value.int (ns[j]'(by omega)) t1 := by simpa using (List.getElem?_eq_some_iff.mp e1).2
 have g2 : jts.toArray[j] = Value.int (ns[j]'(by omega)) t2 := by simpa using (List.getElem?_eq_some_iff.mp e2).2
 rw [g1, g2]
 have := (MeetsSeq.EqGives.int (ns[j]'(by omega)) (ns[j]'(by omega)) t1 t2).at A s
 rwa [beq_self_eq_true] at this
theorem op_eqI (hu : X.A.units < cLine) : OpR X (compareOp .Eq) (fun x y H Q => ∃ (a b : Addr) (ns : List Int), x = .ref a ∧ y = .ref b ∧ SqL X.K H a (ns.map V.int) ∧ SqL X.K H b (ns.map V.int) ∧ Q (.bl true) H) := by
 intro pins s σ H x y v u Q I rx ry h
 obtain ⟨a, b, ns, rfl, rfl, ha, hb, q⟩ := h
 cases rx
 cases ry
 obtain ⟨its, r1, p1, _⟩ := I.list ha
 obtain ⟨jts, r2, p2, _⟩ := I.list hb
 refine PySem.SeqAt.eq_listAt (e := fun _ => true) p1.isList p2.isList (by simp [← r1.length, ← r2.length]) hu (fun j h1 h2 => ints_same r1 r2 j h1 h2) ⟨.bl true, H, I.tok _, ?_, q⟩
 show Value.bool _ = Value.bool true
 congr 1
 simp
theorem op_neI (hu : X.A.units < cLine) : OpR X (compareOp .NotEq) (fun x y H Q => ∃ (a b : Addr) (ns : List Int), x = .ref a ∧ y = .ref b ∧ SqL X.K H a (ns.map V.int) ∧ SqL X.K H b (ns.map V.int) ∧ Q (.bl false) H) := by
 intro pins s σ H x y v u Q I rx ry h
 obtain ⟨a, b, ns, rfl, rfl, ha, hb, q⟩ := h
 cases rx
 cases ry
 obtain ⟨its, r1, p1, _⟩ := I.list ha
 obtain ⟨jts, r2, p2, _⟩ := I.list hb
 refine SeqAt.RcNeAt.lists (e := fun _ => true) p1.isList p2.isList (by simp [← r1.length, ← r2.length]) hu (fun j h1 h2 => ints_same r1 r2 j h1 h2) X.prog X.w X.xe _ ⟨.bl false, H, I.tok _, ?_, q⟩
 show Value.bool _ = Value.bool false
 congr 1
 simp
theorem call_range1 : CallR X (.type "range") (fun xs H Q => ∃ n : Int, xs = [.int n] ∧ ∀ p, H p = none → Q (.ref p) (upd H p (.rng 0 n))) := by
 intro pins s σ H xs us Q I r h
 obtain ⟨n, rfl, q⟩ := h
 obtain ⟨u, rfl, t, rfl⟩ := vals1 r
 exact call_range_1 ⟨.ref s.heap.objs.size, _, I.laid (t' := s.toks + 1 + 1) (fun b o e => Heap.get?_push_of_some _ e) (Nat.le_refl _) (o := .rng 0 n) ⟨_, _, _, Heap.get?_push_size _ rfl⟩, rfl, q _ (I.hok.fresh (Nat.le_refl _))⟩
def upN (n : Nat) : List Int := (List.range n).map fun (i : Nat) => (i : Int)
theorem call_listR (hc : X.calm = true) : CallR X (.type "list") (fun xs H Q => ∃ (p : Addr) (n : Nat), xs = [.ref p] ∧ H p = some (.rng 0 n) ∧ n ≤ 1000 ∧ ∀ l, H l = none → Q (.ref l) (upd H l (.lst ((upN n).map V.int)))) := by
 intro pins s σ H xs us Q I r h
 obtain ⟨p, n, rfl, hp, hn, q⟩ := h
 obtain ⟨u, rfl, rx⟩ := vals1 r
 cases rx
 obtain ⟨t, u, v, hr⟩ := (show ObjOk X.prog X.w H s.heap p (.rng 0 n) from I.hok p _ hp)
 have hsz : Builtin.Range.rangeSize 0 (n : Int) 1 = (n : Nat) := by rw [rangeSize_one]; split <;> omega
 refine call_list_range (I.ok.hd hc) hr (small_one (by decide) (by decide) (by omega) (by omega)) hsz (by omega) fun h' tk acc c kp hget hit => ?_
 have hl : acc.toList.length = n := by rw [Array.length_toList]; exact hit.1
 have rel : ∀ (m k : Nat) (l : List Value), l.length = m → (∀ (i : Nat) (w : Value), l[i]? = some w → ∃ t, w = .int ((k + i : Nat) : Int) t) → Vals (((List.range' k m).map fun (i : Nat) => (i : Int)).map V.int) l := by
  intro m
  induction m with
  | zero => intro k l e _; rw [List.length_eq_zero_iff.mp e]; exact .nil
  | succ m ih =>
   intro k l e f
   cases l with
   | nil => simp at e
   | cons x l =>
    rw [List.range'_succ, List.map_cons, List.map_cons]
    refine .cons ?_ (ih (k + 1) l (by simpa using e) fun i w hw => ?_)
    ·obtain ⟨t, e⟩ := f 0 x (by simp)
     exact ⟨t, by simpa using e⟩
    ·have := f (i + 1) w (by simpa using hw)
     rw [show k + 1 + i = k + (i + 1) from by omega]; exact this
 refine ⟨.ref s.heap.objs.size, _, I.laid (t' := tk) kp (Nat.le_refl _) (show ObjOk X.prog X.w _ h' _ (.lst ((upN n).map V.int)) from ⟨?_, acc.toList, c, ?_, ?_⟩), rfl, q _ (I.hok.fresh (Nat.le_refl _))⟩
 ·rw [List.length_map]; unfold upN; rw [List.length_map, List.length_range]; exact Nat.le_trans hn (by decide)
 ·have := rel n 0 acc.toList hl fun i w hw => by
   obtain ⟨t, e⟩ := hit.2 i w (by rw [← Array.getElem?_toList]; exact hw)
   exact ⟨t, by rw [e]; simp⟩
  rw [← List.range_eq_range'] at this
  exact this
 ·rw [hget]
end
end L2

set_option Elab.async false
set_option linter.all false
set_option maxRecDepth 100000
set_option maxHeartbeats 4000000
namespace Few
open PySem L2
def top (i : Nat) : Stmt := PySem.Challenge.pw_fewthings_k21_cells_in_order.main.body.getD i (.Pass ⟨0, 0, 0, 0⟩)
structure Bl (mg : Str → Option Value) : Prop where
 n_len : mg "len" = none
 n_max : mg "max" = none
 n_abs : mg "abs" = none
 n_divmod : mg "divmod" = none
 n_list : mg "list" = none
 n_tuple : mg "tuple" = none
 n_range : mg "range" = none
 n_int : mg "int" = none
 n_str : mg "str" = none
 n_repr : mg "repr" = none
 n_isinstance : mg "isinstance" = none
 n_all : mg "all" = none
 n_set : mg "set" = none
theorem erase_map {α β : Type} (f : α → β) : ∀ (l : List α) (i : Nat), (l.map f).eraseIdx i = (l.eraseIdx i).map f
 | [], _ => rfl
 | _ :: _, 0 => rfl
 | x :: r, i + 1 => by
  show f x :: (r.map f).eraseIdx i = f x :: (r.eraseIdx i).map f
  rw [erase_map f r i]
theorem perm_erase {α : Type} : ∀ (l : List α) (i : Nat) (h : i < l.length), (l[i] :: l.eraseIdx i).Perm l
 | x :: r, 0, _ => List.Perm.refl _
 | x :: r, i + 1, h => by
  show (r[i]'(by simpa using h) :: x :: r.eraseIdx i).Perm (x :: r)
  exact (List.Perm.swap _ _ _).trans (List.Perm.cons x (perm_erase r i (by simpa using h)))
theorem zba : ((Str.ofString "_law_cell_here" : Str) == ("__debug__" : Str)) = false := by decide +kernel
theorem zbb : ((Str.ofString "_law_cell_here" : Str) == ("__classdict__" : Str)) = false := by decide +kernel
theorem zbc : ((Str.ofString "_law_digit" : Str) == ("__debug__" : Str)) = false := by decide +kernel
theorem zbd : ((Str.ofString "_law_digit" : Str) == ("__classdict__" : Str)) = false := by decide +kernel
theorem zbe : ((Str.ofString "_law_draw" : Str) == ("__debug__" : Str)) = false := by decide +kernel
theorem zbf : ((Str.ofString "_law_k" : Str) == ("__debug__" : Str)) = false := by decide +kernel
theorem zbg : ((Str.ofString "_law_k" : Str) == ("__classdict__" : Str)) = false := by decide +kernel
theorem zbh : ((Str.ofString "_law_left" : Str) == ("__debug__" : Str)) = false := by decide +kernel
theorem zbi : ((Str.ofString "_law_left" : Str) == ("__classdict__" : Str)) = false := by decide +kernel
theorem zbj : ((Str.ofString "_law_many_here" : Str) == ("__debug__" : Str)) = false := by decide +kernel
theorem zbk : ((Str.ofString "_law_many_here" : Str) == ("__classdict__" : Str)) = false := by decide +kernel
theorem zbl : ((Str.ofString "_law_menu" : Str) == ("__debug__" : Str)) = false := by decide +kernel
theorem zbm : ((Str.ofString "_law_menu" : Str) == ("__classdict__" : Str)) = false := by decide +kernel
theorem zbn : ((Str.ofString "_law_pot_here" : Str) == ("__debug__" : Str)) = false := by decide +kernel
theorem zbo : ((Str.ofString "_law_pot_here" : Str) == ("__classdict__" : Str)) = false := by decide +kernel
theorem zbp : ((Str.ofString "_law_script" : Str) == ("__debug__" : Str)) = false := by decide +kernel
theorem zbq : ((Str.ofString "_law_script" : Str) == ("__classdict__" : Str)) = false := by decide +kernel
theorem zbr : ((Str.ofString "abs" : Str) == ("__debug__" : Str)) = false := by decide +kernel
theorem zbs : (Str.ofString "abs" : Str) ≠ "__name__" := by decide +kernel
theorem zbt : ((Str.ofString "divmod" : Str) == ("__debug__" : Str)) = false := by decide +kernel
theorem zbu : (Str.ofString "divmod" : Str) ≠ "__name__" := by decide +kernel
theorem zbv : ((Str.ofString "len" : Str) == ("__debug__" : Str)) = false := by decide +kernel
theorem zbw : (Str.ofString "len" : Str) ≠ "__name__" := by decide +kernel
theorem zbx : ((Str.ofString "list" : Str) == ("__debug__" : Str)) = false := by decide +kernel
theorem zby : (Str.ofString "list" : Str) ≠ "__name__" := by decide +kernel
theorem zbz : ((Str.ofString "max" : Str) == ("__debug__" : Str)) = false := by decide +kernel
theorem zb0 : (Str.ofString "max" : Str) ≠ "__name__" := by decide +kernel
section
variable {P : Program} {w : World} {K : PySem.W.Frag} {mg : Str → Option Value} {base : Heap}
def spCell : Sp := fun vs H Q _ => ∃ (a : Addr) (ns : List Int) (k : Nat), vs = [.ref a, .int k] ∧ SqL K H a (ns.map V.int) ∧ ∀ n, Q (.int n) H
abbrev s_law_cell : Stmt := top 34
theorem zb1 : FnScope ["_law_script", "_law_k"] ["_law_script", "_law_k"] (defScope s_law_cell) := ⟨rfl, rfl, rfl, by decide +kernel, rfl, by decide +kernel, by decide +kernel⟩
theorem zb2 : (defScope s_law_cell).names.lookup (Str.ofString "_law_k") = some NameKind.local := by decide +kernel
theorem zb3 : (defScope s_law_cell).names.lookup (Str.ofString "_law_script") = some NameKind.local := by decide +kernel
theorem zb4 : (defScope s_law_cell).names.lookup (Str.ofString "len") = some NameKind.globalImplicit := by decide +kernel
theorem ok_cell (F : FunAt K mg "_law_cell" s_law_cell ["_law_script", "_law_k"]) (Z : Bl mg) : Def P w K mg base "_law_cell" 1 ["_law_script", "_law_k"] (spCell (K := K)) := by
 have SC := zb1
 refine F.mk' (k := 0) zb1 (fun vs H Q E h => ?_) (fun f cdv A outer s H vs Q E hr h => ?_)
 ·obtain ⟨a, ns, k, rfl, _⟩ := h
  rfl
 ·obtain ⟨a, ns, k, rfl, hS, q⟩ := h
  refine' ⟨_, ?derivation, ?_⟩
  case derivation =>
   refine' pss_cons ?ka ?kb
   case ka =>
    refine' ps_if ?kc ?kd pss_nil
    case kc =>
     refine' pt_cmpR ?ke ?kf ?kg ?kh
     case ke => exact op_lt
     case kf => exact (pq 1 (visL zb2) zbf zbg)
     case kg =>
      refine' pe_callB (hn := zbw) (hdb := zbv) ?ki ?kj ?kk ?kl ?km ?kn ?ko
      case ki => exact call_len_seq
      case kj => exact zb4
      case kk => exact Z.n_len
      case kl => exact bt_len
      case km =>
       refine' pa_cons ?kp pa_nil ?kq
       case kp => exact (pq 0 (visL zb3) zbp zbq)
       case kq => rfl
      case kn => rfl
      case ko => rfl
     case kh => exact (nomark _)
    case kd =>
     refine' pss_one ?kr
     case kr =>
      refine' ps_ret ?ks
      case ks =>
       refine' pe_ix ?kt ?ku ?kv ?kw
       case kt => exact ix_list
       case ku => exact (pq 0 (visL zb3) zbp zbq)
       case kv => exact (pq 1 (visL zb2) zbf zbg)
       case kw =>
        intro _ _
        exact rfl
   case kb =>
    refine' pss_one ?kx
    case kx =>
     refine' ps_ret ?ky
     case ky => exact pe_int
  refine ⟨_, rfl, _, rfl, a, _, rfl, .inl hS, _, _, rfl, rfl, _, rfl, ?_⟩
  refine ite2 (fun hc => ?_) (fun hc => q 0)
  have hc : (k : Int) < ((ns.map V.int).length : Int) := of_decide_eq_true hc
  rw [List.length_map] at hc
  have hk : k < ns.length := by omega
  refine ⟨_, rfl, _, rfl, a, _, _, _, rfl, rfl, hS, atI_nat (v := V.int ns[k]) (by simp [hk]), q _⟩
def PotAt (H : Hp) (p : Addr) : Prop := ∃ a b c : Int, H p = some (.lst [.int a, .int b, .int c]) ∧ 0 ≤ a ∧ 0 ≤ b ∧ b < 4294967296
def spPot : Sp := fun vs H Q _ => ∃ n : Int, vs = [.int n] ∧ ∀ p H', H p = none → PotAt H' p → Same H H' → Q (.ref p) H'
abbrev s_law_pot : Stmt := top 35
theorem zb5 : FnScope ["_law_cell_here"] ["_law_cell_here"] (defScope s_law_pot) := ⟨rfl, rfl, rfl, by decide +kernel, rfl, by decide +kernel, by decide +kernel⟩
theorem zb6 : (defScope s_law_pot).names.lookup (Str.ofString "_law_cell_here") = some NameKind.local := by decide +kernel
theorem zb7 : (defScope s_law_pot).names.lookup (Str.ofString "abs") = some NameKind.globalImplicit := by decide +kernel
theorem zb8 : (defScope s_law_pot).names.lookup (Str.ofString "max") = some NameKind.globalImplicit := by decide +kernel
theorem ok_pot (F : FunAt K mg "_law_pot" s_law_pot ["_law_cell_here"]) (Z : Bl mg) : Def P w K mg base "_law_pot" 1 ["_law_cell_here"] spPot := by
 have SC := zb5
 refine F.mk' (k := 0) zb5 (fun vs H Q E h => ?_) (fun f cdv A outer s H vs Q E hr h => ?_)
 ·obtain ⟨n, rfl, _⟩ := h
  rfl
 ·obtain ⟨n, rfl, q⟩ := h
  refine' ⟨_, ?derivation, ?_⟩
  case derivation =>
   refine' pss_one ?ka
   case ka =>
    refine' ps_ret ?kb
    case kb =>
     refine' pe_lst ?kc
     case kc =>
      refine' pa_cons ?kd ?ke ?kf
      case kd =>
       refine' pe_callB (hn := zb0) (hdb := zbz) ?kg ?kh ?ki ?kj ?kk ?kl ?km
       case kg => exact (call_max2 rfl)
       case kh => exact zb8
       case ki => exact Z.n_max
       case kj => exact bt_max
       case kk =>
        refine' pa_cons ?kn ?ko ?kp
        case kn => exact pe_int
        case ko =>
         refine' pa_cons ?kq pa_nil ?kr
         case kq =>
          refine' pe_op ?ks ?kt ?ku
          case ks => exact op_sub
          case kt =>
           refine' pe_callB (hn := zbs) (hdb := zbr) ?kv ?kw ?kx ?ky ?kz ?kba ?kbb
           case kv => exact call_abs
           case kw => exact zb7
           case kx => exact Z.n_abs
           case ky => exact bt_abs
           case kz =>
            refine' pa_cons ?kbc pa_nil ?kbd
            case kbc => exact (pq 0 (visL zb6) zba zbb)
            case kbd => rfl
           case kba => rfl
           case kbb => rfl
          case ku =>
           refine' pe_op ?kbe ?kbf ?kbg
           case kbe => exact op_pow
           case kbf => exact pe_int
           case kbg => exact pe_int
         case kr => rfl
        case kp => rfl
       case kl => rfl
       case km => rfl
      case ke =>
       refine' pa_cons ?kbh ?kbi ?kbj
       case kbh =>
        refine' pe_op ?kbk ?kbl ?kbm
        case kbk => exact op_add
        case kbl =>
         refine' pe_op ?kbn ?kbo ?kbp
         case kbn => exact op_mod
         case kbo =>
          refine' pe_callB (hn := zbs) (hdb := zbr) ?kbq ?kbr ?kbs ?kbt ?kbu ?kbv ?kbw
          case kbq => exact call_abs
          case kbr => exact zb7
          case kbs => exact Z.n_abs
          case kbt => exact bt_abs
          case kbu =>
           refine' pa_cons ?kbx pa_nil ?kby
           case kbx => exact (pq 0 (visL zb6) zba zbb)
           case kby => rfl
          case kbv => rfl
          case kbw => rfl
         case kbp => exact pe_int
        case kbm => exact pe_int
       case kbi =>
        refine' pa_cons ?kbz pa_nil ?kca
        case kbz => exact pe_int
        case kca => rfl
       case kbj => rfl
      case kf => rfl
  refine ⟨_, rfl, _, rfl, _, _, rfl, rfl, ⟨by decide, by decide, by decide⟩, _, _, rfl, rfl, _, _, rfl, ?_⟩
  refine ⟨_, rfl, _, rfl, _, _, rfl, rfl, (by show (0 : Int) < 2147483629; decide), _, _, rfl, rfl, (by show 3 ≤ sizeLine; decide), fun p hp => ?_⟩
  refine q p _ hp ⟨_, _, _, upd_same, ?_, ?_, ?_⟩ (same_new hp _)
  ·split <;> omega
  ·have := Int.emod_nonneg (if n < 0 then -n else n) (b := 2147483629) (by decide)
   omega
  ·have := Int.emod_lt_of_pos (if n < 0 then -n else n) (b := 2147483629) (by decide)
   omega
def spDraw : Sp := fun vs H Q _ => ∃ (p : Addr) (m : Int), vs = [.ref p, .int m] ∧ PotAt H p ∧ 0 < m ∧ m < 1000 ∧ ∀ (r : Int) H', 0 ≤ r → r < m → PotAt H' p → SameX p H H' → Q (.int r) H'
abbrev s_law_draw : Stmt := top 36
theorem zb9 : FnScope ["_law_pot_here", "_law_many_here", "_law_digit"] ["_law_pot_here", "_law_many_here"] (defScope s_law_draw) := ⟨rfl, rfl, rfl, by decide +kernel, rfl, by decide +kernel, by decide +kernel⟩
theorem zca : (defScope s_law_draw).names.lookup (Str.ofString "_law_digit") = some NameKind.local := by decide +kernel
theorem zcb : (defScope s_law_draw).names.lookup (Str.ofString "_law_many_here") = some NameKind.local := by decide +kernel
theorem zcc : (defScope s_law_draw).names.lookup (Str.ofString "_law_pot_here") = some NameKind.local := by decide +kernel
theorem zcd : (defScope s_law_draw).names.lookup (Str.ofString "divmod") = some NameKind.globalImplicit := by decide +kernel
theorem ok_draw (F : FunAt K mg "_law_draw" s_law_draw ["_law_pot_here", "_law_many_here"]) (Z : Bl mg) : Def P w K mg base "_law_draw" 1 ["_law_pot_here", "_law_many_here"] spDraw := by
 have SC := zb9
 refine F.mk' (k := 0) zb9 (fun vs H Q E h => ?_) (fun f cdv A outer s H vs Q E hr h => ?_)
 ·obtain ⟨p, m, rfl, _⟩ := h
  rfl
 ·obtain ⟨p, m, rfl, ⟨a, b, c, hp, ha, hb, hb2⟩, hm, hm2, q⟩ := h
  refine' ⟨_, ?derivation, ?_⟩
  case derivation =>
   refine' pss_cons ?ka ?kb
   case ka =>
    refine' ps_if ?kc ?kd pss_nil
    case kc =>
     refine' pt_cmpR ?ke ?kf ?kg ?kh
     case ke => exact op_gt
     case kf =>
      refine' pe_ix ?ki ?kj ?kk ?kl
      case ki => exact ix_list
      case kj => exact (pq 0 (visL zcc) zbn zbo)
      case kk => exact pe_int
      case kl =>
       intro _ _
       exact rfl
     case kg => exact pe_int
     case kh => exact (nomark _)
    case kd =>
     refine' pss_cons ?km ?kn
     case km =>
      refine' ps_asg ?ko ?kp ?kq ?kr ?ks
      case ko =>
       refine' pe_callB (hn := zbu) (hdb := zbt) ?kt ?ku ?kv ?kw ?kx ?ky ?kz
       case kt => exact call_divmod
       case ku => exact zcd
       case kv => exact Z.n_divmod
       case kw => exact bt_divmod
       case kx =>
        refine' pa_cons ?kba ?kbb ?kbc
        case kba =>
         refine' pe_ix ?kbd ?kbe ?kbf ?kbg
         case kbd => exact ix_list
         case kbe => exact (pq 0 (visL zcc) zbn zbo)
         case kbf => exact pe_int
         case kbg =>
          intro _ _
          exact rfl
        case kbb =>
         refine' pa_cons ?kbh pa_nil ?kbi
         case kbh => exact (pq 1 (visL zcb) zbj zbk)
         case kbi => rfl
        case kbc => rfl
       case ky => rfl
       case kz => rfl
      case kp =>
       refine' pg_tup ?kbj ?kbk ?kbl ?kbm
       case kbj => exact rfl
       case kbk =>
        refine' pgs_cons ?kbn ?kbo ?kbp
        case kbn =>
         refine' pg_sub ?kbq ?kbr ?kbs ?kbt
         case kbq => exact (pq 0 (visL zcc) zbn zbo)
         case kbr => exact pe_int
         case kbs => exact set_list
         case kbt => intro _; rfl
        case kbo =>
         refine' pgs_cons ?kbu pgs_nil ?kbv
         case kbu =>
          refine' pg_name (i := 2) (x := Str.ofString "_law_digit") ?kbw ?kbx ?kby ?kbz
          case kbw => exact SC.nd
          case kbx => exact rfl
          case kby => exact (Or.inl zca)
          case kbz => exact (.inl rfl)
         case kbv => rfl
        case kbp => rfl
       case kbl => rfl
       case kbm => rfl
      case kq => rfl
      case kr => rfl
      case ks => rfl
     case kn =>
      refine' pss_one ?kca
      case kca =>
       refine' ps_ret ?kcb
       case kcb => exact (pq 2 (visL zca) zbc zbd)
   case kb =>
    refine' pss_cons ?kcc ?kcd
    case kcc =>
     refine' ps_asg ?kce ?kcf ?kcg ?kch ?kci
     case kce =>
      refine' pe_op ?kcj ?kck ?kcl
      case kcj => exact op_mod
      case kck =>
       refine' pe_op ?kcm ?kcn ?kco
       case kcm => exact op_add
       case kcn =>
        refine' pe_op ?kcp ?kcq ?kcr
        case kcp => exact op_mul
        case kcq =>
         refine' pe_ix ?kcs ?kct ?kcu ?kcv
         case kcs => exact ix_list
         case kct => exact (pq 0 (visL zcc) zbn zbo)
         case kcu => exact pe_int
         case kcv =>
          intro _ _
          exact rfl
        case kcr => exact pe_int
       case kco => exact pe_int
      case kcl => exact pe_int
     case kcf =>
      refine' pg_sub ?kcw ?kcx ?kcy ?kcz
      case kcw => exact (pq 0 (visL zcc) zbn zbo)
      case kcx => exact pe_int
      case kcy => exact set_list
      case kcz => intro _; rfl
     case kcg => rfl
     case kch => rfl
     case kci => rfl
    case kcd =>
     refine' pss_one ?kda
     case kda =>
      refine' ps_ret ?kdb
      case kdb =>
       refine' pe_op ?kdc ?kdd ?kde
       case kdc => exact op_mod
       case kdd =>
        refine' pe_op ?kdf ?kdg ?kdh
        case kdf => exact op_fdiv
        case kdg =>
         refine' pe_op ?kdi ?kdj ?kdk
         case kdi => exact op_mod
         case kdj =>
          refine' pe_op ?kdl ?kdm ?kdn
          case kdl => exact op_mul
          case kdm =>
           refine' pe_ix ?kdo ?kdp ?kdq ?kdr
           case kdo => exact ix_list
           case kdp => exact (pq 0 (visL zcc) zbn zbo)
           case kdq => exact pe_int
           case kdr =>
            intro _ _
            exact rfl
          case kdn =>
           refine' pe_ix ?kds ?kdt ?kdu ?kdv
           case kds => exact ix_list
           case kdt => exact (pq 0 (visL zcc) zbn zbo)
           case kdu => exact pe_int
           case kdv =>
            intro _ _
            exact rfl
         case kdk => exact pe_int
        case kdh => exact pe_int
       case kde => exact (pq 1 (visL zcb) zbj zbk)
  refine ⟨_, rfl, p, _, _, _, rfl, rfl, SqL.of hp, rfl, _, _, rfl, rfl, _, rfl, ?_⟩
  refine ite2 (fun hc => ?_) (fun hc => ?_)
  ·refine ⟨_, rfl, p, _, _, _, rfl, rfl, SqL.of hp, rfl, _, rfl, _, _, rfl, ⟨hm, by omega⟩, fun t ht => ?_⟩
   have npt : p ≠ t := ne_of_none hp ht
   refine ⟨t, _, rfl, SqT.of upd_same, rfl, _, _, rfl, _, rfl, p, _, _, _, rfl, rfl, (by rw [upd_ne npt]; exact hp), rfl, _, _, rfl, ⟨rfl, _, rfl, ?_⟩⟩
   refine q _ _ (Int.emod_nonneg _ (by omega)) (Int.emod_lt_of_pos _ hm) ⟨_, _, _, upd_same, Int.ediv_nonneg ha (by omega), hb, hb2⟩ (fun b o n e => ?_)
   rw [upd_ne n, upd_ne (ne_of_none e ht)]; exact e
  ·refine ⟨_, rfl, p, _, _, _, rfl, rfl, SqL.of hp, rfl, _, _, rfl, rfl, .inr ⟨by decide, by decide⟩, _, _, rfl, rfl, _, _, rfl, rfl, (by show (0 : Int) < 2147483647; decide), ?_⟩
   have g0 : 0 ≤ (b * 48271 + 11) % 2147483647 := Int.emod_nonneg _ (by decide)
   have g1 : (b * 48271 + 11) % 2147483647 < 2147483647 := Int.emod_lt_of_pos _ (by decide)
   refine ⟨_, rfl, p, _, _, _, rfl, rfl, hp, rfl, ?_⟩
   refine ⟨_, rfl, p, _, _, _, rfl, rfl, SqL.of upd_same, rfl, _, rfl, p, _, _, _, rfl, rfl, SqL.of upd_same, rfl, _, _, rfl, rfl, .inl ⟨by omega, by omega⟩, _, _, rfl, rfl, (by show (0 : Int) < 2147483629; decide), _, _, rfl, rfl, ⟨by decide, by decide⟩, _, rfl, _, _, rfl, rfl, hm, ?_⟩
   refine q _ _ (Int.emod_nonneg _ (by omega)) (Int.emod_lt_of_pos _ hm) ⟨_, _, _, upd_same, ha, g0, by omega⟩ (fun b o n e => ?_)
   rw [upd_ne n]; exact e
structure Went (p : Addr) (H H' : Hp) : Prop where
 pot : PotAt H' p
 same : SameX p H H'
theorem PotAt.keep {H H' : Hp} {p : Addr} (h : PotAt H p) (s : Same H H') : PotAt H' p := let ⟨a, b, c, e, r⟩ := h; ⟨a, b, c, s _ _ e, r⟩
theorem PotAt.some {H : Hp} {p : Addr} (h : PotAt H p) : ∃ o, H p = some o := let ⟨_, _, _, e, _⟩ := h; ⟨_, e⟩
def spUnlike : Sp := fun vs H Q _ => ∃ (p a : Addr) (m : Nat) (xs : List Str), vs = [.ref p, .int m, .ref a] ∧ PotAt H p ∧ SqL K H a (xs.map V.str) ∧ m ≤ xs.length ∧ xs.length < 100 ∧ xs.Nodup ∧
 ∀ l (ys : List Str) H', H l = none → H' l = some (.lst (ys.map V.str)) → ys.length = m → ys.Nodup → (∀ y ∈ ys, y ∈ xs) → Went p H H' → Q (.ref l) H'
abbrev s_law_unlike : Stmt := top 37
theorem zce : FnScope ["_law_pot_here", "_law_many_here", "_law_menu", "_law_left"] ["_law_pot_here", "_law_many_here", "_law_menu"] (defScope s_law_unlike) := ⟨rfl, rfl, rfl, by decide +kernel, rfl, by decide +kernel, by decide +kernel⟩
theorem zcf : (defScope s_law_unlike).names.lookup (Str.ofString "_law_left") = some NameKind.cell := by decide +kernel
theorem zcg : (defScope s_law_unlike).names.lookup (Str.ofString "_law_many_here") = some NameKind.local := by decide +kernel
theorem zch : (defScope s_law_unlike).names.lookup (Str.ofString "_law_menu") = some NameKind.local := by decide +kernel
theorem zci : (defScope s_law_unlike).names.lookup (Str.ofString "list") = some NameKind.globalImplicit := by decide +kernel
theorem zcj : (defScope s_law_unlike).names.lookup (Str.ofString "range") = some NameKind.globalImplicit := by decide +kernel
theorem zck : CompSc 1 ["_law_k", "_law_pot_here", "_law_many_here", "_law_menu", "_law_left"] ["_law_pot_here", "_law_many_here", "_law_menu", "_law_left"] (defScope s_law_unlike) { kind := PySem.ScopeKind.function, names := [ (PySem.Str.ofString ".0", PySem.NameKind.local), (PySem.Str.ofString "_law_k", PySem.NameKind.local), (PySem.Str.ofString "_law_draw", PySem.NameKind.globalImplicit), (PySem.Str.ofString "len", PySem.NameKind.globalImplicit), (PySem.Str.ofString "_law_left", PySem.NameKind.free), (PySem.Str.ofString "_law_pot_here", PySem.NameKind.free)], isGenerator := false, isCoroutine := false, more := [] : PySem.Scope } := ⟨rfl, by decide +kernel, by decide +kernel, by decide +kernel, by decide +kernel, rfl, by decide +kernel⟩
theorem zcl : ({ kind := PySem.ScopeKind.function, names := [ (PySem.Str.ofString ".0", PySem.NameKind.local), (PySem.Str.ofString "_law_k", PySem.NameKind.local), (PySem.Str.ofString "_law_draw", PySem.NameKind.globalImplicit), (PySem.Str.ofString "len", PySem.NameKind.globalImplicit), (PySem.Str.ofString "_law_left", PySem.NameKind.free), (PySem.Str.ofString "_law_pot_here", PySem.NameKind.free)], isGenerator := false, isCoroutine := false, more := [] : PySem.Scope } : Scope).names.lookup (Str.ofString "_law_draw") = some NameKind.globalImplicit := by decide +kernel
theorem zcm : ({ kind := PySem.ScopeKind.function, names := [ (PySem.Str.ofString ".0", PySem.NameKind.local), (PySem.Str.ofString "_law_k", PySem.NameKind.local), (PySem.Str.ofString "_law_draw", PySem.NameKind.globalImplicit), (PySem.Str.ofString "len", PySem.NameKind.globalImplicit), (PySem.Str.ofString "_law_left", PySem.NameKind.free), (PySem.Str.ofString "_law_pot_here", PySem.NameKind.free)], isGenerator := false, isCoroutine := false, more := [] : PySem.Scope } : Scope).names.lookup (Str.ofString "_law_k") = some NameKind.local := by decide +kernel
theorem zcn : ({ kind := PySem.ScopeKind.function, names := [ (PySem.Str.ofString ".0", PySem.NameKind.local), (PySem.Str.ofString "_law_k", PySem.NameKind.local), (PySem.Str.ofString "_law_draw", PySem.NameKind.globalImplicit), (PySem.Str.ofString "len", PySem.NameKind.globalImplicit), (PySem.Str.ofString "_law_left", PySem.NameKind.free), (PySem.Str.ofString "_law_pot_here", PySem.NameKind.free)], isGenerator := false, isCoroutine := false, more := [] : PySem.Scope } : Scope).names.lookup (Str.ofString "_law_left") = some NameKind.free := by decide +kernel
theorem zco : ({ kind := PySem.ScopeKind.function, names := [ (PySem.Str.ofString ".0", PySem.NameKind.local), (PySem.Str.ofString "_law_k", PySem.NameKind.local), (PySem.Str.ofString "_law_draw", PySem.NameKind.globalImplicit), (PySem.Str.ofString "len", PySem.NameKind.globalImplicit), (PySem.Str.ofString "_law_left", PySem.NameKind.free), (PySem.Str.ofString "_law_pot_here", PySem.NameKind.free)], isGenerator := false, isCoroutine := false, more := [] : PySem.Scope } : Scope).names.lookup (Str.ofString "_law_pot_here") = some NameKind.free := by decide +kernel
theorem zcp : ({ kind := PySem.ScopeKind.function, names := [ (PySem.Str.ofString ".0", PySem.NameKind.local), (PySem.Str.ofString "_law_k", PySem.NameKind.local), (PySem.Str.ofString "_law_draw", PySem.NameKind.globalImplicit), (PySem.Str.ofString "len", PySem.NameKind.globalImplicit), (PySem.Str.ofString "_law_left", PySem.NameKind.free), (PySem.Str.ofString "_law_pot_here", PySem.NameKind.free)], isGenerator := false, isCoroutine := false, more := [] : PySem.Scope } : Scope).names.lookup (Str.ofString "len") = some NameKind.globalImplicit := by decide +kernel
theorem ok_unlike (F : FunAt K mg "_law_unlike" s_law_unlike ["_law_pot_here", "_law_many_here", "_law_menu"]) (Z : Bl mg) (D_law_draw : Def P w K mg base "_law_draw" 1 ["_law_pot_here", "_law_many_here"] spDraw) : Def P w K mg base "_law_unlike" 2 ["_law_pot_here", "_law_many_here", "_law_menu"] (spUnlike (K := K)) := by
 have SC := zce
 refine F.mk' (k := 1) zce (fun vs H Q E h => ?_) (fun f cdv A outer s H vs Q E hr h => ?_)
 ·obtain ⟨p, a, m, xs, rfl, _⟩ := h
  rfl
 ·obtain ⟨p, a, m, xs, rfl, hp, ha, hm, hx, hn, q⟩ := h
  refine' ⟨_, ?derivation, ?_⟩
  case derivation =>
   refine' pss_cons ?ka ?kb
   case ka =>
    refine' ps_set (i := 3) (x := Str.ofString "_law_left") ?kc ?kd ?ke ?kf ?kg ?kh
    case kc => exact SC.nd
    case kd => exact rfl
    case ke => exact (Or.inr zcf)
    case kf =>
     refine' pe_callTy (hn := zby) (hdb := zbx) ?ki ?kj ?kk ?kl ?km ?kn ?ko
     case ki => exact call_list_of
     case kj => exact zci
     case kk => exact Z.n_list
     case kl => exact bt_list
     case km =>
      refine' pa_cons ?kp pa_nil ?kq
      case kp => exact (pq 2 (visL zch) zbl zbm)
      case kq => rfl
     case kn => rfl
     case ko => rfl
    case kg => rfl
    case kh => exact .inl rfl
   case kb =>
    refine' pss_one ?kr
    case kr =>
     refine' ps_ret ?ks
     case ks =>
      refine' pe_comp ?kt ?ku ?kv ?kw ?kx ?ky ?kz
      case kt => exact noxe
      case ku => exact rfl
      case kv => exact zck.at
      case kw =>
       refine' pi_range1 ?kba ?kbb ?kbc ?kbd
       case kba => exact zcj
       case kbb => exact Z.n_range
       case kbc =>
        refine' pa_cons ?kbe pa_nil ?kbf
        case kbe => exact (pq 1 (visL zcg) zbj zbk)
        case kbf => rfl
       case kbd => rfl
      case kx =>
       intro _ _ _ _ _
       refine' pg_name (i := 0) ?kbg ?kbh ?kbi ?kbj
       case kbg => exact zck.nd
       case kbh => exact rfl
       case kbi => exact (locO zcm)
       case kbj => exact (.inr (lookup_relabel_local zcm))
      case ky =>
       intro _ _ _ _ _
       refine' pe_bm ?kbk ?kbl ?kbm ?kbn ?kbo ?kbp ?kbq ?kbr ?kbs ?kbt ?kbu
       case kbk => exact PySem.F.plainAttrs_list
       case kbl => exact PySem.F.slot_list_pop
       case kbm => exact PySem.F.type_list_pop
       case kbn => exact mt_popAt
       case kbo => exact (pq 4 (visF zcn) zbh zbi)
       case kbp =>
        refine' pa_cons ?kbv pa_nil ?kbw
        case kbv =>
         refine' pe_def (hdb := zbe) ?kbx ?kby ?kbz ?kca ?kcb ?kcc
         case kbx => exact D_law_draw
         case kby => exact (hr.mono (by decide))
         case kbz => exact (glO zcl)
         case kca =>
          refine' pa_cons ?kcd ?kce ?kcf
          case kcd => exact (pq 1 (visF zco) zbn zbo)
          case kce =>
           refine' pa_cons ?kcg pa_nil ?kch
           case kcg =>
            refine' pe_callB (hn := zbw) (hdb := zbv) ?kci ?kcj ?kck ?kcl ?kcm ?kcn ?kco
            case kci => exact call_len_seq
            case kcj => exact (glO zcp)
            case kck => exact Z.n_len
            case kcl => exact bt_len
            case kcm =>
             refine' pa_cons ?kcp pa_nil ?kcq
             case kcp => exact (pq 4 (visF zcn) zbh zbi)
             case kcq => rfl
            case kcn => rfl
            case kco => rfl
           case kch => rfl
          case kcf => rfl
         case kcb => rfl
         case kcc => rfl
        case kbw => rfl
       case kbq => rfl
       case kbr => rfl
       case kbs => rfl
       case kbt => rfl
       case kbu => rfl
      case kz => intro _; rfl
  refine ⟨_, rfl, a, _, rfl, .inl ha, fun L hL => ?_⟩
  refine ⟨_, rfl, m, rfl, by omega, by omega, ?_⟩
  intro cl C ex s0 H0
  have hpL : p ≠ L := by obtain ⟨o, e⟩ := hp.some; exact ne_of_none e hL
  refine comp_it1 m (fun i ys H1 => ∃ zs ws : List Str, H1 L = some (.lst (zs.map V.str)) ∧ zs.length + i = xs.length ∧ ys = ws.map V.str ∧ (ws ++ zs).Nodup ∧ (∀ y ∈ ws ++ zs, y ∈ xs) ∧ Went p H H1) (fun _ _ => True)
   ⟨xs, [], upd_same, rfl, rfl, hn, fun y hy => hy, hp.keep (same_new hL _), (same_new hL _).x⟩ (Nat.le_trans (Nat.le_trans hm (by omega)) (show 100 ≤ sizeLine by decide)) (fun i ys H1 hi _ _ => ⟨hi, fun x H' y => ⟨y.1, trivial⟩⟩) (fun _ _ _ _ => Nat.le_refl _) ?_ ?_
  ·rintro i x ys H1 hi _ hy ⟨zs, ws, hzL, hzl, rfl, hnd, hsub, W⟩
   refine ⟨_, rfl, .inl ⟨rfl, _, SqL.of hzL⟩, _, rfl, _, rfl, L, _, rfl, .inl (SqL.of hzL), p, _, rfl, W.pot, ?_, ?_, fun r H2 h0 h1 hp2 s2 => ?_⟩
   ·rw [List.length_map]; omega
   ·rw [List.length_map]; omega
   ·rw [List.length_map] at h1
    have hr' : r.toNat < zs.length := by omega
    have hzL2 : H2 L = some (.lst (zs.map V.str)) := s2 L _ (Ne.symm hpL) hzL
    refine ⟨L, _, r, r.toNat, V.str zs[r.toNat], rfl, rfl, hzL2, by omega, by omega, seqIx h0 (by rw [List.length_map]; omega), by simp [hr'], ?_⟩
    refine ⟨zs.eraseIdx r.toNat, ws ++ [zs[r.toNat]], ?_, ?_, by simp, ?_, ?_, ?_, ?_⟩
    ·rw [upd_same, erase_map]
    ·rw [List.length_eraseIdx_of_lt hr']; omega
    ·have pm : (zs[r.toNat] :: zs.eraseIdx r.toNat).Perm zs := perm_erase zs _ hr'
     have pm2 : (ws ++ [zs[r.toNat]] ++ zs.eraseIdx r.toNat).Perm (ws ++ zs) := by
      rw [List.append_assoc]
      exact List.Perm.append_left ws pm
     exact (List.Perm.nodup_iff pm2).mpr hnd
    ·intro y hy
     refine hsub y ?_
     have pm : (zs[r.toNat] :: zs.eraseIdx r.toNat).Perm zs := perm_erase zs _ hr'
     have pm2 : (ws ++ [zs[r.toNat]] ++ zs.eraseIdx r.toNat).Perm (ws ++ zs) := by
      rw [List.append_assoc]
      exact List.Perm.append_left ws pm
     exact (List.Perm.mem_iff pm2).mp hy
    ·obtain ⟨a', b', c', e, r'⟩ := hp2
     exact ⟨a', b', c', by rw [upd_ne hpL]; exact e, r'⟩
    ·intro b o n e
     rw [upd_ne (ne_of_none e hL)]
     exact s2 b o n (W.same b o n e)
  ·rintro ys H1 hy ⟨zs, ws, hzL, hzl, rfl, hnd, hsub, W⟩ D hD
   have hpD : p ≠ D := by obtain ⟨o, e⟩ := W.pot.some; exact ne_of_none e hD
   refine q D ws _ (W.same.free (Ne.symm hpD) hD) upd_same (by simpa using hy) (List.nodup_append.mp hnd).1 (fun y hy => hsub y (List.mem_append_left _ hy)) ⟨W.pot.keep (same_new hD _), W.same.same (same_new hD _)⟩
end
end Few

set_option Elab.async false
set_option linter.all false
set_option maxRecDepth 100000
set_option maxHeartbeats 1000000
namespace Few
open PySem L2
def isNm (z : Str) : Prop := 1 ≤ z.cps.toList.length ∧ z.cps.toList.length ≤ 12 ∧ ∀ c ∈ z.cps.toList, 97 ≤ c ∧ c ≤ 122
def sayWords : List Str := ["all", "some", "not", "and", "or"]
def isSg (z : Str) : Prop := isNm z ∧ ¬ z ∈ sayWords
theorem str_len (z : Str) : z.length = z.cps.toList.length := by show z.cps.size = _; simp
def abc : Str := Str.ofString "abcdefghijklmnopqrstuvwxyz"
theorem inV_strs (z : Str) : ∀ ws : List Str, inV (V.str z) (ws.map V.str) = decide (z ∈ ws)
 | [] => rfl
 | x :: r => by
  have ih := inV_strs z r
  have e : inV (V.str z) ((x :: r).map V.str) = (eqV (V.str x) (V.str z) || inV (V.str z) (r.map V.str)) := rfl
  rw [e, ih]
  have e2 : eqV (V.str x) (V.str z) = decide (x = z) := by
   first
    | rfl
    | (unfold eqV; rw [Bool.beq_eq_decide_eq])
    | (unfold eqV; simp)
  rw [e2]
  by_cases h : x = z
  ·subst h; simp
  ·have h' : ¬ z = x := fun e => h e.symm
   simp [h, h']
section
variable {P : Program} {w : World} {K : PySem.W.Frag} {mg : Str → Option Value} {base : Heap}
theorem Went.trans {p : Addr} {H H1 H2 : Hp} (a : Went p H H1) (b : Went p H1 H2) : Went p H H2 := ⟨b.pot, a.same.trans b.same⟩
theorem Went.mk1 {p : Addr} {H H1 H2 : Hp} (a : Went p H H1) (pt : PotAt H2 p) (s : SameX p H1 H2) : Went p H H2 := ⟨pt, a.same.trans s⟩
theorem Went.new {p : Addr} {H H1 : Hp} {l : Addr} (a : Went p H H1) (h : H1 l = none) (o : HO) : Went p H (upd H1 l o) := ⟨a.pot.keep (same_new h o), a.same.same (same_new h o)⟩
theorem Went.put {p : Addr} {H H1 : Hp} {l : Addr} (a : Went p H H1) (n : p ≠ l) (h : H l = none) (o : HO) : Went p H (upd H1 l o) :=
 ⟨let ⟨x, y, z, e, r⟩ := a.pot; ⟨x, y, z, by rw [upd_ne n]; exact e, r⟩, fun b u nb e => by rw [upd_ne (ne_of_none e h)]; exact a.same b u nb e⟩
theorem Went.ne {p l : Addr} {H H1 : Hp} (a : Went p H H1) (h : H1 l = none) : p ≠ l := by obtain ⟨o, e⟩ := a.pot.some; exact ne_of_none e h
theorem Went.free {p l : Addr} {H H1 : Hp} (a : Went p H H1) (h : H1 l = none) : H l = none := a.same.free (Ne.symm (a.ne h)) h
theorem Went.refl {p : Addr} {H : Hp} (h : PotAt H p) : Went p H H := ⟨h, SameX.refl _ _⟩
theorem Went.at {p l : Addr} {H H1 : Hp} {o : HO} (a : Went p H H1) (n : l ≠ p) (h : H l = some o) : H1 l = some o := a.same l o n h
end
def LT (H : Hp) (a : Addr) (xs : List V) : Prop := H a = some (.lst xs) ∨ H a = some (.tup xs)
theorem LT.mono {H H' : Hp} {a : Addr} {xs : List V} (h : LT H a xs) (k : ∀ o, H a = some o → H' a = some o) : LT H' a xs := h.elim (fun e => .inl (k _ e)) fun e => .inr (k _ e)
end Few
namespace L2
open PySem PySem.Spec PyProof.Rows
section
variable {X : Cx} {tg : Expr}
theorem PI.or {l : Expr} {wi wi' : TI} (h : PI X tg l wi) (h' : PI X tg l wi') : PI X tg l (fun σ H R => wi σ H R ∨ wi' σ H R) := by
 intro pins s σ H R I q
 rcases q with q | q
 ·exact h pins s σ H R I q
 ·exact h' pins s σ H R I q
def iSeq (K : PySem.W.Frag) (tl : TE) : TI := fun σ H R => iList K tl σ H R ∨ iTup K tl σ H R
theorem pi_seq {l : Expr} {tl : TE} (hl : PE X l tl) : PI X tg l (iSeq X.K tl) := (pi_list hl).or (pi_tup hl)
theorem kit_list2 (K : PySem.W.Frag) : PySem.W.kitAny K (.type "list") [.type "list", .type "tuple"] = some true := rfl
theorem kit_tuple2 (K : PySem.W.Frag) : PySem.W.kitAny K (.type "tuple") [.type "list", .type "tuple"] = some true := rfl
theorem kit_str1 (K : PySem.W.Frag) : PySem.W.kitOne K (.type "str") (.type "str") = some true := rfl
end
end L2
namespace Few
open PySem L2
theorem LT.sq {K : PySem.W.Frag} {H : Hp} {a : Addr} {xs : List V} (h : LT H a xs) : SqL K H a xs ∨ SqT K H a xs := h.elim (fun e => .inl (SqL.of e)) fun e => .inr (SqT.of e)
theorem LT.isi2 {K : PySem.W.Frag} {H : Hp} {p : Addr} {xs : List V} (h : LT H p xs) : ∃ (t : Value), TyOf K H (.ref p) t ∧ PySem.W.kitAny K t [.type "list", .type "tuple"] = Option.some true := by
 rcases h with h | h
 ·exact ⟨_, .lst h, kit_list2 K⟩
 ·exact ⟨_, .tup h, kit_tuple2 K⟩
structure Over (H : Hp) (a : Addr) (xs : List V) (J : It) : Prop where
 go : ∀ i H', (∀ o, H a = Option.some o → H' a = Option.some o) → i < xs.length → J.go i H' ∧ ∀ x H'', J.yld i H' x H'' → H'' = H' ∧ xs[i]? = Option.some x
 stop : ∀ H', (∀ o, H a = Option.some o → H' a = Option.some o) → J.stop xs.length H'
theorem LT.over {K : PySem.W.Frag} {H : Hp} {a : Addr} {xs : List V} {i : Nat} {σ : St} {R : It → Hp → Prop} (h : LT H a xs) (hv : σ[i]? = Option.some (Option.some (.ref a))) (k : ∀ J, Over H a xs J → R J H) : iSeq K (tVar i) σ H R := by
 rcases h with h | h
 ·exact .inl ⟨_, hv, a, rfl, ⟨_, SqL.of h⟩, k _ ⟨fun i H' kp hi => go_list (SqL.of (kp _ h)) hi, fun H' kp => stop_list (SqL.of (kp _ h))⟩⟩
 ·exact .inr ⟨_, hv, a, rfl, ⟨_, SqT.of h⟩, k _ ⟨fun i H' kp hi => go_tup (SqT.of (kp _ h)) hi, fun H' kp => stop_tup (SqT.of (kp _ h))⟩⟩
theorem Over.loop {J : It} {H0 : Hp} {a : Addr} {xs : List V} {g : TG} {tb : TS} {D : Ends} {σ : St} {H : Hp} (O : Over H0 a xs J) (Pv : Nat → St → Hp → Prop) (h0 : Pv 0 σ H) (hl : ∀ i σ H, i ≤ xs.length → Pv i σ H → ∀ o, H0 a = Option.some o → H a = Option.some o)
  (hs : ∀ i x σ H, xs[i]? = Option.some x → Pv i σ H → g x σ H fun σ2 H2 => tb { D with nx := Pv (i + 1), ct := Pv (i + 1), bk := D.nx } σ2 H2) (hd : ∀ σ H, Pv xs.length σ H → D.nx σ H) :
  ∃ W : Nat → Nat → St → Hp → Prop, (∃ m, W 0 m σ H) ∧ ∀ i m σ H, W i m σ H →
   (J.stop i H ∧ D.nx σ H) ∨ (J.go i H ∧ ∃ N : St → Hp → Prop, (∀ σ' H', N σ' H' → ∃ m', m' < m ∧ W (i + 1) m' σ' H') ∧ ∀ x H', J.yld i H x H' → g x σ H' fun σ2 H2 => tb { D with nx := N, ct := N, bk := D.nx } σ2 H2) := by
 refine ⟨fun i m σ H => m = xs.length - i ∧ i ≤ xs.length ∧ Pv i σ H, ⟨xs.length, by simp, Nat.zero_le _, h0⟩, ?_⟩
 rintro i m σ H ⟨rfl, hi, p⟩
 have q := hl i σ H hi p
 by_cases hlt : i < xs.length
 ·obtain ⟨g1, g2⟩ := O.go i H q hlt
  refine .inr ⟨g1, Pv (i + 1), fun σ' H' p' => ⟨xs.length - (i + 1), by omega, rfl, hlt, p'⟩, fun x H' y => ?_⟩
  obtain ⟨e, y'⟩ := g2 x H' y
  subst e
  exact hs i x σ _ y' p
 ·have e : i = xs.length := by omega
  subst e
  exact .inl ⟨O.stop H q, hd σ H p⟩
theorem Over.comp {J : It} {H0 : Hp} {a : Addr} {xs : List V} {te : TE} {σ : St} {H : Hp} {Q : VK} (O : Over H0 a xs J) (Pv : Nat → List V → Hp → Prop) (h0 : Pv 0 [] H) (hz : xs.length ≤ sizeLine) (hl : ∀ i ys H, i ≤ xs.length → Pv i ys H → ∀ o, H0 a = Option.some o → H a = Option.some o)
  (hs : ∀ i x ys H, xs[i]? = Option.some x → ys.length = i → Pv i ys H → te (Option.some x :: σ) H fun v H3 => Pv (i + 1) (ys ++ [v]) H3)
  (hd : ∀ ys H, ys.length = xs.length → Pv xs.length ys H → ∀ D, H D = none → Q (.ref D) (upd H D (.lst ys))) : CompOk 1 J (gName 0) te σ H Q :=
 comp_it1 xs.length Pv (fun i x => xs[i]? = Option.some x) h0 hz (fun i ys H hi hy p => O.go i H (hl i ys H (Nat.le_of_lt hi) p) hi) (fun ys H hy p => O.stop H (hl _ ys H (Nat.le_refl _) p)) (fun i x ys H hi hx hy p => hs i x ys H hx hy p) hd
end Few
namespace Few
open PySem L2
theorem ifT {c A B : Prop} [Decidable c] (hc : c) (h : A) : if c then A else B := by rw [if_pos hc]; exact h
theorem ifF {c A B : Prop} [Decidable c] (hc : ¬ c) (h : B) : if c then A else B := by rw [if_neg hc]; exact h
theorem LT.same {H H' : Hp} {a : Addr} {xs : List V} (h : LT H a xs) (s : Same H H') : LT H' a xs := h.mono fun o e => s a o e
theorem inAbc : ∀ i, i < 26 → (!(Builtin.Str.occurrences abc ⟨#[97 + i]⟩ 0 abc.length 1).isEmpty) = true := by decide +kernel
theorem inAbc' {c : Nat} (h0 : 97 ≤ c) (h1 : c ≤ 122) : (!(Builtin.Str.occurrences abc ⟨#[c]⟩ 0 abc.length 1).isEmpty) = true := by
 have := inAbc (c - 97) (by omega)
 rwa [show 97 + (c - 97) = c by omega] at this
structure Gs (K : PySem.W.Frag) (mg : Str → Option Value) : Prop where
 letters : ∃ u, mg "LETTERS" = some u ∧ RelV (.str abc) u
 longest : ∃ u, mg "LONGEST_NAME" = some u ∧ RelV (.int 12) u
 mkinds : ∃ u, mg "MOST_KINDS" = some u ∧ RelV (.int 4) u
 msigns : ∃ u, mg "MOST_SIGNS" = some u ∧ RelV (.int 8) u
 mplaces : ∃ u, mg "MOST_PLACES" = some u ∧ RelV (.int 2) u
 words : ∃ a, mg "WORDS_OF_SAYINGS" = some (.ref a) ∧ ∀ H, SqT K H a (sayWords.map V.str)
theorem flat_strs : ∀ ws : List Str, (ws.map V.str).all flatV = true
 | [] => rfl
 | x :: r => by
  show (flatV (V.str x) && (r.map V.str).all flatV) = true
  rw [flat_strs r]; rfl
theorem n_tk : ¬ (("kept_ties" : Str) = "kept_kinds") := by decide +kernel
theorem n_fk : ¬ (("kept_functions" : Str) = "kept_kinds") := by decide +kernel
theorem n_ft : ¬ (("kept_functions" : Str) = "kept_ties") := by decide +kernel
def flK (kt : Addr) : List (Str × V) := putF "kept_kinds" (.ref kt) []
def flT (kt tt : Addr) : List (Str × V) := putF "kept_ties" (.ref tt) (flK kt)
def flF (kt tt ft : Addr) : List (Str × V) := putF "kept_functions" (.ref ft) (flT kt tt)
theorem flK_kinds (kt : Addr) : (flK kt).lookup ("kept_kinds" : Str) = some (.ref kt) := by unfold flK; rw [lookup_putF, if_pos rfl]
theorem flT_kinds (kt tt : Addr) : (flT kt tt).lookup ("kept_kinds" : Str) = some (.ref kt) := by unfold flT; rw [lookup_putF, if_neg (fun z => n_tk z.symm)]; exact flK_kinds kt
theorem flT_ties (kt tt : Addr) : (flT kt tt).lookup ("kept_ties" : Str) = some (.ref tt) := by unfold flT; rw [lookup_putF, if_pos rfl]
theorem flF_kinds (kt tt ft : Addr) : (flF kt tt ft).lookup ("kept_kinds" : Str) = some (.ref kt) := by unfold flF; rw [lookup_putF, if_neg (fun z => n_fk z.symm)]; exact flT_kinds kt tt
theorem flF_ties (kt tt ft : Addr) : (flF kt tt ft).lookup ("kept_ties" : Str) = some (.ref tt) := by unfold flF; rw [lookup_putF, if_neg (fun z => n_ft z.symm)]; exact flT_ties kt tt
theorem flF_funs (kt tt ft : Addr) : (flF kt tt ft).lookup ("kept_functions" : Str) = some (.ref ft) := by unfold flF; rw [lookup_putF, if_pos rfl]
theorem flK_len (kt : Addr) : (flK kt).length < 1000 := Nat.lt_of_le_of_lt (length_putF _ _ _) (by decide)
theorem flT_len (kt tt : Addr) : (flT kt tt).length < 1000 := by
 have h1 := length_putF ("kept_ties" : Str) (.ref tt) (flK kt)
 have h2 := length_putF ("kept_kinds" : Str) (.ref kt) []
 unfold flT flK at *
 simp only [List.length_nil] at h2
 omega
theorem fl_no {kt tt ft : Addr} {m : Str} (h1 : ¬ m = "kept_functions") (h2 : ¬ m = "kept_ties") (h3 : ¬ m = "kept_kinds") : (flF kt tt ft).lookup m = none := by
 unfold flF flT flK
 rw [lookup_putF, if_neg h1, lookup_putF, if_neg h2, lookup_putF, if_neg h3]
 rfl
abbrev Any : Addr → Prop := fun _ => True
def Tups (H H' : Hp) : Prop := ∀ a xs, H a = some (.tup xs) → H' a = some (.tup xs)
theorem Same.tups {H H' : Hp} (s : Same H H') : Tups H H' := fun a xs e => s a _ e
theorem cat_of {K : PySem.W.Frag} {H : Hp} {a b : Addr} {xs ys : List V} {Q : VK} (ha : H a = some (.tup xs)) (hb : H b = some (.tup ys)) (hl : xs.length + ys.length ≤ sizeLine) (q : ∀ p H', H' p = some (.tup (xs ++ ys)) → Same H H' → Q (.ref p) H') : rCatTT K (.ref a) (.ref b) H Q := by
 refine ⟨a, b, xs, ys, rfl, rfl, SqT.of ha, SqT.of hb, hl, fun e => ?_, fun _ e => ?_, fun _ _ p hp => q p _ upd_same (same_new hp _)⟩
 ·subst e; exact q b H hb (Same.refl _)
 ·subst e; exact q a H (by rw [List.append_nil]; exact ha) (Same.refl _)
structure ClS (K : PySem.W.Frag) (C : Addr) : Prop where
 cl : Cls K C
 nK : NoAttr K C "kept_kinds"
 nT : NoAttr K C "kept_ties"
 nF : NoAttr K C "kept_functions"
end Few

set_option Elab.async false
set_option linter.all false
set_option maxRecDepth 100000
set_option maxHeartbeats 1000000
namespace Few
open PySem L2
structure TieR where
 nm : Str
 ps : List Str
structure FunR where
 nm : Str
 ps : List Str
 kd : Str
def strsD (ws : List Str) : List PyData := ws.map PyData.str
def tieL (t : TieR) : PyData := .tuple [.str t.nm, .list (strsD t.ps)]
def funL (t : FunR) : PyData := .tuple [.str t.nm, .list (strsD t.ps), .str t.kd]
def bookL (ks : List Str) (ts : List TieR) (fs : List FunR) : PyData := .tuple [.list (strsD ks), .list (ts.map tieL), .list (fs.map funL)]
structure BookOk (ks : List Str) (ts : List TieR) (fs : List FunR) : Prop where
 kn : ks.Nodup
 k1 : 1 ≤ ks.length
 k4 : ks.length ≤ 4
 kn2 : ∀ k ∈ ks, isNm k
 sn : (ts.map (·.nm) ++ fs.map (·.nm)).Nodup
 sl : ts.length + fs.length ≤ 8
 tn : ∀ t ∈ ts, isSg t.nm ∧ t.ps.length ≤ 2 ∧ ∀ k ∈ t.ps, k ∈ ks
 fn : ∀ t ∈ fs, isSg t.nm ∧ t.ps.length ≤ 2 ∧ (∀ k ∈ t.ps, k ∈ ks) ∧ t.kd ∈ ks
def menuK : List Str := ["a", "b", "c", "all", "not", "x", "kind", "size", "r", "f", "abcdefghijkl"]
def menuS : List Str := ["r", "s", "q", "f", "g", "c", "x", "say", "holds", "none", "tie", "next", "zyxwvutsrqpo"]
theorem menuK_nm : ∀ k ∈ menuK, isNm k := by unfold isNm; decide +kernel
theorem menuS_sg : ∀ k ∈ menuS, isSg k := by unfold isSg isNm; decide +kernel
theorem menuK_nd : menuK.Nodup := by decide +kernel
theorem menuS_nd : menuS.Nodup := by decide +kernel
theorem zcq : ((Str.ofString "_law_functions" : Str) == ("__debug__" : Str)) = false := by decide +kernel
theorem zcr : ((Str.ofString "_law_functions" : Str) == ("__classdict__" : Str)) = false := by decide +kernel
theorem zcs : ((Str.ofString "_law_kinds" : Str) == ("__debug__" : Str)) = false := by decide +kernel
theorem zct : ((Str.ofString "_law_kinds" : Str) == ("__classdict__" : Str)) = false := by decide +kernel
theorem zcu : ((Str.ofString "_law_most_kinds" : Str) == ("__debug__" : Str)) = false := by decide +kernel
theorem zcv : ((Str.ofString "_law_most_kinds" : Str) == ("__classdict__" : Str)) = false := by decide +kernel
theorem zcw : ((Str.ofString "_law_most_signs" : Str) == ("__debug__" : Str)) = false := by decide +kernel
theorem zcx : ((Str.ofString "_law_most_signs" : Str) == ("__classdict__" : Str)) = false := by decide +kernel
theorem zcy : ((Str.ofString "_law_name" : Str) == ("__debug__" : Str)) = false := by decide +kernel
theorem zcz : ((Str.ofString "_law_name" : Str) == ("__classdict__" : Str)) = false := by decide +kernel
theorem zc0 : ((Str.ofString "_law_names" : Str) == ("__debug__" : Str)) = false := by decide +kernel
theorem zc1 : ((Str.ofString "_law_names" : Str) == ("__classdict__" : Str)) = false := by decide +kernel
theorem zc2 : ((Str.ofString "_law_places" : Str) == ("__debug__" : Str)) = false := by decide +kernel
theorem zc3 : ((Str.ofString "_law_places" : Str) == ("__classdict__" : Str)) = false := by decide +kernel
theorem zc4 : ((Str.ofString "_law_ties" : Str) == ("__debug__" : Str)) = false := by decide +kernel
theorem zc5 : ((Str.ofString "_law_ties" : Str) == ("__classdict__" : Str)) = false := by decide +kernel
theorem zc6 : ((Str.ofString "_law_unlike" : Str) == ("__debug__" : Str)) = false := by decide +kernel
section
variable {P : Program} {w : World} {K : PySem.W.Frag} {mg : Str → Option Value} {base : Heap}
abbrev s_law_book : Stmt := top 38
theorem zc7 : FnScope ["_law_pot_here", "_law_most_kinds", "_law_most_signs", "_law_menu", "_law_kinds", "_law_names", "_law_ties", "_law_functions", "_law_name", "_law_places"] ["_law_pot_here", "_law_most_kinds", "_law_most_signs"] (defScope s_law_book) := ⟨rfl, rfl, rfl, by decide +kernel, rfl, by decide +kernel, by decide +kernel⟩
theorem zc8 : (defScope s_law_book).names.lookup (Str.ofString "_law_draw") = some NameKind.globalImplicit := by decide +kernel
theorem zc9 : (defScope s_law_book).names.lookup (Str.ofString "_law_functions") = some NameKind.local := by decide +kernel
theorem zda : (defScope s_law_book).names.lookup (Str.ofString "_law_kinds") = some NameKind.cell := by decide +kernel
theorem zdb : (defScope s_law_book).names.lookup (Str.ofString "_law_menu") = some NameKind.local := by decide +kernel
theorem zdc : (defScope s_law_book).names.lookup (Str.ofString "_law_most_kinds") = some NameKind.local := by decide +kernel
theorem zdd : (defScope s_law_book).names.lookup (Str.ofString "_law_most_signs") = some NameKind.local := by decide +kernel
theorem zde : (defScope s_law_book).names.lookup (Str.ofString "_law_name") = some NameKind.local := by decide +kernel
theorem zdf : (defScope s_law_book).names.lookup (Str.ofString "_law_names") = some NameKind.local := by decide +kernel
theorem zdg : (defScope s_law_book).names.lookup (Str.ofString "_law_places") = some NameKind.local := by decide +kernel
theorem zdh : (defScope s_law_book).names.lookup (Str.ofString "_law_pot_here") = some NameKind.cell := by decide +kernel
theorem zdi : (defScope s_law_book).names.lookup (Str.ofString "_law_ties") = some NameKind.local := by decide +kernel
theorem zdj : (defScope s_law_book).names.lookup (Str.ofString "_law_unlike") = some NameKind.globalImplicit := by decide +kernel
theorem zdk : (defScope s_law_book).names.lookup (Str.ofString "len") = some NameKind.globalImplicit := by decide +kernel
theorem zdl : (defScope s_law_book).names.lookup (Str.ofString "range") = some NameKind.globalImplicit := by decide +kernel
theorem zdm : CompSc 1 ["_law_k", "_law_pot_here", "_law_most_kinds", "_law_most_signs", "_law_menu", "_law_kinds", "_law_names", "_law_ties", "_law_functions", "_law_name", "_law_places"] ["_law_pot_here", "_law_most_kinds", "_law_most_signs", "_law_menu", "_law_kinds", "_law_names", "_law_ties", "_law_functions", "_law_name", "_law_places"] (defScope s_law_book) { kind := PySem.ScopeKind.function, names := [ (PySem.Str.ofString ".0", PySem.NameKind.local), (PySem.Str.ofString "_law_k", PySem.NameKind.local), (PySem.Str.ofString "_law_draw", PySem.NameKind.globalImplicit), (PySem.Str.ofString "len", PySem.NameKind.globalImplicit), (PySem.Str.ofString "_law_kinds", PySem.NameKind.free), (PySem.Str.ofString "_law_pot_here", PySem.NameKind.free)], isGenerator := false, isCoroutine := false, more := [] : PySem.Scope } := ⟨rfl, by decide +kernel, by decide +kernel, by decide +kernel, by decide +kernel, rfl, by decide +kernel⟩
theorem zdn : ({ kind := PySem.ScopeKind.function, names := [ (PySem.Str.ofString ".0", PySem.NameKind.local), (PySem.Str.ofString "_law_k", PySem.NameKind.local), (PySem.Str.ofString "_law_draw", PySem.NameKind.globalImplicit), (PySem.Str.ofString "len", PySem.NameKind.globalImplicit), (PySem.Str.ofString "_law_kinds", PySem.NameKind.free), (PySem.Str.ofString "_law_pot_here", PySem.NameKind.free)], isGenerator := false, isCoroutine := false, more := [] : PySem.Scope } : Scope).names.lookup (Str.ofString "_law_draw") = some NameKind.globalImplicit := by decide +kernel
theorem zdo : ({ kind := PySem.ScopeKind.function, names := [ (PySem.Str.ofString ".0", PySem.NameKind.local), (PySem.Str.ofString "_law_k", PySem.NameKind.local), (PySem.Str.ofString "_law_draw", PySem.NameKind.globalImplicit), (PySem.Str.ofString "len", PySem.NameKind.globalImplicit), (PySem.Str.ofString "_law_kinds", PySem.NameKind.free), (PySem.Str.ofString "_law_pot_here", PySem.NameKind.free)], isGenerator := false, isCoroutine := false, more := [] : PySem.Scope } : Scope).names.lookup (Str.ofString "_law_k") = some NameKind.local := by decide +kernel
theorem zdp : ({ kind := PySem.ScopeKind.function, names := [ (PySem.Str.ofString ".0", PySem.NameKind.local), (PySem.Str.ofString "_law_k", PySem.NameKind.local), (PySem.Str.ofString "_law_draw", PySem.NameKind.globalImplicit), (PySem.Str.ofString "len", PySem.NameKind.globalImplicit), (PySem.Str.ofString "_law_kinds", PySem.NameKind.free), (PySem.Str.ofString "_law_pot_here", PySem.NameKind.free)], isGenerator := false, isCoroutine := false, more := [] : PySem.Scope } : Scope).names.lookup (Str.ofString "_law_kinds") = some NameKind.free := by decide +kernel
theorem zdq : ({ kind := PySem.ScopeKind.function, names := [ (PySem.Str.ofString ".0", PySem.NameKind.local), (PySem.Str.ofString "_law_k", PySem.NameKind.local), (PySem.Str.ofString "_law_draw", PySem.NameKind.globalImplicit), (PySem.Str.ofString "len", PySem.NameKind.globalImplicit), (PySem.Str.ofString "_law_kinds", PySem.NameKind.free), (PySem.Str.ofString "_law_pot_here", PySem.NameKind.free)], isGenerator := false, isCoroutine := false, more := [] : PySem.Scope } : Scope).names.lookup (Str.ofString "_law_pot_here") = some NameKind.free := by decide +kernel
theorem zdr : ({ kind := PySem.ScopeKind.function, names := [ (PySem.Str.ofString ".0", PySem.NameKind.local), (PySem.Str.ofString "_law_k", PySem.NameKind.local), (PySem.Str.ofString "_law_draw", PySem.NameKind.globalImplicit), (PySem.Str.ofString "len", PySem.NameKind.globalImplicit), (PySem.Str.ofString "_law_kinds", PySem.NameKind.free), (PySem.Str.ofString "_law_pot_here", PySem.NameKind.free)], isGenerator := false, isCoroutine := false, more := [] : PySem.Scope } : Scope).names.lookup (Str.ofString "len") = some NameKind.globalImplicit := by decide +kernel
def spBook : Sp := fun vs H Q _ => ∃ (p : Addr) (mk ms : Nat), vs = [.ref p, .int mk, .int ms] ∧ PotAt H p ∧ 1 ≤ mk ∧ mk ≤ 4 ∧ ms ≤ 8 ∧
 ∀ v H' ks ts fs, RdV (fun a => H a = none) H' v (bookL ks ts fs) → BookOk ks ts fs → ks.length ≤ mk → ts.length + fs.length ≤ ms → Went p H H' → Q v H'
theorem ok_book (F : FunAt K mg "_law_book" s_law_book ["_law_pot_here", "_law_most_kinds", "_law_most_signs"]) (Z : Bl mg) (D_law_draw : Def P w K mg base "_law_draw" 1 ["_law_pot_here", "_law_many_here"] spDraw)
  (D_law_unlike : Def P w K mg base "_law_unlike" 2 ["_law_pot_here", "_law_many_here", "_law_menu"] (spUnlike (K := K))) :
  Def P w K mg base "_law_book" 3 ["_law_pot_here", "_law_most_kinds", "_law_most_signs"] spBook := by
 have SC := zc7
 refine F.mk' (k := 2) zc7 (fun vs H Q E h => ?_) (fun f cdv A outer s H vs Q E hr h => ?_)
 ·obtain ⟨p, mk, ms, rfl, _⟩ := h
  rfl
 ·obtain ⟨p, mk, ms, rfl, hp, hm1, hm4, hms, q⟩ := h
  refine' ⟨_, ?derivation, ?_⟩
  case derivation =>
   refine' pss_cons ?ka ?kb
   case ka =>
    refine' ps_set (i := 3) (x := Str.ofString "_law_menu") ?kc ?kd ?ke ?kf ?kg ?kh
    case kc => exact SC.nd
    case kd => exact rfl
    case ke => exact (Or.inl zdb)
    case kf =>
     refine' pe_lst ?ki
     case ki =>
      refine' pa_strs ?kj
      case kj => exact (by repeat constructor)
    case kg => rfl
    case kh => exact .inl rfl
   case kb =>
    refine' pss_cons ?kk ?kl
    case kk =>
     refine' ps_set (i := 4) (x := Str.ofString "_law_kinds") ?km ?kn ?ko ?kp ?kq ?kr
     case km => exact SC.nd
     case kn => exact rfl
     case ko => exact (Or.inr zda)
     case kp =>
      refine' pe_def (hdb := zc6) ?ks ?kt ?ku ?kv ?kw ?kx
      case ks => exact D_law_unlike
      case kt => exact (hr.mono (by decide))
      case ku => exact zdj
      case kv =>
       refine' pa_cons ?ky ?kz ?kba
       case ky => exact (pq 0 (visC zdh) zbn zbo)
       case kz =>
        refine' pa_cons ?kbb ?kbc ?kbd
        case kbb =>
         refine' pe_op ?kbe ?kbf ?kbg
         case kbe => exact op_add
         case kbf => exact pe_int
         case kbg =>
          refine' pe_def (hdb := zbe) ?kbh ?kbi ?kbj ?kbk ?kbl ?kbm
          case kbh => exact D_law_draw
          case kbi => exact (hr.mono (by decide))
          case kbj => exact zc8
          case kbk =>
           refine' pa_cons ?kbn ?kbo ?kbp
           case kbn => exact (pq 0 (visC zdh) zbn zbo)
           case kbo =>
            refine' pa_cons ?kbq pa_nil ?kbr
            case kbq => exact (pq 1 (visL zdc) zcu zcv)
            case kbr => rfl
           case kbp => rfl
          case kbl => rfl
          case kbm => rfl
        case kbc =>
         refine' pa_cons ?kbs pa_nil ?kbt
         case kbs => exact (pq 3 (visL zdb) zbl zbm)
         case kbt => rfl
        case kbd => rfl
       case kba => rfl
      case kw => rfl
      case kx => rfl
     case kq => rfl
     case kr => exact .inl rfl
    case kl =>
     refine' pss_cons ?kbu ?kbv
     case kbu =>
      refine' ps_set (i := 3) (x := Str.ofString "_law_menu") ?kbw ?kbx ?kby ?kbz ?kca ?kcb
      case kbw => exact SC.nd
      case kbx => exact rfl
      case kby => exact (Or.inl zdb)
      case kbz =>
       refine' pe_lst ?kcc
       case kcc =>
        refine' pa_strs ?kcd
        case kcd => exact (by repeat constructor)
      case kca => rfl
      case kcb => exact .inl rfl
     case kbv =>
      refine' pss_cons ?kce ?kcf
      case kce =>
       refine' ps_set (i := 5) (x := Str.ofString "_law_names") ?kcg ?kch ?kci ?kcj ?kck ?kcl
       case kcg => exact SC.nd
       case kch => exact rfl
       case kci => exact (Or.inl zdf)
       case kcj =>
        refine' pe_def (hdb := zc6) ?kcm ?kcn ?kco ?kcp ?kcq ?kcr
        case kcm => exact D_law_unlike
        case kcn => exact (hr.mono (by decide))
        case kco => exact zdj
        case kcp =>
         refine' pa_cons ?kcs ?kct ?kcu
         case kcs => exact (pq 0 (visC zdh) zbn zbo)
         case kct =>
          refine' pa_cons ?kcv ?kcw ?kcx
          case kcv =>
           refine' pe_def (hdb := zbe) ?kcy ?kcz ?kda ?kdb ?kdc ?kdd
           case kcy => exact D_law_draw
           case kcz => exact (hr.mono (by decide))
           case kda => exact zc8
           case kdb =>
            refine' pa_cons ?kde ?kdf ?kdg
            case kde => exact (pq 0 (visC zdh) zbn zbo)
            case kdf =>
             refine' pa_cons ?kdh pa_nil ?kdi
             case kdh =>
              refine' pe_op ?kdj ?kdk ?kdl
              case kdj => exact op_add
              case kdk => exact (pq 2 (visL zdd) zcw zcx)
              case kdl => exact pe_int
             case kdi => rfl
            case kdg => rfl
           case kdc => rfl
           case kdd => rfl
          case kcw =>
           refine' pa_cons ?kdm pa_nil ?kdn
           case kdm => exact (pq 3 (visL zdb) zbl zbm)
           case kdn => rfl
          case kcx => rfl
         case kcu => rfl
        case kcq => rfl
        case kcr => rfl
       case kck => rfl
       case kcl => exact .inl rfl
      case kcf =>
       refine' pss_cons ?kdo ?kdp
       case kdo =>
        refine' ps_set (i := 6) (x := Str.ofString "_law_ties") ?kdq ?kdr ?kds ?kdt ?kdu ?kdv
        case kdq => exact SC.nd
        case kdr => exact rfl
        case kds => exact (Or.inl zdi)
        case kdt =>
         refine' pe_lst pa_nil
        case kdu => rfl
        case kdv => exact .inl rfl
       case kdp =>
        refine' pss_cons ?kdw ?kdx
        case kdw =>
         refine' ps_set (i := 7) (x := Str.ofString "_law_functions") ?kdy ?kdz ?kea ?keb ?kec ?ked
         case kdy => exact SC.nd
         case kdz => exact rfl
         case kea => exact (Or.inl zc9)
         case keb =>
          refine' pe_lst pa_nil
         case kec => rfl
         case ked => exact .inl rfl
        case kdx =>
         refine' pss_cons ?kee ?kef
         case kee =>
          refine' ps_for ?keg ?keh ?kei ?kej ?kek ?kel
          case keg => exact PassesOwn.never
          case keh => exact rfl
          case kei =>
           refine' pi_list ?kem
           case kem => exact (pq 5 (visL zdf) zc0 zc1)
          case kej =>
           refine' pg_name (i := 8) (x := Str.ofString "_law_name") ?ken ?keo ?kep ?keq
           case ken => exact SC.nd
           case keo => exact rfl
           case kep => exact (Or.inl zde)
           case keq => exact (.inl rfl)
          case kek =>
           refine' pss_cons ?ker ?kes
           case ker =>
            refine' ps_setComp (i := 9) (x := Str.ofString "_law_places") ?ket ?keu ?kev ?kew ?kex ?key ?kez ?kfa ?kfb ?kfc ?kfd ?kfe
            case ket => exact SC.nd
            case keu => exact rfl
            case kev => exact (Or.inl zdg)
            case kew => exact rfl
            case kex => exact noxe
            case key => exact rfl
            case kez => exact zdm.at
            case kfa =>
             refine' pi_range1 ?kff ?kfg ?kfh ?kfi
             case kff => exact zdl
             case kfg => exact Z.n_range
             case kfh =>
              refine' pa_cons ?kfj pa_nil ?kfk
              case kfj =>
               refine' pe_ix ?kfl ?kfm ?kfn ?kfo
               case kfl => exact ix_list
               case kfm =>
                refine' pe_lst ?kfp
                case kfp =>
                 refine' pa_cons ?kfq ?kfr ?kfs
                 case kfq => exact pe_int
                 case kfr =>
                  refine' pa_cons ?kft ?kfu ?kfv
                  case kft => exact pe_int
                  case kfu =>
                   refine' pa_cons ?kfw ?kfx ?kfy
                   case kfw => exact pe_int
                   case kfx =>
                    refine' pa_cons ?kfz pa_nil ?kga
                    case kfz => exact pe_int
                    case kga => rfl
                   case kfy => rfl
                  case kfv => rfl
                 case kfs => rfl
               case kfn =>
                refine' pe_def (hdb := zbe) ?kgb ?kgc ?kgd ?kge ?kgf ?kgg
                case kgb => exact D_law_draw
                case kgc => exact (hr.mono (by decide))
                case kgd => exact zc8
                case kge =>
                 refine' pa_cons ?kgh ?kgi ?kgj
                 case kgh => exact (pq 0 (visC zdh) zbn zbo)
                 case kgi =>
                  refine' pa_cons ?kgk pa_nil ?kgl
                  case kgk => exact pe_int
                  case kgl => rfl
                 case kgj => rfl
                case kgf => rfl
                case kgg => rfl
               case kfo =>
                intro _ _
                exact rfl
              case kfk => rfl
             case kfi => rfl
            case kfb =>
             intro _ _ _ _ _
             refine' pg_name (i := 0) ?kgm ?kgn ?kgo ?kgp
             case kgm => exact zdm.nd
             case kgn => exact rfl
             case kgo => exact (locO zdo)
             case kgp => exact (.inr (lookup_relabel_local zdo))
            case kfc =>
             intro _ _ _ _ _
             refine' pe_ix ?kgq ?kgr ?kgs ?kgt
             case kgq => exact ix_list
             case kgr => exact (pq 5 (visF zdp) zcs zct)
             case kgs =>
              refine' pe_def (hdb := zbe) ?kgu ?kgv ?kgw ?kgx ?kgy ?kgz
              case kgu => exact D_law_draw
              case kgv => exact (hr.mono (by decide))
              case kgw => exact (glO zdn)
              case kgx =>
               refine' pa_cons ?kha ?khb ?khc
               case kha => exact (pq 1 (visF zdq) zbn zbo)
               case khb =>
                refine' pa_cons ?khd pa_nil ?khe
                case khd =>
                 refine' pe_callB (hn := zbw) (hdb := zbv) ?khf ?khg ?khh ?khi ?khj ?khk ?khl
                 case khf => exact call_len_seq
                 case khg => exact (glO zdr)
                 case khh => exact Z.n_len
                 case khi => exact bt_len
                 case khj =>
                  refine' pa_cons ?khm pa_nil ?khn
                  case khm => exact (pq 5 (visF zdp) zcs zct)
                  case khn => rfl
                 case khk => rfl
                 case khl => rfl
                case khe => rfl
               case khc => rfl
              case kgy => rfl
              case kgz => rfl
             case kgt =>
              intro _ _
              exact rfl
            case kfd => intro _; rfl
            case kfe => exact .inl rfl
           case kes =>
            refine' pss_one ?kho
            case kho =>
             refine' ps_if ?khp ?khq ?khr
             case khp =>
              refine' pt_cmpR ?khs ?kht ?khu ?khv
              case khs => exact op_lt
              case kht =>
               refine' pe_def (hdb := zbe) ?khw ?khx ?khy ?khz ?kia ?kib
               case khw => exact D_law_draw
               case khx => exact (hr.mono (by decide))
               case khy => exact zc8
               case khz =>
                refine' pa_cons ?kic ?kid ?kie
                case kic => exact (pq 0 (visC zdh) zbn zbo)
                case kid =>
                 refine' pa_cons ?kif pa_nil ?kig
                 case kif => exact pe_int
                 case kig => rfl
                case kie => rfl
               case kia => rfl
               case kib => rfl
              case khu => exact pe_int
              case khv => exact (nomark _)
             case khq =>
              refine' pss_one ?kih
              case kih =>
               refine' ps_expr ?kii ?kij
               case kii =>
                refine' pe_bm ?kik ?kil ?kim ?kin ?kio ?kip ?kiq ?kir ?kis ?kit ?kiu
                case kik => exact PySem.F.plainAttrs_list
                case kil => exact PySem.F.slot_list_append
                case kim => exact PySem.F.type_list_append
                case kin => exact mt_append
                case kio => exact (pq 6 (visL zdi) zc4 zc5)
                case kip =>
                 refine' pa_cons ?kiv pa_nil ?kiw
                 case kiv =>
                  refine' pe_tup ?kix
                  case kix =>
                   refine' pa_cons ?kiy ?kiz ?kja
                   case kiy => exact (pq 8 (visL zde) zcy zcz)
                   case kiz =>
                    refine' pa_cons ?kjb pa_nil ?kjc
                    case kjb => exact (pq 9 (visL zdg) zc2 zc3)
                    case kjc => rfl
                   case kja => rfl
                 case kiw => rfl
                case kiq => rfl
                case kir => rfl
                case kis => rfl
                case kit => rfl
                case kiu => rfl
               case kij => rfl
             case khr =>
              refine' pss_one ?kjd
              case kjd =>
               refine' ps_expr ?kje ?kjf
               case kje =>
                refine' pe_bm ?kjg ?kjh ?kji ?kjj ?kjk ?kjl ?kjm ?kjn ?kjo ?kjp ?kjq
                case kjg => exact PySem.F.plainAttrs_list
                case kjh => exact PySem.F.slot_list_append
                case kji => exact PySem.F.type_list_append
                case kjj => exact mt_append
                case kjk => exact (pq 7 (visL zc9) zcq zcr)
                case kjl =>
                 refine' pa_cons ?kjr pa_nil ?kjs
                 case kjr =>
                  refine' pe_tup ?kjt
                  case kjt =>
                   refine' pa_cons ?kju ?kjv ?kjw
                   case kju => exact (pq 8 (visL zde) zcy zcz)
                   case kjv =>
                    refine' pa_cons ?kjx ?kjy ?kjz
                    case kjx => exact (pq 9 (visL zdg) zc2 zc3)
                    case kjy =>
                     refine' pa_cons ?kka pa_nil ?kkb
                     case kka =>
                      refine' pe_ix ?kkc ?kkd ?kke ?kkf
                      case kkc => exact ix_list
                      case kkd => exact (pq 4 (visC zda) zcs zct)
                      case kke =>
                       refine' pe_def (hdb := zbe) ?kkg ?kkh ?kki ?kkj ?kkk ?kkl
                       case kkg => exact D_law_draw
                       case kkh => exact (hr.mono (by decide))
                       case kki => exact zc8
                       case kkj =>
                        refine' pa_cons ?kkm ?kkn ?kko
                        case kkm => exact (pq 0 (visC zdh) zbn zbo)
                        case kkn =>
                         refine' pa_cons ?kkp pa_nil ?kkq
                         case kkp =>
                          refine' pe_callB (hn := zbw) (hdb := zbv) ?kkr ?kks ?kkt ?kku ?kkv ?kkw ?kkx
                          case kkr => exact call_len_seq
                          case kks => exact zdk
                          case kkt => exact Z.n_len
                          case kku => exact bt_len
                          case kkv =>
                           refine' pa_cons ?kky pa_nil ?kkz
                           case kky => exact (pq 4 (visC zda) zcs zct)
                           case kkz => rfl
                          case kkw => rfl
                          case kkx => rfl
                         case kkq => rfl
                        case kko => rfl
                       case kkk => rfl
                       case kkl => rfl
                      case kkf =>
                       intro _ _
                       exact rfl
                     case kkb => rfl
                    case kjz => rfl
                   case kjw => rfl
                 case kjs => rfl
                case kjm => rfl
                case kjn => rfl
                case kjo => rfl
                case kjp => rfl
                case kjq => rfl
               case kjf => rfl
          case kel => intro _; rfl
         case kef =>
          refine' pss_one ?kla
          case kla =>
           refine' ps_ret ?klb
           case klb =>
            refine' pe_tup ?klc
            case klc =>
             refine' pa_cons ?kld ?kle ?klf
             case kld => exact (pq 4 (visC zda) zcs zct)
             case kle =>
              refine' pa_cons ?klg ?klh ?kli
              case klg => exact (pq 6 (visL zdi) zc4 zc5)
              case klh =>
               refine' pa_cons ?klj pa_nil ?klk
               case klj => exact (pq 7 (visL zc9) zcq zcr)
               case klk => rfl
              case kli => rfl
             case klf => rfl
  refine ⟨by show 11 ≤ sizeLine; decide, fun M1 hM1 => ?_⟩
  have W1 := (Went.refl hp).new hM1 (.lst (menuK.map V.str))
  refine ⟨_, rfl, _, rfl, _, rfl, p, _, rfl, W1.pot, by omega, by omega, fun r1 H1 a0 a1 hp1 s1 => ?_⟩
  have W2 := W1.mk1 hp1 s1
  have hM1' : H1 M1 = some (.lst (menuK.map V.str)) := s1 M1 _ (Ne.symm ((Went.refl hp).ne hM1)) upd_same
  refine ⟨_, _, rfl, rfl, _, rfl, p, M1, (1 + r1).toNat, menuK, ?_, hp1, SqL.of hM1', ?_, by decide, menuK_nd, fun kA ks H2 hkA hkA2 hkl hknd hkin W3 => ?_⟩
  ·show [V.ref p, V.int (1 + r1), V.ref M1] = _
   rw [Int.toNat_of_nonneg (by omega)]
  ·show (1 + r1).toNat ≤ 11
   omega
  have W4 := W2.trans W3
  have kfree : H kA = none := W2.free hkA
  have npk : kA ≠ p := by rintro rfl; obtain ⟨o, e⟩ := hp.some; rw [kfree] at e; cases e
  have hknm : ∀ k ∈ ks, isNm k := fun k hk => menuK_nm k (hkin k hk)
  generalize hH3 : H2 = H3 at *
  have hk3 := hkA2
  have W5 := W4
  refine ⟨by show 13 ≤ sizeLine; decide, fun M2 hM2 => ?_⟩
  have W6 := W5.new hM2 (.lst (menuS.map V.str))
  have hk6 : (upd H3 M2 (.lst (menuS.map V.str))) kA = some (.lst (ks.map V.str)) := by rw [upd_ne (ne_of_none hk3 hM2)]; exact hk3
  refine ⟨_, rfl, _, rfl, _, rfl, _, _, rfl, rfl, p, _, rfl, W6.pot, by omega, by omega, fun r3 H7 c0 c1 hp7 s7 => ?_⟩
  have W7 := W6.mk1 hp7 s7
  have hM7 : H7 M2 = some (.lst (menuS.map V.str)) := s7 M2 _ (Ne.symm (W5.ne hM2)) upd_same
  have hk7 : H7 kA = some (.lst (ks.map V.str)) := s7 kA _ npk hk6
  refine ⟨_, rfl, p, M2, r3.toNat, menuS, ?_, hp7, SqL.of hM7, ?_, by decide, menuS_nd, fun nA ns H8 hnA hnA2 hnl hnnd hnin W8 => ?_⟩
  ·show [V.ref p, V.int r3, V.ref M2] = _
   rw [Int.toNat_of_nonneg c0]
  ·show r3.toNat ≤ 13
   omega
  have W9 := W7.trans W8
  have nfree : H nA = none := W7.free hnA
  have npn : nA ≠ p := by rintro rfl; obtain ⟨o, e⟩ := hp.some; rw [nfree] at e; cases e
  have hk8 : H8 kA = some (.lst (ks.map V.str)) := W8.at npk hk7
  have hnsg : ∀ k ∈ ns, isSg k := fun k hk => menuS_sg k (hnin k hk)
  have hn9 := hnA2
  have hk9 := hk8
  have W10 := W9
  refine ⟨by show 0 ≤ sizeLine; decide, fun tA htA => ?_⟩
  have W11 := W10.new htA (.lst [])
  refine ⟨by show 0 ≤ sizeLine; decide, fun fA hfA => ?_⟩
  have W12 := W11.new hfA (.lst [])
  have tfree : H tA = none := W10.free htA
  have ffree : H fA = none := W11.free hfA
  have ntf : tA ≠ fA := ne_of_none upd_same hfA
  have hpt : p ≠ tA := W10.ne htA
  have hpf : p ≠ fA := W11.ne hfA
  have nkt : kA ≠ tA := ne_of_none hk9 htA
  have nkf : kA ≠ fA := ne_of_none (by rw [upd_ne nkt]; exact hk9) hfA
  have nnt : nA ≠ tA := ne_of_none hn9 htA
  have nnf : nA ≠ fA := ne_of_none (by rw [upd_ne nnt]; exact hn9) hfA
  have pne : ∀ a, H a = none → a ≠ p := fun a e => by rintro rfl; obtain ⟨o, e2⟩ := hp.some; rw [e] at e2; cases e2
  have keepR : ∀ {H2 H3 : Hp} {xs : List V} {ds : List PyData}, SameX p H2 H3 → RdA (fun a => H a = none ∧ a ≠ tA ∧ a ≠ fA) H2 xs ds → RdA (fun a => H a = none ∧ a ≠ tA ∧ a ≠ fA) H3 xs ds := fun s r => r.mono (fun _ z => z) fun a o z e => s a o (pne a z.1) e
  refine ⟨_, rfl, nA, rfl, ⟨_, SqL.of (by rw [upd_ne nnf, upd_ne nnt]; exact hn9)⟩, for_list (K := K) (a := nA) (xs := ns.map V.str) (fun i σ H2 => ∃ (ts : List TieR) (fs : List FunR) (tv fv : List V) (v8 v9 : Option V), σ = [some (.ref p), some (.int mk), some (.int ms), some (.ref M2), some (.ref kA), some (.ref nA), some (.ref tA), some (.ref fA), v8, v9] ∧
    H2 tA = some (.lst tv) ∧ RdA (fun a => H a = none ∧ a ≠ tA ∧ a ≠ fA) H2 tv (ts.map tieL) ∧ H2 fA = some (.lst fv) ∧ RdA (fun a => H a = none ∧ a ≠ tA ∧ a ≠ fA) H2 fv (fs.map funL) ∧
    (ts.map (·.nm) ++ fs.map (·.nm)).Perm (ns.take i) ∧ (∀ t ∈ ts, isSg t.nm ∧ t.ps.length ≤ 2 ∧ ∀ k ∈ t.ps, k ∈ ks) ∧ (∀ t ∈ fs, isSg t.nm ∧ t.ps.length ≤ 2 ∧ (∀ k ∈ t.ps, k ∈ ks) ∧ t.kd ∈ ks) ∧ H2 kA = some (.lst (ks.map V.str)) ∧ H2 nA = some (.lst (ns.map V.str)) ∧ Went p H H2)
   ⟨[], [], [], [], none, none, rfl, (by rw [upd_ne ntf]; exact upd_same), .nil, upd_same, .nil, (by simp), (fun _ h => nomatch h), (fun _ h => nomatch h), (by rw [upd_ne nkf, upd_ne nkt]; exact hk9), (by rw [upd_ne nnf, upd_ne nnt]; exact hn9), W12⟩
   (fun i σ H2 _ ⟨_, _, _, _, _, _, _, _, _, _, _, _, _, _, _, z, _⟩ => SqL.of z) ?_ ?_⟩
  ·rintro i y σ H2 hi ⟨ts, fs, tv, fv, v8, v9, rfl, hT, rT, hF, rF, hperm, okT, okF, hK, hN, W⟩
   have hil : i < ns.length := by have := (List.getElem?_eq_some_iff.mp hi).1; simpa using this
   obtain rfl : y = V.str ns[i] := by
    have : (ns.map V.str)[i]? = some (V.str ns[i]) := by simp [hil]
    rw [this] at hi; exact (Option.some.inj hi).symm
   have lenT : ts.length + fs.length = i := by
    have := hperm.length_eq
    simp only [List.length_append, List.length_map, List.length_take] at this
    omega
   have tvl : tv.length = ts.length := by rw [rT.length, List.length_map]
   have fvl : fv.length = fs.length := by rw [rF.length, List.length_map]
   have n8 : ns.length ≤ 8 := by omega
   refine ⟨by show 4 ≤ sizeLine; decide, fun L hL => ?_⟩
   have V1 := (Went.refl W.pot).new hL (.lst [.int 0, .int 1, .int 1, .int 2])
   refine ⟨_, rfl, p, _, rfl, V1.pot, by decide, by decide, fun r5 H10 e0 e1 hp10 s10 => ?_⟩
   have V2 := V1.mk1 hp10 s10
   have hL10 : H10 L = some (.lst [.int 0, .int 1, .int 1, .int 2]) := s10 L _ (Ne.symm ((Went.refl W.pot).ne hL)) upd_same
   obtain ⟨c, hc, hc0, hc2⟩ : ∃ c : Int, atI [V.int 0, V.int 1, V.int 1, V.int 2] r5 = some (V.int c) ∧ 0 ≤ c ∧ c ≤ 2 := by
    have h4 : r5 = 0 ∨ r5 = 1 ∨ r5 = 2 ∨ r5 = 3 := by omega
    rcases h4 with rfl | rfl | rfl | rfl
    ·exact ⟨0, rfl, by decide, by decide⟩
    ·exact ⟨1, rfl, by decide, by decide⟩
    ·exact ⟨1, rfl, by decide, by decide⟩
    ·exact ⟨2, rfl, by decide, by decide⟩
   refine ⟨L, _, r5, _, rfl, rfl, SqL.of hL10, hc, c, rfl, by omega, by omega, ?_⟩
   intro cl C ex sc Hc
   refine comp_it1 c.toNat (fun j ys H11 => ∃ us : List Str, ys = us.map V.str ∧ (∀ u ∈ us, u ∈ ks) ∧ Went p H2 H11) (fun _ _ => True)
    ⟨[], rfl, (fun _ h => nomatch h), V2⟩ (Nat.le_trans (show c.toNat ≤ 100 by omega) (show 100 ≤ sizeLine by decide)) (fun i ys H1 hi _ _ => ⟨hi, fun x H' y => ⟨y.1, trivial⟩⟩) (fun _ _ _ _ => Nat.le_refl _) ?_ ?_
   ·rintro j x ys H11 hj _ hy ⟨us, rfl, hus, V3⟩
    have hK11 : H11 kA = some (.lst (ks.map V.str)) := V3.at npk hK
    refine ⟨_, rfl, _, rfl, _, rfl, kA, _, rfl, .inl (SqL.of hK11), p, _, rfl, V3.pot, by rw [List.length_map]; omega, by rw [List.length_map]; omega, fun r6 H12 g0 g1 hp12 s12 => ?_⟩
    rw [List.length_map] at g1
    have hr6 : r6.toNat < ks.length := by omega
    refine ⟨kA, _, r6, V.str ks[r6.toNat], rfl, rfl, SqL.of (s12 kA _ npk hK11), atI_int g0 (by simp [hr6]), us ++ [ks[r6.toNat]], by simp, fun u hu => ?_, V3.mk1 hp12 s12⟩
    rcases List.mem_append.mp hu with hu | hu
    ·exact hus u hu
    ·rw [List.mem_singleton.mp hu]; exact List.getElem_mem hr6
   rintro ys H11 hy ⟨us, rfl, hus, V3⟩ D hD
   have hul : us.length ≤ 2 := by
    have : us.length = c.toNat := by simpa using hy
    omega
   have V4 := V3.new hD (.lst (us.map V.str))
   have W4 : Went p H (upd H11 D (.lst (us.map V.str))) := ⟨V4.pot, W.same.trans V4.same⟩
   refine ⟨_, rfl, p, _, rfl, V4.pot, by decide, by decide, fun r7 H13 k0 k1 hp13 s13 => ?_⟩
   refine ⟨_, _, rfl, rfl, _, rfl, ?_⟩
   have V5 := V4.mk1 hp13 s13
   have W5 : Went p H H13 := ⟨hp13, W4.same.trans s13⟩
   have hT13 : H13 tA = some (.lst tv) := V5.at (Ne.symm hpt) hT
   have hF13 : H13 fA = some (.lst fv) := V5.at (Ne.symm hpf) hF
   have hK13 : H13 kA = some (.lst (ks.map V.str)) := V5.at npk hK
   have hN13 : H13 nA = some (.lst (ns.map V.str)) := V5.at npn hN
   have rT13 := keepR V5.same rT
   have rF13 := keepR V5.same rF
   have nDp : D ≠ p := Ne.symm (V3.ne hD)
   have hD13 : H13 D = some (.lst (us.map V.str)) := s13 D _ nDp upd_same
   have hDfree : H D = none := (show Went p H H11 from ⟨V3.pot, W.same.trans V3.same⟩).free hD
   have nDt : D ≠ tA := by rintro rfl; rw [V3.at (Ne.symm hpt) hT] at hD; cases hD
   have nDf : D ≠ fA := by rintro rfl; rw [V3.at (Ne.symm hpf) hF] at hD; cases hD
   have ptake : ns.take (i + 1) = ns.take i ++ [ns[i]] := by rw [List.take_succ]; simp [hil]
   refine ite2 (fun _ => ?_) (fun _ => ?_)
   ·
    refine ⟨_, rfl, .inl ⟨rfl, _, SqL.of hT13⟩, _, rfl, _, rfl, by show 2 ≤ sizeLine; decide, fun T hTn => ?_⟩
    have nTp := W5.ne hTn
    have nTt : T ≠ tA := by rintro rfl; rw [hT13] at hTn; cases hTn
    have nTf : T ≠ fA := by rintro rfl; rw [hF13] at hTn; cases hTn
    have W6 := W5.new hTn (.tup [.str ns[i], .ref D])
    refine ⟨tA, tv, _, rfl, rfl, by rw [upd_ne (Ne.symm nTt)]; exact hT13, Nat.lt_of_lt_of_le (show tv.length < 100 by omega) (by decide), ?_⟩
    have W7 := W6.put hpt tfree (.lst (tv ++ [.ref T]))
    have st : ∀ a o, (H a = none ∧ a ≠ tA ∧ a ≠ fA) → H13 a = some o → (upd (upd H13 T (.tup [.str ns[i], .ref D])) tA (.lst (tv ++ [.ref T]))) a = some o := fun a o z e => by rw [upd_ne z.2.1, upd_ne (ne_of_none e hTn)]; exact e
    refine ⟨ts ++ [⟨ns[i], us⟩], fs, tv ++ [.ref T], fv, _, _, rfl, upd_same, ?_, ?_, ?_, ?_, ?_, okF, ?_, ?_, W7⟩
    ·rw [List.map_append]
     refine (rT13.mono (fun _ z => z) st).snoc (.tup ⟨W5.free hTn, nTt, nTf⟩ (by rw [upd_ne nTt]; exact upd_same) (.cons (.str _) (.cons (.lst ⟨hDfree, nDt, nDf⟩ (st D _ ⟨hDfree, nDt, nDf⟩ hD13) (RdA.strs us)) .nil)))
    ·rw [upd_ne (Ne.symm ntf), upd_ne (Ne.symm nTf)]; exact hF13
    ·exact rF13.mono (fun _ z => z) st
    ·rw [List.map_append, List.map_cons, List.map_nil, ptake, List.append_assoc]
     refine (List.Perm.append_left _ List.perm_append_comm).trans ?_
     rw [← List.append_assoc]
     exact List.Perm.append_right _ hperm
    ·intro t ht
     rcases List.mem_append.mp ht with ht | ht
     ·exact okT t ht
     ·rw [List.mem_singleton.mp ht]; exact ⟨hnsg _ (List.getElem_mem hil), hul, hus⟩
    ·rw [upd_ne nkt, upd_ne (ne_of_none hK13 hTn)]; exact hK13
    ·rw [upd_ne nnt, upd_ne (ne_of_none hN13 hTn)]; exact hN13
   ·
    refine ⟨_, rfl, .inl ⟨rfl, _, SqL.of hF13⟩, _, rfl, _, rfl, _, rfl, _, rfl, _, rfl, kA, _, rfl, .inl (SqL.of hK13), p, _, rfl, hp13, by rw [List.length_map]; omega, by rw [List.length_map]; omega, fun r8 H14 m0 m1 hp14 s14 => ?_⟩
    rw [List.length_map] at m1
    have hr8 : r8.toNat < ks.length := by omega
    have hK14 := s14 kA _ npk hK13
    have hT14 := s14 tA _ (Ne.symm hpt) hT13
    have hF14 := s14 fA _ (Ne.symm hpf) hF13
    have hN14 := s14 nA _ npn hN13
    have rT14 := keepR s14 rT13
    have rF14 := keepR s14 rF13
    have hD14 := s14 D _ nDp hD13
    have W6 := W5.mk1 hp14 s14
    refine ⟨kA, _, r8, V.str ks[r8.toNat], rfl, rfl, SqL.of hK14, atI_int m0 (by simp [hr8]), by show 3 ≤ sizeLine; decide, fun T hTn => ?_⟩
    have nTt : T ≠ tA := by rintro rfl; rw [hT14] at hTn; cases hTn
    have nTf : T ≠ fA := by rintro rfl; rw [hF14] at hTn; cases hTn
    have W7 := W6.new hTn (.tup [.str ns[i], .ref D, .str ks[r8.toNat]])
    refine ⟨fA, fv, _, rfl, rfl, by rw [upd_ne (Ne.symm nTf)]; exact hF14, Nat.lt_of_lt_of_le (show fv.length < 100 by omega) (by decide), ?_⟩
    have W8 := W7.put hpf ffree (.lst (fv ++ [.ref T]))
    have st : ∀ a o, (H a = none ∧ a ≠ tA ∧ a ≠ fA) → H14 a = some o → (upd (upd H14 T (.tup [.str ns[i], .ref D, .str ks[r8.toNat]])) fA (.lst (fv ++ [.ref T]))) a = some o := fun a o z e => by rw [upd_ne z.2.2, upd_ne (ne_of_none e hTn)]; exact e
    refine ⟨ts, fs ++ [⟨ns[i], us, ks[r8.toNat]⟩], tv, fv ++ [.ref T], _, _, rfl, ?_, ?_, upd_same, ?_, ?_, okT, ?_, ?_, ?_, W8⟩
    ·rw [upd_ne ntf, upd_ne (Ne.symm nTt)]; exact hT14
    ·exact rT14.mono (fun _ z => z) st
    ·rw [List.map_append]
     refine (rF14.mono (fun _ z => z) st).snoc (.tup ⟨W6.free hTn, nTt, nTf⟩ (by rw [upd_ne nTf]; exact upd_same) (.cons (.str _) (.cons (.lst ⟨hDfree, nDt, nDf⟩ (st D _ ⟨hDfree, nDt, nDf⟩ hD14) (RdA.strs us)) (.cons (.str _) .nil))))
    ·rw [List.map_append, List.map_cons, List.map_nil, ptake, ← List.append_assoc]
     exact List.Perm.append_right _ hperm
    ·intro t ht
     rcases List.mem_append.mp ht with ht | ht
     ·exact okF t ht
     ·rw [List.mem_singleton.mp ht]; exact ⟨hnsg _ (List.getElem_mem hil), hul, hus, List.getElem_mem hr8⟩
    ·rw [upd_ne nkf, upd_ne (ne_of_none hK14 hTn)]; exact hK14
    ·rw [upd_ne nnf, upd_ne (ne_of_none hN14 hTn)]; exact hN14
  ·rintro σ H2 ⟨ts, fs, tv, fv, v8, v9, rfl, hT, rT, hF, rF, hperm, okT, okF, hK, hN, W⟩
   rw [List.length_map, List.take_length] at hperm
   have lenT : ts.length + fs.length = ns.length := by
    have := hperm.length_eq
    simpa using this
   refine ⟨_, rfl, _, rfl, _, rfl, by show 3 ≤ sizeLine; decide, fun B hB => ?_⟩
   have hs := same_new hB (.tup [.ref kA, .ref tA, .ref fA])
   refine q _ _ ks ts fs (.tup (W.free hB) upd_same (.cons (.lst kfree (hs _ _ hK) (RdA.strs ks)) (.cons (.lst tfree (hs _ _ hT) (rT.mono (fun _ z => z.1) fun a o _ e => hs a o e)) (.cons (.lst ffree (hs _ _ hF) (rF.mono (fun _ z => z.1) fun a o _ e => hs a o e)) .nil))))
    ⟨hknd, by omega, by omega, hknm, (List.Perm.nodup_iff hperm).mpr hnnd, by omega, okT, okF⟩ (by omega) (by omega) (W.new hB _)
end
end Few

set_option Elab.async false
set_option linter.all false
set_option maxRecDepth 100000
set_option maxHeartbeats 1000000
namespace Few
open PySem L2
structure RowR where
 nm : Str
 ps : List Str
 rest : List Str
def tieRow (t : TieR) : RowR := ⟨t.nm, t.ps, []⟩
def funRow (t : FunR) : RowR := ⟨t.nm, t.ps, [t.kd]⟩
def tieT (t : TieR) : PyData := .tuple [.str t.nm, .tuple (strsD t.ps)]
def funT (t : FunR) : PyData := .tuple [.str t.nm, .tuple (strsD t.ps), .str t.kd]
structure SgAt (H : Hp) (q : Addr × Addr) (r : RowR) : Prop where
 row : LT H q.1 (.str r.nm :: .ref q.2 :: r.rest.map V.str)
 plc : LT H q.2 (r.ps.map V.str)
inductive Sgs (H : Hp) : List (Addr × Addr) → List RowR → Prop where
 | nil : Sgs H [] []
 | cons {q : Addr × Addr} {r : RowR} {ab : List (Addr × Addr)} {rs : List RowR} : SgAt H q r → Sgs H ab rs → Sgs H (q :: ab) (r :: rs)
theorem Sgs.length {H : Hp} : ∀ {ab : List (Addr × Addr)} {rs : List RowR}, Sgs H ab rs → ab.length = rs.length
 | _, _, .nil => rfl
 | _, _, .cons _ t => by rw [List.length_cons, List.length_cons, Sgs.length t]
theorem Sgs.get {H : Hp} : ∀ {ab : List (Addr × Addr)} {rs : List RowR} {i : Nat} {q : Addr × Addr}, Sgs H ab rs → ab[i]? = some q → ∃ r, rs[i]? = some r ∧ SgAt H q r
 | _, _, _, _, .nil, h => by simp at h
 | _, _, 0, _, .cons a t, h => by simp at h; subst h; exact ⟨_, rfl, a⟩
 | _, _, i + 1, _, .cons a t, h => by simpa using Sgs.get (i := i) t (by simpa using h)
end Few

set_option Elab.async false
set_option linter.all false
set_option maxRecDepth 100000
set_option maxHeartbeats 1000000
namespace Few
open PySem L2
theorem zds : ((Str.ofString "LETTERS" : Str) == ("__debug__" : Str)) = false := by decide +kernel
theorem zdt : ((Str.ofString "LONGEST_NAME" : Str) == ("__debug__" : Str)) = false := by decide +kernel
theorem zdu : ((Str.ofString "MOST_KINDS" : Str) == ("__debug__" : Str)) = false := by decide +kernel
theorem zdv : ((Str.ofString "MOST_PLACES" : Str) == ("__debug__" : Str)) = false := by decide +kernel
theorem zdw : ((Str.ofString "WORDS_OF_SAYINGS" : Str) == ("__debug__" : Str)) = false := by decide +kernel
theorem zdx : ((Str.ofString "all" : Str) == ("__debug__" : Str)) = false := by decide +kernel
theorem zdy : (Str.ofString "all" : Str) ≠ "__name__" := by decide +kernel
theorem zdz : ((Str.ofString "check_apart" : Str) == ("__debug__" : Str)) = false := by decide +kernel
theorem zd0 : ((Str.ofString "checked_kind" : Str) == ("__debug__" : Str)) = false := by decide +kernel
theorem zd1 : ((Str.ofString "checked_places" : Str) == ("__debug__" : Str)) = false := by decide +kernel
theorem zd2 : ((Str.ofString "checked_sign_name" : Str) == ("__debug__" : Str)) = false := by decide +kernel
theorem zd3 : ((Str.ofString "function" : Str) == ("__debug__" : Str)) = false := by decide +kernel
theorem zd4 : ((Str.ofString "function" : Str) == ("__classdict__" : Str)) = false := by decide +kernel
theorem zd5 : ((Str.ofString "is_list" : Str) == ("__debug__" : Str)) = false := by decide +kernel
theorem zd6 : ((Str.ofString "is_name" : Str) == ("__debug__" : Str)) = false := by decide +kernel
theorem zd7 : ((Str.ofString "isinstance" : Str) == ("__debug__" : Str)) = false := by decide +kernel
theorem zd8 : (Str.ofString "isinstance" : Str) ≠ "__name__" := by decide +kernel
theorem zd9 : ((Str.ofString "kind" : Str) == ("__debug__" : Str)) = false := by decide +kernel
theorem zea : ((Str.ofString "kind" : Str) == ("__classdict__" : Str)) = false := by decide +kernel
theorem zeb : ((Str.ofString "kinds" : Str) == ("__debug__" : Str)) = false := by decide +kernel
theorem zec : ((Str.ofString "kinds" : Str) == ("__classdict__" : Str)) = false := by decide +kernel
theorem zed : ((Str.ofString "name" : Str) == ("__debug__" : Str)) = false := by decide +kernel
theorem zee : ((Str.ofString "name" : Str) == ("__classdict__" : Str)) = false := by decide +kernel
theorem zef : ((Str.ofString "names" : Str) == ("__debug__" : Str)) = false := by decide +kernel
theorem zeg : ((Str.ofString "names" : Str) == ("__classdict__" : Str)) = false := by decide +kernel
theorem zeh : ((Str.ofString "places" : Str) == ("__debug__" : Str)) = false := by decide +kernel
theorem zei : ((Str.ofString "places" : Str) == ("__classdict__" : Str)) = false := by decide +kernel
theorem zej : ((Str.ofString "set" : Str) == ("__debug__" : Str)) = false := by decide +kernel
theorem zek : (Str.ofString "set" : Str) ≠ "__name__" := by decide +kernel
theorem zel : ((Str.ofString "sign" : Str) == ("__debug__" : Str)) = false := by decide +kernel
theorem zem : ((Str.ofString "sign" : Str) == ("__classdict__" : Str)) = false := by decide +kernel
theorem zen : ((Str.ofString "str" : Str) == ("__debug__" : Str)) = false := by decide +kernel
theorem zeo : (Str.ofString "str" : Str) ≠ "__name__" := by decide +kernel
theorem zep : ((Str.ofString "thing" : Str) == ("__debug__" : Str)) = false := by decide +kernel
theorem zeq : ((Str.ofString "thing" : Str) == ("__classdict__" : Str)) = false := by decide +kernel
theorem zer : ((Str.ofString "tie" : Str) == ("__debug__" : Str)) = false := by decide +kernel
theorem zes : ((Str.ofString "tie" : Str) == ("__classdict__" : Str)) = false := by decide +kernel
theorem zet : ((Str.ofString "tuple" : Str) == ("__debug__" : Str)) = false := by decide +kernel
theorem zeu : (Str.ofString "tuple" : Str) ≠ "__name__" := by decide +kernel
section
variable {P : Program} {w : World} {K : PySem.W.Frag} {mg : Str → Option Value} {base : Heap}
abbrev s_is_list : Stmt := top 8
theorem zev : FnScope ["thing"] ["thing"] (defScope s_is_list) := ⟨rfl, rfl, rfl, by decide +kernel, rfl, by decide +kernel, by decide +kernel⟩
theorem zew : (defScope s_is_list).names.lookup (Str.ofString "isinstance") = some NameKind.globalImplicit := by decide +kernel
theorem zex : (defScope s_is_list).names.lookup (Str.ofString "list") = some NameKind.globalImplicit := by decide +kernel
theorem zey : (defScope s_is_list).names.lookup (Str.ofString "thing") = some NameKind.local := by decide +kernel
theorem zez : (defScope s_is_list).names.lookup (Str.ofString "tuple") = some NameKind.globalImplicit := by decide +kernel
def spIsList : Sp := fun vs H Q _ => ∃ (a : Addr) (xs : List V), vs = [.ref a] ∧ LT H a xs ∧ ∀ H', Same H H' → Q (.bl true) H'
theorem ok_is_list (F : FunAt K mg "is_list" s_is_list ["thing"]) (Z : Bl mg) : Def P w K mg base "is_list" 1 ["thing"] spIsList := by
 have SC := zev
 refine F.mk' (k := 0) zev (fun vs H Q E h => ?_) (fun f cdv A outer s H vs Q E hr h => ?_)
 ·obtain ⟨a, xs, rfl, _⟩ := h
  rfl
 ·obtain ⟨a, xs, rfl, hL, q⟩ := h
  refine' ⟨_, ?derivation, ?_⟩
  case derivation =>
   refine' pss_one ?ka
   case ka =>
    refine' ps_ret ?kb
    case kb =>
     refine' pe_callB (hn := zd8) (hdb := zd7) ?kc ?kd ?ke ?kf ?kg ?kh ?ki
     case kc => exact (call_isi2 (T := "list") (U := "tuple"))
     case kd => exact zew
     case ke => exact Z.n_isinstance
     case kf => exact bt_isinstance
     case kg =>
      refine' pa_cons ?kj ?kk ?kl
      case kj => exact (pq 0 (visL zey) zep zeq)
      case kk =>
       refine' pa_cons ?km pa_nil ?kn
       case km =>
        refine' pe_tup ?ko
        case ko =>
         refine' pa_cons ?kp ?kq ?kr
         case kp =>
          refine' pe_bltn (v := V.ty "list") (hn := zby) (hd := zbx) ?ks ?kt ?ku ?kv
          case ks => exact zex
          case kt => exact Z.n_list
          case ku => exact bt_list
          case kv => exact rfl
         case kq =>
          refine' pa_cons ?kw pa_nil ?kx
          case kw =>
           refine' pe_bltn (v := V.ty "tuple") (hn := zeu) (hd := zet) ?ky ?kz ?kba ?kbb
           case ky => exact zez
           case kz => exact Z.n_tuple
           case kba => exact bt_tuple
           case kbb => exact rfl
          case kx => rfl
         case kr => rfl
       case kn => rfl
      case kl => rfl
     case kh => rfl
     case ki => rfl
  refine ⟨_, rfl, by show 2 ≤ sizeLine; decide, fun t ht => ?_⟩
  have st := same_new ht (.tup [.ty "list", .ty "tuple"])
  obtain ⟨ty, hty, hk⟩ := (hL.same st).isi2 (K := K)
  exact ⟨_, t, ty, true, rfl, upd_same, hty, hk, q _ st⟩
abbrev s_is_name : Stmt := top 9
theorem ze0 : FnScope ["thing"] ["thing"] (defScope s_is_name) := ⟨rfl, rfl, rfl, by decide +kernel, rfl, by decide +kernel, by decide +kernel⟩
theorem ze1 : (defScope s_is_name).names.lookup (Str.ofString "LONGEST_NAME") = some NameKind.globalImplicit := by decide +kernel
theorem ze2 : (defScope s_is_name).names.lookup (Str.ofString "all") = some NameKind.globalImplicit := by decide +kernel
theorem ze3 : (defScope s_is_name).names.lookup (Str.ofString "isinstance") = some NameKind.globalImplicit := by decide +kernel
theorem ze4 : (defScope s_is_name).names.lookup (Str.ofString "len") = some NameKind.globalImplicit := by decide +kernel
theorem ze5 : (defScope s_is_name).names.lookup (Str.ofString "str") = some NameKind.globalImplicit := by decide +kernel
theorem ze6 : (defScope s_is_name).names.lookup (Str.ofString "thing") = some NameKind.local := by decide +kernel
theorem ze7 : CompSc 1 ["sign", "thing"] ["thing"] (defScope s_is_name) { kind := PySem.ScopeKind.function, names := [ (PySem.Str.ofString ".0", PySem.NameKind.local), (PySem.Str.ofString "sign", PySem.NameKind.local), (PySem.Str.ofString "LETTERS", PySem.NameKind.globalImplicit)], isGenerator := false, isCoroutine := false, more := [] : PySem.Scope } := ⟨rfl, by decide +kernel, by decide +kernel, by decide +kernel, by decide +kernel, rfl, by decide +kernel⟩
theorem ze8 : ({ kind := PySem.ScopeKind.function, names := [ (PySem.Str.ofString ".0", PySem.NameKind.local), (PySem.Str.ofString "sign", PySem.NameKind.local), (PySem.Str.ofString "LETTERS", PySem.NameKind.globalImplicit)], isGenerator := false, isCoroutine := false, more := [] : PySem.Scope } : Scope).names.lookup (Str.ofString "LETTERS") = some NameKind.globalImplicit := by decide +kernel
theorem ze9 : ({ kind := PySem.ScopeKind.function, names := [ (PySem.Str.ofString ".0", PySem.NameKind.local), (PySem.Str.ofString "sign", PySem.NameKind.local), (PySem.Str.ofString "LETTERS", PySem.NameKind.globalImplicit)], isGenerator := false, isCoroutine := false, more := [] : PySem.Scope } : Scope).names.lookup (Str.ofString "sign") = some NameKind.local := by decide +kernel
def spIsName : Sp := fun vs H Q _ => ∃ z : Str, vs = [.str z] ∧ isNm z ∧ ∀ H', Same H H' → Q (.bl true) H'
theorem ok_is_name (F : FunAt K mg "is_name" s_is_name ["thing"]) (Z : Bl mg) (G : Gs K mg) : Def P w K mg base "is_name" 1 ["thing"] spIsName := by
 have SC := ze0
 obtain ⟨_, g_LETTERS, r_LETTERS⟩ := G.letters
 obtain ⟨_, g_LONGEST_NAME, r_LONGEST_NAME⟩ := G.longest
 refine F.mk' (k := 0) ze0 (fun vs H Q E h => ?_) (fun f cdv A outer s H vs Q E hr h => ?_)
 ·obtain ⟨z, rfl, _⟩ := h
  rfl
 ·obtain ⟨z, rfl, ⟨h1, h2, h3⟩, q⟩ := h
  have hz := str_len z
  have hcs : z.cps.size = z.cps.toList.length := by simp
  refine' ⟨_, ?derivation, ?_⟩
  case derivation =>
   refine' pss_cons ?ka ?kb
   case ka =>
    refine' ps_if ?kc ?kd pss_nil
    case kc =>
     refine' PW.pt ?ke
     case ke =>
      refine' pw_or ?kf ?kg
      case kf =>
       refine' pt_not ?kh
       case kh =>
        refine' pt_val ?ki ?kj
        case ki =>
         refine' pe_callB (hn := zd8) (hdb := zd7) ?kk ?kl ?km ?kn ?ko ?kp ?kq
         case kk => exact (call_isiT (T := "str"))
         case kl => exact ze3
         case km => exact Z.n_isinstance
         case kn => exact bt_isinstance
         case ko =>
          refine' pa_cons ?kr ?ks ?kt
          case kr => exact (pq 0 (visL ze6) zep zeq)
          case ks =>
           refine' pa_cons ?ku pa_nil ?kv
           case ku =>
            refine' pe_bltn (v := V.ty "str") (hn := zeo) (hd := zen) ?kw ?kx ?ky ?kz
            case kw => exact ze5
            case kx => exact Z.n_str
            case ky => exact bt_str
            case kz => exact rfl
           case kv => rfl
          case kt => rfl
         case kp => rfl
         case kq => rfl
        case kj => intro _; rfl
      case kg =>
       refine' pw_or1 ?kba
       case kba =>
        refine' pt_not ?kbb
        case kbb =>
         refine' pt_chain ?kbc ?kbd ?kbe ?kbf ?kbg ?kbh
         case kbc => exact op_le
         case kbd => exact op_le
         case kbe => exact pe_int
         case kbf =>
          refine' pe_callB (hn := zbw) (hdb := zbv) ?kbi ?kbj ?kbk ?kbl ?kbm ?kbn ?kbo
          case kbi => exact call_len_str
          case kbj => exact ze4
          case kbk => exact Z.n_len
          case kbl => exact bt_len
          case kbm =>
           refine' pa_cons ?kbp pa_nil ?kbq
           case kbp => exact (pq 0 (visL ze6) zep zeq)
           case kbq => rfl
          case kbn => rfl
          case kbo => rfl
         case kbg =>
          refine' pe_glob (hd := zdt) ?kbr ?kbs ?kbt
          case kbr => exact ze1
          case kbs => exact g_LONGEST_NAME
          case kbt => exact r_LONGEST_NAME
         case kbh => with_unfolding_all rfl
    case kd =>
     refine' pss_one ?kbu
     case kbu =>
      refine' ps_ret ?kbv
      case kbv => exact pe_bl
   case kb =>
    refine' pss_one ?kbw
    case kbw =>
     refine' ps_ret ?kbx
     case kbx =>
      refine' pe_callB (hn := zdy) (hdb := zdx) ?kby ?kbz ?kca ?kcb ?kcc ?kcd ?kce
      case kby => exact (call_allB rfl)
      case kbz => exact ze2
      case kca => exact Z.n_all
      case kcb => exact bt_all
      case kcc =>
       refine' pa_cons ?kcf pa_nil ?kcg
       case kcf =>
        refine' pe_comp ?kch ?kci ?kcj ?kck ?kcl ?kcm ?kcn
        case kch => exact noxe
        case kci => exact rfl
        case kcj => exact ze7.at
        case kck =>
         refine' pi_str ?kco
         case kco => exact (pq 0 (visL ze6) zep zeq)
        case kcl =>
         intro _ _ _ _ _
         refine' pg_name (i := 0) ?kcp ?kcq ?kcr ?kcs
         case kcp => exact ze7.nd
         case kcq => exact rfl
         case kcr => exact (locO ze9)
         case kcs => exact (.inr (lookup_relabel_local ze9))
        case kcm =>
         intro _ _ _ _ _
         refine' pe_cmpR ?kct ?kcu ?kcv ?kcw
         case kct => exact op_in_str
         case kcu => exact (pq 0 (visO ze9) zel zem)
         case kcv =>
          refine' pe_glob (hd := zds) ?kcx ?kcy ?kcz
          case kcx => exact (glO ze8)
          case kcy => exact g_LETTERS
          case kcz => exact r_LETTERS
         case kcw => exact (by with_unfolding_all rfl)
        case kcn => intro _; rfl
       case kcg => rfl
      case kcd => rfl
      case kce => rfl
  refine ⟨_, rfl, _, _, _, rfl, .str _, kit_str1 K, true, rfl, iteF ?_⟩
  refine ⟨_, rfl, _, rfl, Nat.le_trans (show z.length ≤ 12 by omega) (by decide), _, _, rfl, rfl, _, rfl, ifT (decide_eq_true (by omega)) ?_⟩
  refine ⟨_, _, rfl, rfl, _, rfl, ifF (by simp; omega) ?_⟩
  refine ⟨_, rfl, z, rfl, ?_⟩
  intro cl C ex s0 H0
  refine comp_it1 z.cps.size (fun i ys H1 => ys = (List.replicate i true).map V.bl ∧ H1 = H) (fun i x => ∃ c, z.cps[i]? = some c ∧ x = .str ⟨#[c]⟩) ⟨rfl, rfl⟩ (Nat.le_trans (show z.cps.size ≤ 12 by omega) (by decide)) (fun i ys H1 hi _ _ => go_str hi) (fun ys H1 _ _ => stop_str) ?_ ?_
  ·rintro i x ys H1 hi ⟨c, hc, rfl⟩ hy ⟨rfl, rfl⟩
   have hm : c ∈ z.cps.toList := by
    have : z.cps.toList[i]? = some c := by simpa using hc
    exact List.mem_of_getElem? this
   obtain ⟨c0, c1⟩ := h3 c hm
   refine ⟨_, rfl, _, _, rfl, rfl, ?_, rfl⟩
   rw [inAbc' c0 c1, List.replicate_succ', List.map_append]
   rfl
  ·rintro ys H1 hy ⟨rfl, rfl⟩ D hD
   refine ⟨D, List.replicate z.cps.size true, rfl, SqL.of upd_same, ?_⟩
   have e : (List.replicate z.cps.size true).all id = true := by simp
   rw [e]
   exact q _ (same_new hD _)
abbrev s_check_apart : Stmt := top 32
theorem zfa : FnScope ["names"] ["names"] (defScope s_check_apart) := ⟨rfl, rfl, rfl, by decide +kernel, rfl, by decide +kernel, by decide +kernel⟩
theorem zfb : (defScope s_check_apart).names.lookup (Str.ofString "len") = some NameKind.globalImplicit := by decide +kernel
theorem zfc : (defScope s_check_apart).names.lookup (Str.ofString "names") = some NameKind.local := by decide +kernel
theorem zfd : (defScope s_check_apart).names.lookup (Str.ofString "set") = some NameKind.globalImplicit := by decide +kernel
def spApart : Sp := fun vs H Q _ => ∃ (a : Addr) (ws : List Str), vs = [.ref a] ∧ LT H a (ws.map V.str) ∧ ws.Nodup ∧ ws.length ≤ 1000 ∧ ∀ H', Same H H' → Q .non H'
theorem ok_apart (F : FunAt K mg "check_apart" s_check_apart ["names"]) (Z : Bl mg) : Def P w K mg base "check_apart" 1 ["names"] spApart := by
 have SC := zfa
 refine F.mk' (k := 0) zfa (fun vs H Q E h => ?_) (fun f cdv A outer s H vs Q E hr h => ?_)
 ·obtain ⟨a, ws, rfl, _⟩ := h
  rfl
 ·obtain ⟨a, ws, rfl, hL, hnd, hl, q⟩ := h
  refine' ⟨_, ?derivation, ?_⟩
  case derivation =>
   refine' pss_one ?ka
   case ka =>
    refine' ps_if ?kb ?kc pss_nil
    case kb =>
     refine' pt_cmpR ?kd ?ke ?kf ?kg
     case kd => exact op_ne
     case ke =>
      refine' pe_callB (hn := zbw) (hdb := zbv) ?kh ?ki ?kj ?kk ?kl ?km ?kn
      case kh => exact call_lenT
      case ki => exact zfb
      case kj => exact Z.n_len
      case kk => exact bt_len
      case kl =>
       refine' pa_cons ?ko pa_nil ?kp
       case ko =>
        refine' pe_callTy (hn := zek) (hdb := zej) ?kq ?kr ?ks ?kt ?ku ?kv ?kw
        case kq => exact (call_setT rfl)
        case kr => exact zfd
        case ks => exact Z.n_set
        case kt => exact bt_set
        case ku =>
         refine' pa_cons ?kx pa_nil ?ky
         case kx => exact (pq 0 (visL zfc) zef zeg)
         case ky => rfl
        case kv => rfl
        case kw => rfl
       case kp => rfl
      case km => rfl
      case kn => rfl
     case kf =>
      refine' pe_callB (hn := zbw) (hdb := zbv) ?kz ?kba ?kbb ?kbc ?kbd ?kbe ?kbf
      case kz => exact call_len_seq
      case kba => exact zfb
      case kbb => exact Z.n_len
      case kbc => exact bt_len
      case kbd =>
       refine' pa_cons ?kbg pa_nil ?kbh
       case kbg => exact (pq 0 (visL zfc) zef zeg)
       case kbh => rfl
      case kbe => rfl
      case kbf => rfl
     case kg => exact (nomark _)
    case kc =>
     refine' pss_one ?kbi
     case kbi => exact ps_never
  refine ⟨_, rfl, a, ws, rfl, hL.sq, Nat.lt_of_le_of_lt (show ws.length + 1 ≤ 1001 by omega) (by decide), fun d hd => ?_⟩
  have st := same_new hd (SetT P w d ws)
  refine ⟨d, ws, rfl, upd_same, ?_⟩
  refine ⟨_, rfl, a, _, rfl, (hL.same st).sq, rfl, _, rfl, ?_⟩
  have e : (ws.foldl stepS []).length = ws.length := by rw [foldS_nodup ws [] hnd (fun _ _ z => nomatch z)]; simp
  refine ifF ?_ (q _ st)
  rw [e, List.length_map]
  simp
abbrev s_checked_kinds : Stmt := top 26
theorem zfe : FnScope ["kinds", "kind"] ["kinds"] (defScope s_checked_kinds) := ⟨rfl, rfl, rfl, by decide +kernel, rfl, by decide +kernel, by decide +kernel⟩
theorem zff : (defScope s_checked_kinds).names.lookup (Str.ofString "MOST_KINDS") = some NameKind.globalImplicit := by decide +kernel
theorem zfg : (defScope s_checked_kinds).names.lookup (Str.ofString "check_apart") = some NameKind.globalImplicit := by decide +kernel
theorem zfh : (defScope s_checked_kinds).names.lookup (Str.ofString "is_list") = some NameKind.globalImplicit := by decide +kernel
theorem zfi : (defScope s_checked_kinds).names.lookup (Str.ofString "is_name") = some NameKind.globalImplicit := by decide +kernel
theorem zfj : (defScope s_checked_kinds).names.lookup (Str.ofString "kind") = some NameKind.local := by decide +kernel
theorem zfk : (defScope s_checked_kinds).names.lookup (Str.ofString "kinds") = some NameKind.local := by decide +kernel
theorem zfl : (defScope s_checked_kinds).names.lookup (Str.ofString "len") = some NameKind.globalImplicit := by decide +kernel
theorem zfm : (defScope s_checked_kinds).names.lookup (Str.ofString "tuple") = some NameKind.globalImplicit := by decide +kernel
structure KindsOk (ks : List Str) : Prop where
 kn : ks.Nodup
 k1 : 1 ≤ ks.length
 k4 : ks.length ≤ 4
 kn2 : ∀ k ∈ ks, isNm k
def spKinds : Sp := fun vs H Q _ => ∃ (a : Addr) (ks : List Str), vs = [.ref a] ∧ LT H a (ks.map V.str) ∧ KindsOk ks ∧ ∀ t H', H' t = some (.tup (ks.map V.str)) → Same H H' → Q (.ref t) H'
theorem ok_kinds (F : FunAt K mg "checked_kinds" s_checked_kinds ["kinds"]) (Z : Bl mg) (G : Gs K mg) (D_is_list : Def P w K mg base "is_list" 1 ["thing"] spIsList) (D_is_name : Def P w K mg base "is_name" 1 ["thing"] spIsName) (D_check_apart : Def P w K mg base "check_apart" 1 ["names"] spApart) :
  Def P w K mg base "checked_kinds" 2 ["kinds"] spKinds := by
 have SC := zfe
 obtain ⟨_, g_MOST_KINDS, r_MOST_KINDS⟩ := G.mkinds
 refine F.mk' (k := 1) zfe (fun vs H Q E h => ?_) (fun f cdv A outer s H vs Q E hr h => ?_)
 ·obtain ⟨a, ks, rfl, _⟩ := h
  rfl
 ·obtain ⟨a, ks, rfl, hL, ok, q⟩ := h
  have k1 := ok.k1
  have k4 := ok.k4
  refine' ⟨_, ?derivation, ?_⟩
  case derivation =>
   refine' pss_cons ?ka ?kb
   case ka =>
    refine' ps_if ?kc ?kd pss_nil
    case kc =>
     refine' PW.pt ?ke
     case ke =>
      refine' pw_or ?kf ?kg
      case kf =>
       refine' pt_not ?kh
       case kh =>
        refine' pt_val ?ki ?kj
        case ki =>
         refine' pe_def (hdb := zd5) ?kk ?kl ?km ?kn ?ko ?kp
         case kk => exact D_is_list
         case kl => exact (hr.mono (by decide))
         case km => exact zfh
         case kn =>
          refine' pa_cons ?kq pa_nil ?kr
          case kq => exact (pq 0 (visL zfk) zeb zec)
          case kr => rfl
         case ko => rfl
         case kp => rfl
        case kj => intro _; rfl
      case kg =>
       refine' pw_or1 ?ks
       case ks =>
        refine' pt_not ?kt
        case kt =>
         refine' pt_chain ?ku ?kv ?kw ?kx ?ky ?kz
         case ku => exact op_le
         case kv => exact op_le
         case kw => exact pe_int
         case kx =>
          refine' pe_callB (hn := zbw) (hdb := zbv) ?kba ?kbb ?kbc ?kbd ?kbe ?kbf ?kbg
          case kba => exact call_len_seq
          case kbb => exact zfl
          case kbc => exact Z.n_len
          case kbd => exact bt_len
          case kbe =>
           refine' pa_cons ?kbh pa_nil ?kbi
           case kbh => exact (pq 0 (visL zfk) zeb zec)
           case kbi => rfl
          case kbf => rfl
          case kbg => rfl
         case ky =>
          refine' pe_glob (hd := zdu) ?kbj ?kbk ?kbl
          case kbj => exact zff
          case kbk => exact g_MOST_KINDS
          case kbl => exact r_MOST_KINDS
         case kz => with_unfolding_all rfl
    case kd =>
     refine' pss_one ?kbm
     case kbm => exact ps_never
   case kb =>
    refine' pss_cons ?kbn ?kbo
    case kbn =>
     refine' ps_for ?kbp ?kbq ?kbr ?kbs ?kbt ?kbu
     case kbp => exact PassesOwn.never
     case kbq => exact rfl
     case kbr =>
      refine' pi_seq ?kbv
      case kbv => exact (pq 0 (visL zfk) zeb zec)
     case kbs =>
      refine' pg_name (i := 1) (x := Str.ofString "kind") ?kbw ?kbx ?kby ?kbz
      case kbw => exact SC.nd
      case kbx => exact rfl
      case kby => exact (Or.inl zfj)
      case kbz => exact (.inl rfl)
     case kbt =>
      refine' pss_one ?kca
      case kca =>
       refine' ps_if ?kcb ?kcc pss_nil
       case kcb =>
        refine' pt_not ?kcd
        case kcd =>
         refine' pt_val ?kce ?kcf
         case kce =>
          refine' pe_def (hdb := zd6) ?kcg ?kch ?kci ?kcj ?kck ?kcl
          case kcg => exact D_is_name
          case kch => exact (hr.mono (by decide))
          case kci => exact zfi
          case kcj =>
           refine' pa_cons ?kcm pa_nil ?kcn
           case kcm => exact (pq 1 (visL zfj) zd9 zea)
           case kcn => rfl
          case kck => rfl
          case kcl => rfl
         case kcf => intro _; rfl
       case kcc =>
        refine' pss_one ?kco
        case kco => exact ps_never
     case kbu => intro _; rfl
    case kbo =>
     refine' pss_cons ?kcp ?kcq
     case kcp =>
      refine' ps_expr ?kcr ?kcs
      case kcr =>
       refine' pe_def (hdb := zdz) ?kct ?kcu ?kcv ?kcw ?kcx ?kcy
       case kct => exact D_check_apart
       case kcu => exact (hr.mono (by decide))
       case kcv => exact zfg
       case kcw =>
        refine' pa_cons ?kcz pa_nil ?kda
        case kcz => exact (pq 0 (visL zfk) zeb zec)
        case kda => rfl
       case kcx => rfl
       case kcy => rfl
      case kcs => rfl
     case kcq =>
      refine' pss_one ?kdb
      case kdb =>
       refine' ps_ret ?kdc
       case kdc =>
        refine' pe_callTy (hn := zeu) (hdb := zet) ?kdd ?kde ?kdf ?kdg ?kdh ?kdi ?kdj
        case kdd => exact call_tuple_of
        case kde => exact zfm
        case kdf => exact Z.n_tuple
        case kdg => exact bt_tuple
        case kdh =>
         refine' pa_cons ?kdk pa_nil ?kdl
         case kdk => exact (pq 0 (visL zfk) zeb zec)
         case kdl => rfl
        case kdi => rfl
        case kdj => rfl
  refine ⟨_, rfl, a, _, rfl, hL, fun H1 s1 => ⟨true, rfl, iteF ?_⟩⟩
  refine ⟨_, rfl, a, _, rfl, (hL.same s1).sq, _, _, rfl, rfl, _, rfl, ifT (decide_eq_true (by rw [List.length_map]; omega)) ?_⟩
  refine ⟨_, _, rfl, rfl, _, rfl, ifF (by rw [List.length_map]; simp; omega) ?_⟩
  refine (hL.same s1).over rfl fun J O => O.loop (fun j σ H2 => ∃ v, σ = [some (.ref a), v] ∧ Same H1 H2) ⟨_, rfl, Same.refl _⟩ (fun j σ H2 _ ⟨_, _, z⟩ o e => z a o e) ?_ ?_
  ·rintro i x σ H2 hi ⟨v, rfl, s2⟩
   rw [List.getElem?_map] at hi
   obtain ⟨k, hk, rfl⟩ := Option.map_eq_some_iff.mp hi
   refine ⟨_, rfl, k, rfl, ok.kn2 k (List.mem_of_getElem? hk), fun H3 s3 => ⟨true, rfl, iteF ?_⟩⟩
   exact ⟨_, rfl, s2.trans s3⟩
  ·rintro σ H2 ⟨v, rfl, s2⟩
   refine ⟨_, rfl, a, ks, rfl, (hL.same s1).same s2, ok.kn, by omega, fun H3 s3 => ?_⟩
   have s03 := (s1.trans s2).trans s3
   refine ⟨_, rfl, a, ks.map V.str, rfl, ?_⟩
   rcases hL.same s03 with e | e
   ·exact .inl ⟨SqL.of e, fun l hl => q l _ upd_same (s03.trans (same_new hl _))⟩
   ·exact .inr ⟨SqT.of e, q a _ e s03⟩
abbrev s_checked_kind : Stmt := top 31
theorem zfn : FnScope ["kinds", "kind"] ["kinds", "kind"] (defScope s_checked_kind) := ⟨rfl, rfl, rfl, by decide +kernel, rfl, by decide +kernel, by decide +kernel⟩
theorem zfo : (defScope s_checked_kind).names.lookup (Str.ofString "is_name") = some NameKind.globalImplicit := by decide +kernel
theorem zfp : (defScope s_checked_kind).names.lookup (Str.ofString "kind") = some NameKind.local := by decide +kernel
theorem zfq : (defScope s_checked_kind).names.lookup (Str.ofString "kinds") = some NameKind.local := by decide +kernel
def spKind : Sp := fun vs H Q _ => ∃ (a : Addr) (ks : List Str) (k : Str), vs = [.ref a, .str k] ∧ LT H a (ks.map V.str) ∧ isNm k ∧ k ∈ ks ∧ ∀ H', Same H H' → Q (.str k) H'
theorem ok_kind (F : FunAt K mg "checked_kind" s_checked_kind ["kinds", "kind"]) (Z : Bl mg) (D_is_name : Def P w K mg base "is_name" 1 ["thing"] spIsName) : Def P w K mg base "checked_kind" 2 ["kinds", "kind"] spKind := by
 have SC := zfn
 refine F.mk' (k := 1) zfn (fun vs H Q E h => ?_) (fun f cdv A outer s H vs Q E hr h => ?_)
 ·obtain ⟨a, ks, k, rfl, _⟩ := h
  rfl
 ·obtain ⟨a, ks, k, rfl, hL, hn, hk, q⟩ := h
  refine' ⟨_, ?derivation, ?_⟩
  case derivation =>
   refine' pss_cons ?ka ?kb
   case ka =>
    refine' ps_if ?kc ?kd pss_nil
    case kc =>
     refine' PW.pt ?ke
     case ke =>
      refine' pw_or ?kf ?kg
      case kf =>
       refine' pt_not ?kh
       case kh =>
        refine' pt_val ?ki ?kj
        case ki =>
         refine' pe_def (hdb := zd6) ?kk ?kl ?km ?kn ?ko ?kp
         case kk => exact D_is_name
         case kl => exact (hr.mono (by decide))
         case km => exact zfo
         case kn =>
          refine' pa_cons ?kq pa_nil ?kr
          case kq => exact (pq 1 (visL zfp) zd9 zea)
          case kr => rfl
         case ko => rfl
         case kp => rfl
        case kj => intro _; rfl
      case kg =>
       refine' pw_or1 ?ks
       case ks =>
        refine' pt_cmpR ?kt ?ku ?kv ?kw
        case kt => exact op_notIn_seq
        case ku => exact (pq 1 (visL zfp) zd9 zea)
        case kv => exact (pq 0 (visL zfq) zeb zec)
        case kw => exact (by with_unfolding_all rfl)
    case kd =>
     refine' pss_one ?kx
     case kx => exact ps_never
   case kb =>
    refine' pss_one ?ky
    case ky =>
     refine' ps_ret ?kz
     case kz => exact (pq 1 (visL zfp) zd9 zea)
  refine ⟨_, rfl, k, rfl, hn, fun H1 s1 => ⟨true, rfl, iteF ?_⟩⟩
  refine ⟨_, rfl, _, rfl, a, _, rfl, (hL.same s1).sq, rfl, flat_strs ks, _, rfl, ifF ?_ ⟨_, rfl, q _ s1⟩⟩
  rw [inV_strs, decide_eq_true hk]
  decide
abbrev s_checked_places : Stmt := top 30
theorem zfr : FnScope ["kinds", "places"] ["kinds", "places"] (defScope s_checked_places) := ⟨rfl, rfl, rfl, by decide +kernel, rfl, by decide +kernel, by decide +kernel⟩
theorem zfs : (defScope s_checked_places).names.lookup (Str.ofString "MOST_PLACES") = some NameKind.globalImplicit := by decide +kernel
theorem zft : (defScope s_checked_places).names.lookup (Str.ofString "is_list") = some NameKind.globalImplicit := by decide +kernel
theorem zfu : (defScope s_checked_places).names.lookup (Str.ofString "len") = some NameKind.globalImplicit := by decide +kernel
theorem zfv : (defScope s_checked_places).names.lookup (Str.ofString "places") = some NameKind.local := by decide +kernel
theorem zfw : (defScope s_checked_places).names.lookup (Str.ofString "tuple") = some NameKind.globalImplicit := by decide +kernel
theorem zfx : CompSc 1 ["kind", "kinds", "places"] ["kinds", "places"] (defScope s_checked_places) { kind := PySem.ScopeKind.function, names := [ (PySem.Str.ofString ".0", PySem.NameKind.local), (PySem.Str.ofString "kind", PySem.NameKind.local), (PySem.Str.ofString "checked_kind", PySem.NameKind.globalImplicit), (PySem.Str.ofString "kinds", PySem.NameKind.free)], isGenerator := false, isCoroutine := false, more := [] : PySem.Scope } := ⟨rfl, by decide +kernel, by decide +kernel, by decide +kernel, by decide +kernel, rfl, by decide +kernel⟩
theorem zfy : ({ kind := PySem.ScopeKind.function, names := [ (PySem.Str.ofString ".0", PySem.NameKind.local), (PySem.Str.ofString "kind", PySem.NameKind.local), (PySem.Str.ofString "checked_kind", PySem.NameKind.globalImplicit), (PySem.Str.ofString "kinds", PySem.NameKind.free)], isGenerator := false, isCoroutine := false, more := [] : PySem.Scope } : Scope).names.lookup (Str.ofString "checked_kind") = some NameKind.globalImplicit := by decide +kernel
theorem zfz : ({ kind := PySem.ScopeKind.function, names := [ (PySem.Str.ofString ".0", PySem.NameKind.local), (PySem.Str.ofString "kind", PySem.NameKind.local), (PySem.Str.ofString "checked_kind", PySem.NameKind.globalImplicit), (PySem.Str.ofString "kinds", PySem.NameKind.free)], isGenerator := false, isCoroutine := false, more := [] : PySem.Scope } : Scope).names.lookup (Str.ofString "kind") = some NameKind.local := by decide +kernel
theorem zf0 : ({ kind := PySem.ScopeKind.function, names := [ (PySem.Str.ofString ".0", PySem.NameKind.local), (PySem.Str.ofString "kind", PySem.NameKind.local), (PySem.Str.ofString "checked_kind", PySem.NameKind.globalImplicit), (PySem.Str.ofString "kinds", PySem.NameKind.free)], isGenerator := false, isCoroutine := false, more := [] : PySem.Scope } : Scope).names.lookup (Str.ofString "kinds") = some NameKind.free := by decide +kernel
def spPlaces : Sp := fun vs H Q _ => ∃ (a b : Addr) (ks ps : List Str), vs = [.ref a, .ref b] ∧ LT H a (ks.map V.str) ∧ (∀ k ∈ ks, isNm k) ∧ LT H b (ps.map V.str) ∧ ps.length ≤ 2 ∧ (∀ k ∈ ps, k ∈ ks) ∧ ∀ t H', H' t = some (.tup (ps.map V.str)) → Same H H' → Q (.ref t) H'
theorem ok_places (F : FunAt K mg "checked_places" s_checked_places ["kinds", "places"]) (Z : Bl mg) (G : Gs K mg) (D_is_list : Def P w K mg base "is_list" 1 ["thing"] spIsList) (D_checked_kind : Def P w K mg base "checked_kind" 2 ["kinds", "kind"] spKind) : Def P w K mg base "checked_places" 3 ["kinds", "places"] spPlaces := by
 have SC := zfr
 obtain ⟨_, g_MOST_PLACES, r_MOST_PLACES⟩ := G.mplaces
 refine F.mk' (k := 2) zfr (fun vs H Q E h => ?_) (fun f cdv A outer s H vs Q E hr h => ?_)
 ·obtain ⟨a, b, ks, ps, rfl, _⟩ := h
  rfl
 ·obtain ⟨a, b, ks, ps, rfl, hA, hnm, hB, h2, hin, q⟩ := h
  refine' ⟨_, ?derivation, ?_⟩
  case derivation =>
   refine' pss_cons ?ka ?kb
   case ka =>
    refine' ps_if ?kc ?kd pss_nil
    case kc =>
     refine' PW.pt ?ke
     case ke =>
      refine' pw_or ?kf ?kg
      case kf =>
       refine' pt_not ?kh
       case kh =>
        refine' pt_val ?ki ?kj
        case ki =>
         refine' pe_def (hdb := zd5) ?kk ?kl ?km ?kn ?ko ?kp
         case kk => exact D_is_list
         case kl => exact (hr.mono (by decide))
         case km => exact zft
         case kn =>
          refine' pa_cons ?kq pa_nil ?kr
          case kq => exact (pq 1 (visL zfv) zeh zei)
          case kr => rfl
         case ko => rfl
         case kp => rfl
        case kj => intro _; rfl
      case kg =>
       refine' pw_or1 ?ks
       case ks =>
        refine' pt_cmpR ?kt ?ku ?kv ?kw
        case kt => exact op_gt
        case ku =>
         refine' pe_callB (hn := zbw) (hdb := zbv) ?kx ?ky ?kz ?kba ?kbb ?kbc ?kbd
         case kx => exact call_len_seq
         case ky => exact zfu
         case kz => exact Z.n_len
         case kba => exact bt_len
         case kbb =>
          refine' pa_cons ?kbe pa_nil ?kbf
          case kbe => exact (pq 1 (visL zfv) zeh zei)
          case kbf => rfl
         case kbc => rfl
         case kbd => rfl
        case kv =>
         refine' pe_glob (hd := zdv) ?kbg ?kbh ?kbi
         case kbg => exact zfs
         case kbh => exact g_MOST_PLACES
         case kbi => exact r_MOST_PLACES
        case kw => exact (nomark _)
    case kd =>
     refine' pss_one ?kbj
     case kbj => exact ps_never
   case kb =>
    refine' pss_one ?kbk
    case kbk =>
     refine' ps_ret ?kbl
     case kbl =>
      refine' pe_callTy (hn := zeu) (hdb := zet) ?kbm ?kbn ?kbo ?kbp ?kbq ?kbr ?kbs
      case kbm => exact call_tuple_of
      case kbn => exact zfw
      case kbo => exact Z.n_tuple
      case kbp => exact bt_tuple
      case kbq =>
       refine' pa_cons ?kbt pa_nil ?kbu
       case kbt =>
        refine' pe_comp ?kbv ?kbw ?kbx ?kby ?kbz ?kca ?kcb
        case kbv => exact noxe
        case kbw => exact rfl
        case kbx => exact zfx.at
        case kby =>
         refine' pi_seq ?kcc
         case kcc => exact (pq 1 (visL zfv) zeh zei)
        case kbz =>
         intro _ _ _ _ _
         refine' pg_name (i := 0) ?kcd ?kce ?kcf ?kcg
         case kcd => exact zfx.nd
         case kce => exact rfl
         case kcf => exact (locO zfz)
         case kcg => exact (.inr (lookup_relabel_local zfz))
        case kca =>
         intro _ _ _ _ _
         refine' pe_def (hdb := zd0) ?kch ?kci ?kcj ?kck ?kcl ?kcm
         case kch => exact D_checked_kind
         case kci => exact (hr.mono (by decide))
         case kcj => exact (glO zfy)
         case kck =>
          refine' pa_cons ?kcn ?kco ?kcp
          case kcn => exact (pq 1 (visF zf0) zeb zec)
          case kco =>
           refine' pa_cons ?kcq pa_nil ?kcr
           case kcq => exact (pq 0 (visO zfz) zd9 zea)
           case kcr => rfl
          case kcp => rfl
         case kcl => rfl
         case kcm => rfl
        case kcb => intro _; rfl
       case kbu => rfl
      case kbr => rfl
      case kbs => rfl
  refine ⟨_, rfl, b, _, rfl, hB, fun H1 s1 => ⟨true, rfl, iteF ?_⟩⟩
  refine ⟨_, rfl, b, _, rfl, (hB.same s1).sq, _, _, rfl, rfl, _, rfl, ifF (by rw [List.length_map]; simp; omega) ?_⟩
  refine (hB.same s1).over rfl fun J O => ?_
  intro cl C ex s0 H0
  refine O.comp (fun i ys H2 => ys = (ps.take i).map V.str ∧ Same H1 H2) ⟨rfl, Same.refl _⟩ (by rw [List.length_map]; exact Nat.le_trans h2 (by decide)) (fun i ys H2 _ ⟨_, z⟩ o e => z b o e) ?_ ?_
  ·rintro i x ys H2 hi hy ⟨rfl, s2⟩
   rw [List.getElem?_map] at hi
   obtain ⟨k, hk, rfl⟩ := Option.map_eq_some_iff.mp hi
   have hkp := hin k (List.mem_of_getElem? hk)
   refine ⟨_, rfl, _, rfl, a, ks, k, rfl, (hA.same s1).same s2, hnm k hkp, hkp, fun H3 s3 => ⟨?_, s2.trans s3⟩⟩
   rw [List.take_succ, hk, List.map_append]; rfl
  ·rintro ys H2 hy ⟨rfl, s2⟩ D hD
   rw [List.length_map, List.take_length]
   refine ⟨D, _, rfl, .inl ⟨SqL.of upd_same, fun t ht => ?_⟩⟩
   exact q t _ upd_same ((s1.trans s2).trans ((same_new hD _).trans (same_new ht _)))
abbrev s_checked_sign_name : Stmt := top 29
theorem zf1 : FnScope ["name"] ["name"] (defScope s_checked_sign_name) := ⟨rfl, rfl, rfl, by decide +kernel, rfl, by decide +kernel, by decide +kernel⟩
theorem zf2 : (defScope s_checked_sign_name).names.lookup (Str.ofString "WORDS_OF_SAYINGS") = some NameKind.globalImplicit := by decide +kernel
theorem zf3 : (defScope s_checked_sign_name).names.lookup (Str.ofString "is_name") = some NameKind.globalImplicit := by decide +kernel
theorem zf4 : (defScope s_checked_sign_name).names.lookup (Str.ofString "name") = some NameKind.local := by decide +kernel
def spSignName : Sp := fun vs H Q _ => ∃ (k : Str), vs = [.str k] ∧ isSg k ∧ ∀ H', Same H H' → Q (.str k) H'
theorem ok_sign_name (F : FunAt K mg "checked_sign_name" s_checked_sign_name ["name"]) (Z : Bl mg) (G : Gs K mg) (D_is_name : Def P w K mg base "is_name" 1 ["thing"] spIsName) : Def P w K mg base "checked_sign_name" 2 ["name"] spSignName := by
 have SC := zf1
 obtain ⟨wa, g_WORDS_OF_SAYINGS, hW⟩ := G.words
 have r_WORDS_OF_SAYINGS : RelV (.ref wa) (.ref wa) := rfl
 refine F.mk' (k := 1) zf1 (fun vs H Q E h => ?_) (fun f cdv A outer s H vs Q E hr h => ?_)
 ·obtain ⟨k, rfl, _⟩ := h
  rfl
 ·obtain ⟨k, rfl, hs, q⟩ := h
  refine' ⟨_, ?derivation, ?_⟩
  case derivation =>
   refine' pss_cons ?ka ?kb
   case ka =>
    refine' ps_if ?kc ?kd pss_nil
    case kc =>
     refine' PW.pt ?ke
     case ke =>
      refine' pw_or ?kf ?kg
      case kf =>
       refine' pt_not ?kh
       case kh =>
        refine' pt_val ?ki ?kj
        case ki =>
         refine' pe_def (hdb := zd6) ?kk ?kl ?km ?kn ?ko ?kp
         case kk => exact D_is_name
         case kl => exact (hr.mono (by decide))
         case km => exact zf3
         case kn =>
          refine' pa_cons ?kq pa_nil ?kr
          case kq => exact (pq 0 (visL zf4) zed zee)
          case kr => rfl
         case ko => rfl
         case kp => rfl
        case kj => intro _; rfl
      case kg =>
       refine' pw_or1 ?ks
       case ks =>
        refine' pt_cmpR ?kt ?ku ?kv ?kw
        case kt => exact op_in_seq
        case ku => exact (pq 0 (visL zf4) zed zee)
        case kv =>
         refine' pe_glob (hd := zdw) ?kx ?ky ?kz
         case kx => exact zf2
         case ky => exact g_WORDS_OF_SAYINGS
         case kz => exact r_WORDS_OF_SAYINGS
        case kw => exact (by with_unfolding_all rfl)
    case kd =>
     refine' pss_one ?kba
     case kba => exact ps_never
   case kb =>
    refine' pss_one ?kbb
    case kbb =>
     refine' ps_ret ?kbc
     case kbc => exact (pq 0 (visL zf4) zed zee)
  refine ⟨_, rfl, k, rfl, hs.1, fun H1 s1 => ⟨true, rfl, iteF ?_⟩⟩
  refine ⟨_, rfl, wa, _, rfl, .inr (hW _), rfl, flat_strs sayWords, _, rfl, ifF ?_ ⟨_, rfl, q _ s1⟩⟩
  rw [inV_strs, decide_eq_false hs.2]
  decide
abbrev s_checked_tie : Stmt := top 27
theorem zf5 : FnScope ["kinds", "tie", "name", "places"] ["kinds", "tie"] (defScope s_checked_tie) := ⟨rfl, rfl, rfl, by decide +kernel, rfl, by decide +kernel, by decide +kernel⟩
theorem zf6 : (defScope s_checked_tie).names.lookup (Str.ofString "checked_places") = some NameKind.globalImplicit := by decide +kernel
theorem zf7 : (defScope s_checked_tie).names.lookup (Str.ofString "checked_sign_name") = some NameKind.globalImplicit := by decide +kernel
theorem zf8 : (defScope s_checked_tie).names.lookup (Str.ofString "is_list") = some NameKind.globalImplicit := by decide +kernel
theorem zf9 : (defScope s_checked_tie).names.lookup (Str.ofString "kinds") = some NameKind.local := by decide +kernel
theorem zga : (defScope s_checked_tie).names.lookup (Str.ofString "len") = some NameKind.globalImplicit := by decide +kernel
theorem zgb : (defScope s_checked_tie).names.lookup (Str.ofString "name") = some NameKind.local := by decide +kernel
theorem zgc : (defScope s_checked_tie).names.lookup (Str.ofString "places") = some NameKind.local := by decide +kernel
theorem zgd : (defScope s_checked_tie).names.lookup (Str.ofString "tie") = some NameKind.local := by decide +kernel
def SgOk (ks : List Str) (nm : Str) (ps : List Str) : Prop := isSg nm ∧ ps.length ≤ 2 ∧ ∀ k ∈ ps, k ∈ ks
def spTie : Sp := fun vs H Q _ => ∃ (a b c : Addr) (ks ps : List Str) (nm : Str), vs = [.ref a, .ref b] ∧ LT H a (ks.map V.str) ∧ (∀ k ∈ ks, isNm k) ∧ LT H b [.str nm, .ref c] ∧ LT H c (ps.map V.str) ∧ SgOk ks nm ps ∧
 ∀ t u H', H' t = some (.tup [.str nm, .ref u]) → H' u = some (.tup (ps.map V.str)) → Same H H' → Q (.ref t) H'
theorem ok_tie (F : FunAt K mg "checked_tie" s_checked_tie ["kinds", "tie"]) (Z : Bl mg) (D_is_list : Def P w K mg base "is_list" 1 ["thing"] spIsList) (D_checked_sign_name : Def P w K mg base "checked_sign_name" 2 ["name"] spSignName) (D_checked_places : Def P w K mg base "checked_places" 3 ["kinds", "places"] spPlaces) :
  Def P w K mg base "checked_tie" 4 ["kinds", "tie"] spTie := by
 have SC := zf5
 refine F.mk' (k := 3) zf5 (fun vs H Q E h => ?_) (fun f cdv A outer s H vs Q E hr h => ?_)
 ·obtain ⟨a, b, c, ks, ps, nm, rfl, _⟩ := h
  rfl
 ·obtain ⟨a, b, c, ks, ps, nm, rfl, hA, hnm, hB, hC, ⟨hs, h2, hin⟩, q⟩ := h
  refine' ⟨_, ?derivation, ?_⟩
  case derivation =>
   refine' pss_cons ?ka ?kb
   case ka =>
    refine' ps_if ?kc ?kd pss_nil
    case kc =>
     refine' PW.pt ?ke
     case ke =>
      refine' pw_or ?kf ?kg
      case kf =>
       refine' pt_not ?kh
       case kh =>
        refine' pt_val ?ki ?kj
        case ki =>
         refine' pe_def (hdb := zd5) ?kk ?kl ?km ?kn ?ko ?kp
         case kk => exact D_is_list
         case kl => exact (hr.mono (by decide))
         case km => exact zf8
         case kn =>
          refine' pa_cons ?kq pa_nil ?kr
          case kq => exact (pq 1 (visL zgd) zer zes)
          case kr => rfl
         case ko => rfl
         case kp => rfl
        case kj => intro _; rfl
      case kg =>
       refine' pw_or1 ?ks
       case ks =>
        refine' pt_cmpR ?kt ?ku ?kv ?kw
        case kt => exact op_ne
        case ku =>
         refine' pe_callB (hn := zbw) (hdb := zbv) ?kx ?ky ?kz ?kba ?kbb ?kbc ?kbd
         case kx => exact call_len_seq
         case ky => exact zga
         case kz => exact Z.n_len
         case kba => exact bt_len
         case kbb =>
          refine' pa_cons ?kbe pa_nil ?kbf
          case kbe => exact (pq 1 (visL zgd) zer zes)
          case kbf => rfl
         case kbc => rfl
         case kbd => rfl
        case kv => exact pe_int
        case kw => exact (nomark _)
    case kd =>
     refine' pss_one ?kbg
     case kbg => exact ps_never
   case kb =>
    refine' pss_cons ?kbh ?kbi
    case kbh =>
     refine' ps_asg ?kbj ?kbk ?kbl ?kbm ?kbn
     case kbj => exact (pq 1 (visL zgd) zer zes)
     case kbk =>
      refine' pg_seq ?kbo ?kbp ?kbq ?kbr
      case kbo => exact rfl
      case kbp =>
       refine' pgs_cons ?kbs ?kbt ?kbu
       case kbs =>
        refine' pg_name (i := 2) (x := Str.ofString "name") ?kbv ?kbw ?kbx ?kby
        case kbv => exact SC.nd
        case kbw => exact rfl
        case kbx => exact (Or.inl zgb)
        case kby => exact (.inl rfl)
       case kbt =>
        refine' pgs_cons ?kbz pgs_nil ?kca
        case kbz =>
         refine' pg_name (i := 3) (x := Str.ofString "places") ?kcb ?kcc ?kcd ?kce
         case kcb => exact SC.nd
         case kcc => exact rfl
         case kcd => exact (Or.inl zgc)
         case kce => exact (.inl rfl)
        case kca => rfl
       case kbu => rfl
      case kbq => rfl
      case kbr => rfl
     case kbl => rfl
     case kbm => rfl
     case kbn => rfl
    case kbi =>
     refine' pss_one ?kcf
     case kcf =>
      refine' ps_ret ?kcg
      case kcg =>
       refine' pe_tup ?kch
       case kch =>
        refine' pa_cons ?kci ?kcj ?kck
        case kci =>
         refine' pe_def (hdb := zd2) ?kcl ?kcm ?kcn ?kco ?kcp ?kcq
         case kcl => exact D_checked_sign_name
         case kcm => exact (hr.mono (by decide))
         case kcn => exact zf7
         case kco =>
          refine' pa_cons ?kcr pa_nil ?kcs
          case kcr => exact (pq 2 (visL zgb) zed zee)
          case kcs => rfl
         case kcp => rfl
         case kcq => rfl
        case kcj =>
         refine' pa_cons ?kct pa_nil ?kcu
         case kct =>
          refine' pe_def (hdb := zd1) ?kcv ?kcw ?kcx ?kcy ?kcz ?kda
          case kcv => exact D_checked_places
          case kcw => exact (hr.mono (by decide))
          case kcx => exact zf6
          case kcy =>
           refine' pa_cons ?kdb ?kdc ?kdd
           case kdb => exact (pq 0 (visL zf9) zeb zec)
           case kdc =>
            refine' pa_cons ?kde pa_nil ?kdf
            case kde => exact (pq 3 (visL zgc) zeh zei)
            case kdf => rfl
           case kdd => rfl
          case kcz => rfl
          case kda => rfl
         case kcu => rfl
        case kck => rfl
  refine ⟨_, rfl, b, _, rfl, hB, fun H1 s1 => ⟨true, rfl, iteF ?_⟩⟩
  refine ⟨_, rfl, b, _, rfl, (hB.same s1).sq, rfl, _, rfl, ifF (by simp) ?_⟩
  refine ⟨_, rfl, b, _, rfl, (hB.same s1).sq, rfl, _, _, rfl, _, _, rfl, rfl, ?_⟩
  refine ⟨_, rfl, nm, rfl, hs, fun H2 s2 => ?_⟩
  have s02 := s1.trans s2
  refine ⟨_, rfl, _, rfl, a, c, ks, ps, rfl, hA.same s02, hnm, hC.same s02, h2, hin, fun u H3 hu s3 => ?_⟩
  refine ⟨by show 2 ≤ sizeLine; decide, fun t ht => ?_⟩
  exact q t u _ upd_same (same_new ht _ _ _ hu) ((s02.trans s3).trans (same_new ht _))
abbrev s_checked_function : Stmt := top 28
theorem zge : FnScope ["kinds", "function", "name", "places", "kind"] ["kinds", "function"] (defScope s_checked_function) := ⟨rfl, rfl, rfl, by decide +kernel, rfl, by decide +kernel, by decide +kernel⟩
theorem zgf : (defScope s_checked_function).names.lookup (Str.ofString "checked_kind") = some NameKind.globalImplicit := by decide +kernel
theorem zgg : (defScope s_checked_function).names.lookup (Str.ofString "checked_places") = some NameKind.globalImplicit := by decide +kernel
theorem zgh : (defScope s_checked_function).names.lookup (Str.ofString "checked_sign_name") = some NameKind.globalImplicit := by decide +kernel
theorem zgi : (defScope s_checked_function).names.lookup (Str.ofString "function") = some NameKind.local := by decide +kernel
theorem zgj : (defScope s_checked_function).names.lookup (Str.ofString "is_list") = some NameKind.globalImplicit := by decide +kernel
theorem zgk : (defScope s_checked_function).names.lookup (Str.ofString "kind") = some NameKind.local := by decide +kernel
theorem zgl : (defScope s_checked_function).names.lookup (Str.ofString "kinds") = some NameKind.local := by decide +kernel
theorem zgm : (defScope s_checked_function).names.lookup (Str.ofString "len") = some NameKind.globalImplicit := by decide +kernel
theorem zgn : (defScope s_checked_function).names.lookup (Str.ofString "name") = some NameKind.local := by decide +kernel
theorem zgo : (defScope s_checked_function).names.lookup (Str.ofString "places") = some NameKind.local := by decide +kernel
def spFunc : Sp := fun vs H Q _ => ∃ (a b c : Addr) (ks ps : List Str) (nm kd : Str), vs = [.ref a, .ref b] ∧ LT H a (ks.map V.str) ∧ (∀ k ∈ ks, isNm k) ∧ LT H b [.str nm, .ref c, .str kd] ∧ LT H c (ps.map V.str) ∧ SgOk ks nm ps ∧ kd ∈ ks ∧
 ∀ t u H', H' t = some (.tup [.str nm, .ref u, .str kd]) → H' u = some (.tup (ps.map V.str)) → Same H H' → Q (.ref t) H'
theorem ok_func (F : FunAt K mg "checked_function" s_checked_function ["kinds", "function"]) (Z : Bl mg) (D_is_list : Def P w K mg base "is_list" 1 ["thing"] spIsList) (D_checked_sign_name : Def P w K mg base "checked_sign_name" 2 ["name"] spSignName) (D_checked_places : Def P w K mg base "checked_places" 3 ["kinds", "places"] spPlaces)
  (D_checked_kind : Def P w K mg base "checked_kind" 2 ["kinds", "kind"] spKind) : Def P w K mg base "checked_function" 4 ["kinds", "function"] spFunc := by
 have SC := zge
 refine F.mk' (k := 3) zge (fun vs H Q E h => ?_) (fun f cdv A outer s H vs Q E hr h => ?_)
 ·obtain ⟨a, b, c, ks, ps, nm, kd, rfl, _⟩ := h
  rfl
 ·obtain ⟨a, b, c, ks, ps, nm, kd, rfl, hA, hnm, hB, hC, ⟨hs, h2, hin⟩, hkd, q⟩ := h
  refine' ⟨_, ?derivation, ?_⟩
  case derivation =>
   refine' pss_cons ?ka ?kb
   case ka =>
    refine' ps_if ?kc ?kd pss_nil
    case kc =>
     refine' PW.pt ?ke
     case ke =>
      refine' pw_or ?kf ?kg
      case kf =>
       refine' pt_not ?kh
       case kh =>
        refine' pt_val ?ki ?kj
        case ki =>
         refine' pe_def (hdb := zd5) ?kk ?kl ?km ?kn ?ko ?kp
         case kk => exact D_is_list
         case kl => exact (hr.mono (by decide))
         case km => exact zgj
         case kn =>
          refine' pa_cons ?kq pa_nil ?kr
          case kq => exact (pq 1 (visL zgi) zd3 zd4)
          case kr => rfl
         case ko => rfl
         case kp => rfl
        case kj => intro _; rfl
      case kg =>
       refine' pw_or1 ?ks
       case ks =>
        refine' pt_cmpR ?kt ?ku ?kv ?kw
        case kt => exact op_ne
        case ku =>
         refine' pe_callB (hn := zbw) (hdb := zbv) ?kx ?ky ?kz ?kba ?kbb ?kbc ?kbd
         case kx => exact call_len_seq
         case ky => exact zgm
         case kz => exact Z.n_len
         case kba => exact bt_len
         case kbb =>
          refine' pa_cons ?kbe pa_nil ?kbf
          case kbe => exact (pq 1 (visL zgi) zd3 zd4)
          case kbf => rfl
         case kbc => rfl
         case kbd => rfl
        case kv => exact pe_int
        case kw => exact (nomark _)
    case kd =>
     refine' pss_one ?kbg
     case kbg => exact ps_never
   case kb =>
    refine' pss_cons ?kbh ?kbi
    case kbh =>
     refine' ps_asg ?kbj ?kbk ?kbl ?kbm ?kbn
     case kbj => exact (pq 1 (visL zgi) zd3 zd4)
     case kbk =>
      refine' pg_seq ?kbo ?kbp ?kbq ?kbr
      case kbo => exact rfl
      case kbp =>
       refine' pgs_cons ?kbs ?kbt ?kbu
       case kbs =>
        refine' pg_name (i := 2) (x := Str.ofString "name") ?kbv ?kbw ?kbx ?kby
        case kbv => exact SC.nd
        case kbw => exact rfl
        case kbx => exact (Or.inl zgn)
        case kby => exact (.inl rfl)
       case kbt =>
        refine' pgs_cons ?kbz ?kca ?kcb
        case kbz =>
         refine' pg_name (i := 3) (x := Str.ofString "places") ?kcc ?kcd ?kce ?kcf
         case kcc => exact SC.nd
         case kcd => exact rfl
         case kce => exact (Or.inl zgo)
         case kcf => exact (.inl rfl)
        case kca =>
         refine' pgs_cons ?kcg pgs_nil ?kch
         case kcg =>
          refine' pg_name (i := 4) (x := Str.ofString "kind") ?kci ?kcj ?kck ?kcl
          case kci => exact SC.nd
          case kcj => exact rfl
          case kck => exact (Or.inl zgk)
          case kcl => exact (.inl rfl)
         case kch => rfl
        case kcb => rfl
       case kbu => rfl
      case kbq => rfl
      case kbr => rfl
     case kbl => rfl
     case kbm => rfl
     case kbn => rfl
    case kbi =>
     refine' pss_one ?kcm
     case kcm =>
      refine' ps_ret ?kcn
      case kcn =>
       refine' pe_tup ?kco
       case kco =>
        refine' pa_cons ?kcp ?kcq ?kcr
        case kcp =>
         refine' pe_def (hdb := zd2) ?kcs ?kct ?kcu ?kcv ?kcw ?kcx
         case kcs => exact D_checked_sign_name
         case kct => exact (hr.mono (by decide))
         case kcu => exact zgh
         case kcv =>
          refine' pa_cons ?kcy pa_nil ?kcz
          case kcy => exact (pq 2 (visL zgn) zed zee)
          case kcz => rfl
         case kcw => rfl
         case kcx => rfl
        case kcq =>
         refine' pa_cons ?kda ?kdb ?kdc
         case kda =>
          refine' pe_def (hdb := zd1) ?kdd ?kde ?kdf ?kdg ?kdh ?kdi
          case kdd => exact D_checked_places
          case kde => exact (hr.mono (by decide))
          case kdf => exact zgg
          case kdg =>
           refine' pa_cons ?kdj ?kdk ?kdl
           case kdj => exact (pq 0 (visL zgl) zeb zec)
           case kdk =>
            refine' pa_cons ?kdm pa_nil ?kdn
            case kdm => exact (pq 3 (visL zgo) zeh zei)
            case kdn => rfl
           case kdl => rfl
          case kdh => rfl
          case kdi => rfl
         case kdb =>
          refine' pa_cons ?kdo pa_nil ?kdp
          case kdo =>
           refine' pe_def (hdb := zd0) ?kdq ?kdr ?kds ?kdt ?kdu ?kdv
           case kdq => exact D_checked_kind
           case kdr => exact (hr.mono (by decide))
           case kds => exact zgf
           case kdt =>
            refine' pa_cons ?kdw ?kdx ?kdy
            case kdw => exact (pq 0 (visL zgl) zeb zec)
            case kdx =>
             refine' pa_cons ?kdz pa_nil ?kea
             case kdz => exact (pq 4 (visL zgk) zd9 zea)
             case kea => rfl
            case kdy => rfl
           case kdu => rfl
           case kdv => rfl
          case kdp => rfl
         case kdc => rfl
        case kcr => rfl
  refine ⟨_, rfl, b, _, rfl, hB, fun H1 s1 => ⟨true, rfl, iteF ?_⟩⟩
  refine ⟨_, rfl, b, _, rfl, (hB.same s1).sq, rfl, _, rfl, ifF (by simp) ?_⟩
  refine ⟨_, rfl, b, _, rfl, (hB.same s1).sq, rfl, _, _, rfl, _, _, rfl, _, _, rfl, rfl, ?_⟩
  refine ⟨_, rfl, nm, rfl, hs, fun H2 s2 => ?_⟩
  have s02 := s1.trans s2
  refine ⟨_, rfl, _, rfl, a, c, ks, ps, rfl, hA.same s02, hnm, hC.same s02, h2, hin, fun u H3 hu s3 => ?_⟩
  have s03 := s02.trans s3
  refine ⟨_, rfl, _, rfl, a, ks, kd, rfl, hA.same s03, hnm kd hkd, hkd, fun H4 s4 => ?_⟩
  refine ⟨by show 3 ≤ sizeLine; decide, fun t ht => ?_⟩
  exact q t u _ upd_same (same_new ht _ _ _ (s4 _ _ hu)) ((s03.trans s4).trans (same_new ht _))
end
end Few

set_option Elab.async false
set_option linter.all false
set_option maxRecDepth 100000
set_option maxHeartbeats 1000000
namespace Few
open PySem L2
theorem zgp : ((Str.ofString "MOST_SIGNS" : Str) == ("__debug__" : Str)) = false := by decide +kernel
theorem zgq : ((Str.ofString "checked_function" : Str) == ("__debug__" : Str)) = false := by decide +kernel
theorem zgr : ((Str.ofString "checked_kinds" : Str) == ("__debug__" : Str)) = false := by decide +kernel
theorem zgs : ((Str.ofString "checked_tie" : Str) == ("__debug__" : Str)) = false := by decide +kernel
theorem zgt : ((Str.ofString "functions" : Str) == ("__debug__" : Str)) = false := by decide +kernel
theorem zgu : ((Str.ofString "functions" : Str) == ("__classdict__" : Str)) = false := by decide +kernel
theorem zgv : ((Str.ofString "self" : Str) == ("__debug__" : Str)) = false := by decide +kernel
theorem zgw : ((Str.ofString "self" : Str) == ("__classdict__" : Str)) = false := by decide +kernel
theorem zgx : ((Str.ofString "ties" : Str) == ("__debug__" : Str)) = false := by decide +kernel
theorem zgy : ((Str.ofString "ties" : Str) == ("__classdict__" : Str)) = false := by decide +kernel
def SignsAt (C : Addr) (H : Hp) (x : Addr) (ks : List Str) (ts : List TieR) (fs : List FunR) : Prop :=
 ∃ dx kt tt ft tv fv, H x = some (.ins C dx (flF kt tt ft)) ∧ H kt = some (.tup (ks.map V.str)) ∧ H tt = some (.tup tv) ∧ RdA Any H tv (ts.map tieT) ∧ H ft = some (.tup fv) ∧ RdA Any H fv (fs.map funT)
theorem strs_tup : ∀ ws : List Str, tupOnlyA (strsD ws) = true
 | [] => rfl
 | x :: r => by
  show (tupOnly (PyData.str x) && tupOnlyA (strsD r)) = true
  rw [strs_tup r]; rfl
theorem tieT_tup (t : TieR) : tupOnly (tieT t) = true := by
 show (true && (tupOnlyA (strsD t.ps) && true)) = true
 rw [strs_tup]; rfl
theorem funT_tup (t : FunR) : tupOnly (funT t) = true := by
 show (true && (tupOnlyA (strsD t.ps) && (true && true))) = true
 rw [strs_tup]; rfl
theorem ties_tup : ∀ ts : List TieR, tupOnlyA (ts.map tieT) = true
 | [] => rfl
 | x :: r => by
  show (tupOnly (tieT x) && tupOnlyA (r.map tieT)) = true
  rw [ties_tup r, tieT_tup]; rfl
theorem funs_tup : ∀ ts : List FunR, tupOnlyA (ts.map funT) = true
 | [] => rfl
 | x :: r => by
  show (tupOnly (funT x) && tupOnlyA (r.map funT)) = true
  rw [funs_tup r, funT_tup]; rfl
theorem SignsAt.keep {C : Addr} {H H' : Hp} {x : Addr} {ks : List Str} {ts : List TieR} {fs : List FunR} (h : SignsAt C H x ks ts fs) (hx : ∀ o, H x = some o → H' x = some o) (ht : Tups H H') : SignsAt C H' x ks ts fs := by
 obtain ⟨dx, kt, tt, ft, tv, fv, h1, h2, h3, h4, h5, h6⟩ := h
 exact ⟨dx, kt, tt, ft, tv, fv, hx _ h1, ht _ _ h2, ht _ _ h3, h4.monoT (fun _ z => z) ht (ties_tup ts), ht _ _ h5, h6.monoT (fun _ z => z) ht (funs_tup fs)⟩
def nmD : PyData → Str
 | .tuple (.str n :: _) => n
 | _ => Str.empty
theorem nm_ties (ts : List TieR) : (ts.map tieT).map nmD = ts.map (·.nm) := by rw [List.map_map]; rfl
theorem nm_funs (ts : List FunR) : (ts.map funT).map nmD = ts.map (·.nm) := by rw [List.map_map]; rfl
theorem rows_nm {ts : List TieR} {fs : List FunR} {d : PyData} (h : d ∈ ts.map tieT ++ fs.map funT) : ∃ r, d = .tuple (.str (nmD d) :: r) := by
 rcases List.mem_append.mp h with h | h
 ·obtain ⟨t, _, rfl⟩ := List.mem_map.mp h
  exact ⟨_, rfl⟩
 ·obtain ⟨t, _, rfl⟩ := List.mem_map.mp h
  exact ⟨_, rfl⟩
section
variable {P : Program} {w : World} {K : PySem.W.Frag} {mg : Str → Option Value} {base : Heap}
abbrev s_kinds : Stmt := inClass (top 25) 1
theorem zgz : FnScope ["self"] ["self"] (defScope s_kinds) := ⟨rfl, rfl, rfl, by decide +kernel, rfl, by decide +kernel, by decide +kernel⟩
theorem zg0 : (defScope s_kinds).names.lookup (Str.ofString "list") = some NameKind.globalImplicit := by decide +kernel
theorem zg1 : (defScope s_kinds).names.lookup (Str.ofString "self") = some NameKind.local := by decide +kernel
def spTellK (C : Addr) : Sp := fun vs H Q _ => ∃ (x : Addr) (ks : List Str) (ts : List TieR) (fs : List FunR), vs = [.ref x] ∧ SignsAt C H x ks ts fs ∧ ∀ l, H l = none → Q (.ref l) (upd H l (.lst (ks.map V.str)))
theorem ok_tellK {f C : Addr} {fd : FuncData} (F : Fun K "kinds" "Signs.kinds" s_kinds f fd) (Z : Bl mg) (T : ClS K C) : FnOk P w K mg base CX0 1 f fd ["self"] (spTellK C) := by
 have SC := zgz
 refine F.ok zgz (fun vs H Q E h => ?_) (fun cdv A outer s H vs Q E hr h => ?_)
 ·obtain ⟨x, ks, ts, fs, rfl, _⟩ := h
  rfl
 ·obtain ⟨x, ks, ts, fs, rfl, ⟨dx, kt, tt, ft, tv, fv, h1, h2, h3, h4, h5, h6⟩, q⟩ := h
  refine' ⟨_, ?derivation, ?_⟩
  case derivation =>
   refine' pss_one ?ka
   case ka =>
    refine' ps_ret ?kb
    case kb =>
     refine' pe_callTy (hn := zby) (hdb := zbx) ?kc ?kd ?ke ?kf ?kg ?kh ?ki
     case kc => exact call_list_of
     case kd => exact zg0
     case ke => exact Z.n_list
     case kf => exact bt_list
     case kg =>
      refine' pa_cons ?kj pa_nil ?kk
      case kj =>
       refine' pe_fld ?kl ?km
       case kl => exact (pq 0 (visL zg1) zgv zgw)
       case km => exact rfl
      case kk => rfl
     case kh => rfl
     case ki => rfl
  exact ⟨_, rfl, x, C, dx, _, _, rfl, h1, T.cl, T.nK, flF_kinds _ _ _, kt, _, rfl, .inr (SqT.of h2), q⟩
abbrev s_ties : Stmt := inClass (top 25) 2
theorem zg2 : FnScope ["self"] ["self"] (defScope s_ties) := ⟨rfl, rfl, rfl, by decide +kernel, rfl, by decide +kernel, by decide +kernel⟩
theorem zg3 : (defScope s_ties).names.lookup (Str.ofString "list") = some NameKind.globalImplicit := by decide +kernel
theorem zg4 : (defScope s_ties).names.lookup (Str.ofString "self") = some NameKind.local := by decide +kernel
def spTellT (C : Addr) : Sp := fun vs H Q _ => ∃ (x : Addr) (ks : List Str) (ts : List TieR) (fs : List FunR), vs = [.ref x] ∧ SignsAt C H x ks ts fs ∧ ∀ l tv, H l = none → RdA Any H tv (ts.map tieT) → Q (.ref l) (upd H l (.lst tv))
theorem ok_tellT {f C : Addr} {fd : FuncData} (F : Fun K "ties" "Signs.ties" s_ties f fd) (Z : Bl mg) (T : ClS K C) : FnOk P w K mg base CX0 1 f fd ["self"] (spTellT C) := by
 have SC := zg2
 refine F.ok zg2 (fun vs H Q E h => ?_) (fun cdv A outer s H vs Q E hr h => ?_)
 ·obtain ⟨x, ks, ts, fs, rfl, _⟩ := h
  rfl
 ·obtain ⟨x, ks, ts, fs, rfl, ⟨dx, kt, tt, ft, tv, fv, h1, h2, h3, h4, h5, h6⟩, q⟩ := h
  refine' ⟨_, ?derivation, ?_⟩
  case derivation =>
   refine' pss_one ?ka
   case ka =>
    refine' ps_ret ?kb
    case kb =>
     refine' pe_callTy (hn := zby) (hdb := zbx) ?kc ?kd ?ke ?kf ?kg ?kh ?ki
     case kc => exact call_list_of
     case kd => exact zg3
     case ke => exact Z.n_list
     case kf => exact bt_list
     case kg =>
      refine' pa_cons ?kj pa_nil ?kk
      case kj =>
       refine' pe_fld ?kl ?km
       case kl => exact (pq 0 (visL zg4) zgv zgw)
       case km => exact rfl
      case kk => rfl
     case kh => rfl
     case ki => rfl
  exact ⟨_, rfl, x, C, dx, _, _, rfl, h1, T.cl, T.nT, flF_ties _ _ _, tt, _, rfl, .inr (SqT.of h3), fun l hl => q l tv hl h4⟩
abbrev s_functions : Stmt := inClass (top 25) 3
theorem zg5 : FnScope ["self"] ["self"] (defScope s_functions) := ⟨rfl, rfl, rfl, by decide +kernel, rfl, by decide +kernel, by decide +kernel⟩
theorem zg6 : (defScope s_functions).names.lookup (Str.ofString "list") = some NameKind.globalImplicit := by decide +kernel
theorem zg7 : (defScope s_functions).names.lookup (Str.ofString "self") = some NameKind.local := by decide +kernel
def spTellF (C : Addr) : Sp := fun vs H Q _ => ∃ (x : Addr) (ks : List Str) (ts : List TieR) (fs : List FunR), vs = [.ref x] ∧ SignsAt C H x ks ts fs ∧ ∀ l fv, H l = none → RdA Any H fv (fs.map funT) → Q (.ref l) (upd H l (.lst fv))
theorem ok_tellF {f C : Addr} {fd : FuncData} (F : Fun K "functions" "Signs.functions" s_functions f fd) (Z : Bl mg) (T : ClS K C) : FnOk P w K mg base CX0 1 f fd ["self"] (spTellF C) := by
 have SC := zg5
 refine F.ok zg5 (fun vs H Q E h => ?_) (fun cdv A outer s H vs Q E hr h => ?_)
 ·obtain ⟨x, ks, ts, fs, rfl, _⟩ := h
  rfl
 ·obtain ⟨x, ks, ts, fs, rfl, ⟨dx, kt, tt, ft, tv, fv, h1, h2, h3, h4, h5, h6⟩, q⟩ := h
  refine' ⟨_, ?derivation, ?_⟩
  case derivation =>
   refine' pss_one ?ka
   case ka =>
    refine' ps_ret ?kb
    case kb =>
     refine' pe_callTy (hn := zby) (hdb := zbx) ?kc ?kd ?ke ?kf ?kg ?kh ?ki
     case kc => exact call_list_of
     case kd => exact zg6
     case ke => exact Z.n_list
     case kf => exact bt_list
     case kg =>
      refine' pa_cons ?kj pa_nil ?kk
      case kj =>
       refine' pe_fld ?kl ?km
       case kl => exact (pq 0 (visL zg7) zgv zgw)
       case km => exact rfl
      case kk => rfl
     case kh => rfl
     case ki => rfl
  exact ⟨_, rfl, x, C, dx, _, _, rfl, h1, T.cl, T.nF, flF_funs _ _ _, ft, _, rfl, .inr (SqT.of h5), fun l hl => q l fv hl h6⟩
abbrev s__init__ : Stmt := inClass (top 25) 0
theorem zg8 : FnScope ["self", "kinds", "ties", "functions"] ["self", "kinds", "ties", "functions"] (defScope s__init__) := ⟨rfl, rfl, rfl, by decide +kernel, rfl, by decide +kernel, by decide +kernel⟩
theorem zg9 : (defScope s__init__).names.lookup (Str.ofString "MOST_SIGNS") = some NameKind.globalImplicit := by decide +kernel
theorem zha : (defScope s__init__).names.lookup (Str.ofString "check_apart") = some NameKind.globalImplicit := by decide +kernel
theorem zhb : (defScope s__init__).names.lookup (Str.ofString "checked_kinds") = some NameKind.globalImplicit := by decide +kernel
theorem zhc : (defScope s__init__).names.lookup (Str.ofString "functions") = some NameKind.local := by decide +kernel
theorem zhd : (defScope s__init__).names.lookup (Str.ofString "is_list") = some NameKind.globalImplicit := by decide +kernel
theorem zhe : (defScope s__init__).names.lookup (Str.ofString "kinds") = some NameKind.local := by decide +kernel
theorem zhf : (defScope s__init__).names.lookup (Str.ofString "len") = some NameKind.globalImplicit := by decide +kernel
theorem zhg : (defScope s__init__).names.lookup (Str.ofString "self") = some NameKind.cell := by decide +kernel
theorem zhh : (defScope s__init__).names.lookup (Str.ofString "ties") = some NameKind.local := by decide +kernel
theorem zhi : (defScope s__init__).names.lookup (Str.ofString "tuple") = some NameKind.globalImplicit := by decide +kernel
theorem zhj : CompSc 1 ["sign", "self", "kinds", "ties", "functions"] ["self", "kinds", "ties", "functions"] (defScope s__init__) { kind := PySem.ScopeKind.function, names := [(PySem.Str.ofString ".0", PySem.NameKind.local), (PySem.Str.ofString "sign", PySem.NameKind.local)], isGenerator := false, isCoroutine := false, more := [] : PySem.Scope } := ⟨rfl, by decide +kernel, by decide +kernel, by decide +kernel, by decide +kernel, rfl, by decide +kernel⟩
theorem zhk : ({ kind := PySem.ScopeKind.function, names := [(PySem.Str.ofString ".0", PySem.NameKind.local), (PySem.Str.ofString "sign", PySem.NameKind.local)], isGenerator := false, isCoroutine := false, more := [] : PySem.Scope } : Scope).names.lookup (Str.ofString "sign") = some NameKind.local := by decide +kernel
theorem zhl : CompSc 1 ["function", "self", "kinds", "ties", "functions"] ["self", "kinds", "ties", "functions"] (defScope s__init__) { kind := PySem.ScopeKind.function, names := [ (PySem.Str.ofString ".0", PySem.NameKind.local), (PySem.Str.ofString "function", PySem.NameKind.local), (PySem.Str.ofString "checked_function", PySem.NameKind.globalImplicit), (PySem.Str.ofString "self", PySem.NameKind.free)], isGenerator := false, isCoroutine := false, more := [] : PySem.Scope } := ⟨rfl, by decide +kernel, by decide +kernel, by decide +kernel, by decide +kernel, rfl, by decide +kernel⟩
theorem zhm : ({ kind := PySem.ScopeKind.function, names := [ (PySem.Str.ofString ".0", PySem.NameKind.local), (PySem.Str.ofString "function", PySem.NameKind.local), (PySem.Str.ofString "checked_function", PySem.NameKind.globalImplicit), (PySem.Str.ofString "self", PySem.NameKind.free)], isGenerator := false, isCoroutine := false, more := [] : PySem.Scope } : Scope).names.lookup (Str.ofString "checked_function") = some NameKind.globalImplicit := by decide +kernel
theorem zhn : ({ kind := PySem.ScopeKind.function, names := [ (PySem.Str.ofString ".0", PySem.NameKind.local), (PySem.Str.ofString "function", PySem.NameKind.local), (PySem.Str.ofString "checked_function", PySem.NameKind.globalImplicit), (PySem.Str.ofString "self", PySem.NameKind.free)], isGenerator := false, isCoroutine := false, more := [] : PySem.Scope } : Scope).names.lookup (Str.ofString "function") = some NameKind.local := by decide +kernel
theorem zho : ({ kind := PySem.ScopeKind.function, names := [ (PySem.Str.ofString ".0", PySem.NameKind.local), (PySem.Str.ofString "function", PySem.NameKind.local), (PySem.Str.ofString "checked_function", PySem.NameKind.globalImplicit), (PySem.Str.ofString "self", PySem.NameKind.free)], isGenerator := false, isCoroutine := false, more := [] : PySem.Scope } : Scope).names.lookup (Str.ofString "self") = some NameKind.free := by decide +kernel
theorem zhp : CompSc 1 ["tie", "self", "kinds", "ties", "functions"] ["self", "kinds", "ties", "functions"] (defScope s__init__) { kind := PySem.ScopeKind.function, names := [ (PySem.Str.ofString ".0", PySem.NameKind.local), (PySem.Str.ofString "tie", PySem.NameKind.local), (PySem.Str.ofString "checked_tie", PySem.NameKind.globalImplicit), (PySem.Str.ofString "self", PySem.NameKind.free)], isGenerator := false, isCoroutine := false, more := [] : PySem.Scope } := ⟨rfl, by decide +kernel, by decide +kernel, by decide +kernel, by decide +kernel, rfl, by decide +kernel⟩
theorem zhq : ({ kind := PySem.ScopeKind.function, names := [ (PySem.Str.ofString ".0", PySem.NameKind.local), (PySem.Str.ofString "tie", PySem.NameKind.local), (PySem.Str.ofString "checked_tie", PySem.NameKind.globalImplicit), (PySem.Str.ofString "self", PySem.NameKind.free)], isGenerator := false, isCoroutine := false, more := [] : PySem.Scope } : Scope).names.lookup (Str.ofString "checked_tie") = some NameKind.globalImplicit := by decide +kernel
theorem zhr : ({ kind := PySem.ScopeKind.function, names := [ (PySem.Str.ofString ".0", PySem.NameKind.local), (PySem.Str.ofString "tie", PySem.NameKind.local), (PySem.Str.ofString "checked_tie", PySem.NameKind.globalImplicit), (PySem.Str.ofString "self", PySem.NameKind.free)], isGenerator := false, isCoroutine := false, more := [] : PySem.Scope } : Scope).names.lookup (Str.ofString "self") = some NameKind.free := by decide +kernel
theorem zhs : ({ kind := PySem.ScopeKind.function, names := [ (PySem.Str.ofString ".0", PySem.NameKind.local), (PySem.Str.ofString "tie", PySem.NameKind.local), (PySem.Str.ofString "checked_tie", PySem.NameKind.globalImplicit), (PySem.Str.ofString "self", PySem.NameKind.free)], isGenerator := false, isCoroutine := false, more := [] : PySem.Scope } : Scope).names.lookup (Str.ofString "tie") = some NameKind.local := by decide +kernel
def spInit (C : Addr) : Sp := fun vs H Q _ => ∃ (x dx a b c : Addr) (ab cd : List (Addr × Addr)) (ks : List Str) (ts : List TieR) (fs : List FunR), vs = [.ref x, .ref a, .ref b, .ref c] ∧ H x = some (.ins C dx []) ∧ LT H a (ks.map V.str) ∧
 LT H b (ab.map fun q => V.ref q.1) ∧ Sgs H ab (ts.map tieRow) ∧ LT H c (cd.map fun q => V.ref q.1) ∧ Sgs H cd (fs.map funRow) ∧ BookOk ks ts fs ∧ ∀ H', SignsAt C H' x ks ts fs → SameX x H H' → Q .non H'
theorem LT.neIns {H : Hp} {a x C dx : Addr} {xs : List V} {fl : List (Str × V)} (h : LT H a xs) (hx : H x = Option.some (.ins C dx fl)) : a ≠ x := by
 rintro rfl
 rcases h with h | h <;> (rw [h] at hx; cases hx)
theorem ok_init {f C : Addr} {fd : FuncData} (F : Fun K "__init__" "Signs.__init__" s__init__ f fd) (Z : Bl mg) (G : Gs K mg) (T : ClS K C) (D_is_list : Def P w K mg base "is_list" 1 ["thing"] spIsList) (D_checked_kinds : Def P w K mg base "checked_kinds" 2 ["kinds"] spKinds)
  (D_checked_tie : Def P w K mg base "checked_tie" 4 ["kinds", "tie"] spTie) (D_checked_function : Def P w K mg base "checked_function" 4 ["kinds", "function"] spFunc) (D_check_apart : Def P w K mg base "check_apart" 1 ["names"] spApart) :
  FnOk P w K mg base CX0 5 f fd ["self", "kinds", "ties", "functions"] (spInit C) := by
 have SC := zg8
 obtain ⟨_, g_MOST_SIGNS, r_MOST_SIGNS⟩ := G.msigns
 refine F.ok zg8 (fun vs H Q E h => ?_) (fun cdv A outer s H vs Q E hr h => ?_)
 ·obtain ⟨x, dx, a, b, c, ab, cd, ks, ts, fs, rfl, _⟩ := h
  rfl
 ·obtain ⟨x, dx, a, b, c, ab, cd, ks, ts, fs, rfl, hx, hA, hB, sB, hC, sC, ok, q⟩ := h
  have nbx : b ≠ x := hB.neIns hx
  have ncx : c ≠ x := hC.neIns hx
  have abl : ab.length = ts.length := by rw [sB.length, List.length_map]
  have cdl : cd.length = fs.length := by rw [sC.length, List.length_map]
  have sl := ok.sl
  have sgx : ∀ {H' : Hp} {q : Addr × Addr} {r : RowR}, SameX x H H' → SgAt H q r → SgAt H' q r := fun s g => ⟨g.row.mono fun o e => s _ _ (g.row.neIns hx) e, g.plc.mono fun o e => s _ _ (g.plc.neIns hx) e⟩
  refine' ⟨_, ?derivation, ?_⟩
  case derivation =>
   refine' pss_cons ?ka ?kb
   case ka =>
    refine' ps_fld ?kc ?kd ?ke
    case kc => exact (pq 0 (visC zhg) zgv zgw)
    case kd =>
     refine' pe_def (hdb := zgr) ?kf ?kg ?kh ?ki ?kj ?kk
     case kf => exact D_checked_kinds
     case kg => exact (hr.mono (by decide))
     case kh => exact zhb
     case ki =>
      refine' pa_cons ?kl pa_nil ?km
      case kl => exact (pq 1 (visL zhe) zeb zec)
      case km => rfl
     case kj => rfl
     case kk => rfl
    case ke => exact rfl
   case kb =>
    refine' pss_cons ?kn ?ko
    case kn =>
     refine' ps_if ?kp ?kq pss_nil
     case kp =>
      refine' PW.pt ?kr
      case kr =>
       refine' pw_or ?ks ?kt
       case ks =>
        refine' pt_not ?ku
        case ku =>
         refine' pt_val ?kv ?kw
         case kv =>
          refine' pe_def (hdb := zd5) ?kx ?ky ?kz ?kba ?kbb ?kbc
          case kx => exact D_is_list
          case ky => exact (hr.mono (by decide))
          case kz => exact zhd
          case kba =>
           refine' pa_cons ?kbd pa_nil ?kbe
           case kbd => exact (pq 2 (visL zhh) zgx zgy)
           case kbe => rfl
          case kbb => rfl
          case kbc => rfl
         case kw => intro _; rfl
       case kt =>
        refine' pw_or1 ?kbf
        case kbf =>
         refine' pt_not ?kbg
         case kbg =>
          refine' pt_val ?kbh ?kbi
          case kbh =>
           refine' pe_def (hdb := zd5) ?kbj ?kbk ?kbl ?kbm ?kbn ?kbo
           case kbj => exact D_is_list
           case kbk => exact (hr.mono (by decide))
           case kbl => exact zhd
           case kbm =>
            refine' pa_cons ?kbp pa_nil ?kbq
            case kbp => exact (pq 3 (visL zhc) zgt zgu)
            case kbq => rfl
           case kbn => rfl
           case kbo => rfl
          case kbi => intro _; rfl
     case kq =>
      refine' pss_one ?kbr
      case kbr => exact ps_never
    case ko =>
     refine' pss_cons ?kbs ?kbt
     case kbs =>
      refine' ps_if ?kbu ?kbv pss_nil
      case kbu =>
       refine' pt_cmpR ?kbw ?kbx ?kby ?kbz
       case kbw => exact op_gt
       case kbx =>
        refine' pe_op ?kca ?kcb ?kcc
        case kca => exact op_add
        case kcb =>
         refine' pe_callB (hn := zbw) (hdb := zbv) ?kcd ?kce ?kcf ?kcg ?kch ?kci ?kcj
         case kcd => exact call_len_seq
         case kce => exact zhf
         case kcf => exact Z.n_len
         case kcg => exact bt_len
         case kch =>
          refine' pa_cons ?kck pa_nil ?kcl
          case kck => exact (pq 2 (visL zhh) zgx zgy)
          case kcl => rfl
         case kci => rfl
         case kcj => rfl
        case kcc =>
         refine' pe_callB (hn := zbw) (hdb := zbv) ?kcm ?kcn ?kco ?kcp ?kcq ?kcr ?kcs
         case kcm => exact call_len_seq
         case kcn => exact zhf
         case kco => exact Z.n_len
         case kcp => exact bt_len
         case kcq =>
          refine' pa_cons ?kct pa_nil ?kcu
          case kct => exact (pq 3 (visL zhc) zgt zgu)
          case kcu => rfl
         case kcr => rfl
         case kcs => rfl
       case kby =>
        refine' pe_glob (hd := zgp) ?kcv ?kcw ?kcx
        case kcv => exact zg9
        case kcw => exact g_MOST_SIGNS
        case kcx => exact r_MOST_SIGNS
       case kbz => exact (nomark _)
      case kbv =>
       refine' pss_one ?kcy
       case kcy => exact ps_never
     case kbt =>
      refine' pss_cons ?kcz ?kda
      case kcz =>
       refine' ps_fld ?kdb ?kdc ?kdd
       case kdb => exact (pq 0 (visC zhg) zgv zgw)
       case kdc =>
        refine' pe_callTy (hn := zeu) (hdb := zet) ?kde ?kdf ?kdg ?kdh ?kdi ?kdj ?kdk
        case kde => exact call_tuple_of
        case kdf => exact zhi
        case kdg => exact Z.n_tuple
        case kdh => exact bt_tuple
        case kdi =>
         refine' pa_cons ?kdl pa_nil ?kdm
         case kdl =>
          refine' pe_comp ?kdn ?kdo ?kdp ?kdq ?kdr ?kds ?kdt
          case kdn => exact noxe
          case kdo => exact rfl
          case kdp => exact zhp.at
          case kdq =>
           refine' pi_seq ?kdu
           case kdu => exact (pq 2 (visL zhh) zgx zgy)
          case kdr =>
           intro _ _ _ _ _
           refine' pg_name (i := 0) ?kdv ?kdw ?kdx ?kdy
           case kdv => exact zhp.nd
           case kdw => exact rfl
           case kdx => exact (locO zhs)
           case kdy => exact (.inr (lookup_relabel_local zhs))
          case kds =>
           intro _ _ _ _ _
           refine' pe_def (hdb := zgs) ?kdz ?kea ?keb ?kec ?ked ?kee
           case kdz => exact D_checked_tie
           case kea => exact (hr.mono (by decide))
           case keb => exact (glO zhq)
           case kec =>
            refine' pa_cons ?kef ?keg ?keh
            case kef =>
             refine' pe_fld ?kei ?kej
             case kei => exact (pq 1 (visF zhr) zgv zgw)
             case kej => exact rfl
            case keg =>
             refine' pa_cons ?kek pa_nil ?kel
             case kek => exact (pq 0 (visO zhs) zer zes)
             case kel => rfl
            case keh => rfl
           case ked => rfl
           case kee => rfl
          case kdt => intro _; rfl
         case kdm => rfl
        case kdj => rfl
        case kdk => rfl
       case kdd => exact rfl
      case kda =>
       refine' pss_cons ?kem ?ken
       case kem =>
        refine' ps_fld ?keo ?kep ?keq
        case keo => exact (pq 0 (visC zhg) zgv zgw)
        case kep =>
         refine' pe_callTy (hn := zeu) (hdb := zet) ?ker ?kes ?ket ?keu ?kev ?kew ?kex
         case ker => exact call_tuple_of
         case kes => exact zhi
         case ket => exact Z.n_tuple
         case keu => exact bt_tuple
         case kev =>
          refine' pa_cons ?key pa_nil ?kez
          case key =>
           refine' pe_comp ?kfa ?kfb ?kfc ?kfd ?kfe ?kff ?kfg
           case kfa => exact noxe
           case kfb => exact rfl
           case kfc => exact zhl.at
           case kfd =>
            refine' pi_seq ?kfh
            case kfh => exact (pq 3 (visL zhc) zgt zgu)
           case kfe =>
            intro _ _ _ _ _
            refine' pg_name (i := 0) ?kfi ?kfj ?kfk ?kfl
            case kfi => exact zhl.nd
            case kfj => exact rfl
            case kfk => exact (locO zhn)
            case kfl => exact (.inr (lookup_relabel_local zhn))
           case kff =>
            intro _ _ _ _ _
            refine' pe_def (hdb := zgq) ?kfm ?kfn ?kfo ?kfp ?kfq ?kfr
            case kfm => exact D_checked_function
            case kfn => exact (hr.mono (by decide))
            case kfo => exact (glO zhm)
            case kfp =>
             refine' pa_cons ?kfs ?kft ?kfu
             case kfs =>
              refine' pe_fld ?kfv ?kfw
              case kfv => exact (pq 1 (visF zho) zgv zgw)
              case kfw => exact rfl
             case kft =>
              refine' pa_cons ?kfx pa_nil ?kfy
              case kfx => exact (pq 0 (visO zhn) zd3 zd4)
              case kfy => rfl
             case kfu => rfl
            case kfq => rfl
            case kfr => rfl
           case kfg => intro _; rfl
          case kez => rfl
         case kew => rfl
         case kex => rfl
        case keq => exact rfl
       case ken =>
        refine' pss_one ?kfz
        case kfz =>
         refine' ps_expr ?kga ?kgb
         case kga =>
          refine' pe_def (hdb := zdz) ?kgc ?kgd ?kge ?kgf ?kgg ?kgh
          case kgc => exact D_check_apart
          case kgd => exact (hr.mono (by decide))
          case kge => exact zha
          case kgf =>
           refine' pa_cons ?kgi pa_nil ?kgj
           case kgi =>
            refine' pe_comp ?kgk ?kgl ?kgm ?kgn ?kgo ?kgp ?kgq
            case kgk => exact noxe
            case kgl => exact rfl
            case kgm => exact zhj.at
            case kgn =>
             refine' pi_tup ?kgr
             case kgr =>
              refine' pe_op ?kgs ?kgt ?kgu
              case kgs => exact op_catTT
              case kgt =>
               refine' pe_fld ?kgv ?kgw
               case kgv => exact (pq 0 (visC zhg) zgv zgw)
               case kgw => exact rfl
              case kgu =>
               refine' pe_fld ?kgx ?kgy
               case kgx => exact (pq 0 (visC zhg) zgv zgw)
               case kgy => exact rfl
            case kgo =>
             intro _ _ _ _ _
             refine' pg_name (i := 0) ?kgz ?kha ?khb ?khc
             case kgz => exact zhj.nd
             case kha => exact rfl
             case khb => exact (locO zhk)
             case khc => exact (.inr (lookup_relabel_local zhk))
            case kgp =>
             intro _ _ _ _ _
             refine' pe_ix ?khd ?khe ?khf ?khg
             case khd => exact ix_tup
             case khe => exact (pq 0 (visO zhk) zel zem)
             case khf => exact pe_int
             case khg =>
              intro _ _
              exact rfl
            case kgq => intro _; rfl
           case kgj => rfl
          case kgg => rfl
          case kgh => rfl
         case kgb => rfl
  refine ⟨_, rfl, a, ks, rfl, hA, ⟨ok.kn, ok.k1, ok.k4, ok.kn2⟩, fun kt H1 hkt s1 => ?_⟩
  refine ⟨_, rfl, x, C, dx, _, rfl, s1 _ _ hx, T.cl, T.nK, by decide, ?_⟩
  have nkx : kt ≠ x := by rintro rfl; rw [s1 _ _ hx] at hkt; cases hkt
  generalize hG2 : upd H1 x (.ins C dx (putF "kept_kinds" (.ref kt) [])) = H2
  have x2 : H2 x = some (.ins C dx (flK kt)) := by rw [← hG2]; exact upd_same
  have k2 : H2 kt = some (.tup (ks.map V.str)) := by rw [← hG2, upd_ne nkx]; exact hkt
  have S2 : SameX x H H2 := by rw [← hG2]; exact s1.x.trans (SameX.upd x H1 _)
  refine ⟨_, rfl, b, _, rfl, hB.mono fun o e => S2 _ _ nbx e, fun H3 s3 => ⟨true, rfl, iteF ?_⟩⟩
  have S3 := S2.same s3
  refine ⟨_, rfl, c, _, rfl, hC.mono fun o e => S3 _ _ ncx e, fun H4 s4 => ⟨true, rfl, iteF ?_⟩⟩
  have S4 := S3.same s4
  refine ⟨_, rfl, b, _, rfl, (hB.mono fun o e => S4 _ _ nbx e).sq, _, rfl, c, _, rfl, (hC.mono fun o e => S4 _ _ ncx e).sq, _, _, rfl, rfl, _, _, rfl, rfl, _, rfl, ifF (by rw [List.length_map, List.length_map]; simp; omega) ?_⟩
  have s24 : Same H2 H4 := s3.trans s4
  refine (hB.mono fun o e => S4 _ _ nbx e).over rfl fun J O => ?_
  intro cl C1 ex s0 H0
  refine O.comp (fun i ys H5 => RdA Any H5 ys ((ts.take i).map tieT) ∧ Same H4 H5) ⟨.nil, Same.refl _⟩ (by rw [List.length_map]; exact Nat.le_trans (show ab.length ≤ 8 by omega) (by decide)) (fun i ys H5 _ ⟨_, z⟩ o e => z b o e) ?_ ?_
  ·rintro i y ys H5 hi hy ⟨r5, s5⟩
   rw [List.getElem?_map] at hi
   obtain ⟨qq, hq, rfl⟩ := Option.map_eq_some_iff.mp hi
   obtain ⟨r, hr', sg⟩ := sB.get hq
   rw [List.getElem?_map] at hr'
   obtain ⟨t, ht, rfl⟩ := Option.map_eq_some_iff.mp hr'
   have s25 := s24.trans s5
   have sg5 := sgx (S4.same s5) sg
   refine ⟨_, rfl, x, C, dx, _, _, rfl, s25 _ _ x2, T.cl, T.nK, flK_kinds _, _, rfl, kt, qq.1, qq.2, ks, t.ps, t.nm, rfl, .inr (s25 _ _ k2), ok.kn2, sg5.row, sg5.plc, ok.tn t (List.mem_of_getElem? ht), fun tt u H6 h6 h7 s6 => ⟨?_, s5.trans s6⟩⟩
   rw [List.take_succ, ht]
   show RdA Any H6 (ys ++ [.ref tt]) (List.map tieT (ts.take i ++ [t]))
   rw [List.map_append]
   exact (r5.same s6).snoc (.tup trivial h6 (.cons (.str _) (.cons (.tup trivial h7 (RdA.strs _)) .nil)))
  rintro tv H5 hy ⟨r5, s5⟩ D1 hD1
  rw [List.length_map, abl, List.take_length] at r5
  refine ⟨D1, tv, rfl, .inl ⟨SqL.of upd_same, fun tt htt => ?_⟩⟩
  have s6 := (same_new hD1 (.lst tv)).trans (same_new htt (.tup tv))
  have s26 := (s24.trans s5).trans s6
  refine ⟨_, rfl, x, C, dx, _, rfl, s26 _ _ x2, T.cl, T.nT, flK_len _, ?_⟩
  have tt6 : (upd (upd H5 D1 (.lst tv)) tt (.tup tv)) tt = some (.tup tv) := upd_same
  generalize (upd (upd H5 D1 (.lst tv)) tt (.tup tv)) = G6 at s6 s26 tt6
  have ntx : tt ≠ x := by rintro rfl; rw [s26 _ _ x2] at tt6; cases tt6
  generalize hG7 : upd G6 x (.ins C dx (putF "kept_ties" (.ref tt) (flK kt))) = H7
  have x7 : H7 x = some (.ins C dx (flT kt tt)) := by rw [← hG7]; exact upd_same
  have S67 : SameX x G6 H7 := by rw [← hG7]; exact SameX.upd x G6 _
  have t7 : H7 tt = some (.tup tv) := S67 _ _ ntx tt6
  have k7 : H7 kt = some (.tup (ks.map V.str)) := S67 _ _ nkx (s26 _ _ k2)
  have S7 : SameX x H H7 := (S2.same s26).trans S67
  have T67 : Tups G6 H7 := fun p xs e => S67 p _ (fun z => by rw [z, s26 _ _ x2] at e; cases e) e
  have r7 : RdA Any H7 tv (ts.map tieT) := (r5.same s6).monoT (fun _ z => z) T67 (ties_tup ts)
  refine (hC.mono fun o e => S7 _ _ ncx e).over rfl fun J O => ?_
  intro cl C1 ex s0 H0
  refine O.comp (fun i ys H8 => RdA Any H8 ys ((fs.take i).map funT) ∧ Same H7 H8) ⟨.nil, Same.refl _⟩ (by rw [List.length_map]; exact Nat.le_trans (show cd.length ≤ 8 by omega) (by decide)) (fun i ys H8 _ ⟨_, z⟩ o e => z c o e) ?_ ?_
  ·rintro i y ys H8 hi hy ⟨r8, s8⟩
   rw [List.getElem?_map] at hi
   obtain ⟨qq, hq, rfl⟩ := Option.map_eq_some_iff.mp hi
   obtain ⟨r, hr', sg⟩ := sC.get hq
   rw [List.getElem?_map] at hr'
   obtain ⟨t, ht, rfl⟩ := Option.map_eq_some_iff.mp hr'
   have sg8 := sgx (S7.same s8) sg
   obtain ⟨o1, o2, o3, o4⟩ := ok.fn t (List.mem_of_getElem? ht)
   refine ⟨_, rfl, x, C, dx, _, _, rfl, s8 _ _ x7, T.cl, T.nK, flT_kinds _ _, _, rfl, kt, qq.1, qq.2, ks, t.ps, t.nm, t.kd, rfl, .inr (s8 _ _ k7), ok.kn2, sg8.row, sg8.plc, ⟨o1, o2, o3⟩, o4, fun tt u H9 h6 h7 s9 => ⟨?_, s8.trans s9⟩⟩
   rw [List.take_succ, ht]
   show RdA Any H9 (ys ++ [.ref tt]) (List.map funT (fs.take i ++ [t]))
   rw [List.map_append]
   exact (r8.same s9).snoc (.tup trivial h6 (.cons (.str _) (.cons (.tup trivial h7 (RdA.strs _)) (.cons (.str _) .nil))))
  rintro fv H8 hy2 ⟨r8, s8⟩ D2 hD2
  rw [List.length_map, cdl, List.take_length] at r8
  refine ⟨D2, fv, rfl, .inl ⟨SqL.of upd_same, fun ft hft => ?_⟩⟩
  have s9 := s8.trans ((same_new hD2 (.lst fv)).trans (same_new hft (.tup fv)))
  have r9 := r8.same ((same_new hD2 (.lst fv)).trans (same_new hft (.tup fv)))
  refine ⟨_, rfl, x, C, dx, _, rfl, s9 _ _ x7, T.cl, T.nF, flT_len _ _, ?_⟩
  have ft9 : (upd (upd H8 D2 (.lst fv)) ft (.tup fv)) ft = some (.tup fv) := upd_same
  generalize (upd (upd H8 D2 (.lst fv)) ft (.tup fv)) = G9 at s9 r9 ft9
  have nfx : ft ≠ x := by rintro rfl; rw [s9 _ _ x7] at ft9; cases ft9
  generalize hG10 : upd G9 x (.ins C dx (putF "kept_functions" (.ref ft) (flT kt tt))) = HA
  have xA : HA x = some (.ins C dx (flF kt tt ft)) := by rw [← hG10]; exact upd_same
  have S9A : SameX x G9 HA := by rw [← hG10]; exact SameX.upd x G9 _
  have T9A : Tups G9 HA := fun p xs e => S9A p _ (fun z => by rw [z, s9 _ _ x7] at e; cases e) e
  have tA : HA tt = some (.tup tv) := S9A _ _ ntx (s9 _ _ t7)
  have fA : HA ft = some (.tup fv) := S9A _ _ nfx ft9
  have kA : HA kt = some (.tup (ks.map V.str)) := S9A _ _ nkx (s9 _ _ k7)
  have rtA : RdA Any HA tv (ts.map tieT) := (r7.same s9).monoT (fun _ z => z) T9A (ties_tup ts)
  have rfA : RdA Any HA fv (fs.map funT) := r9.monoT (fun _ z => z) T9A (funs_tup fs)
  have SA : SameX x H HA := (S7.same s9).trans S9A
  have tvl : tv.length = ts.length := by rw [rtA.length, List.length_map]
  have fvl : fv.length = fs.length := by rw [rfA.length, List.length_map]
  have small : tv.length + fv.length ≤ sizeLine := Nat.le_trans (show tv.length + fv.length ≤ 8 by omega) (by decide)
  refine ⟨_, rfl, x, C, dx, _, _, rfl, xA, T.cl, T.nT, flF_ties _ _ _, _, rfl, x, C, dx, _, _, rfl, xA, T.cl, T.nF, flF_funs _ _ _, ?_⟩
  refine cat_of tA fA small fun p HB hp sB' => ?_
  refine ⟨p, rfl, ⟨_, SqT.of hp⟩, ?_⟩
  have rB : RdA Any HB (tv ++ fv) (ts.map tieT ++ fs.map funT) := (rtA.append rfA).same sB'
  intro cl C1 ex s0 H0
  refine comp_it1 (tv ++ fv).length (fun i ys HC => ys = (((ts.map tieT ++ fs.map funT).map nmD).take i).map V.str ∧ Same HB HC) (fun i y => (tv ++ fv)[i]? = some y) ⟨rfl, Same.refl _⟩ (by rw [List.length_append]; exact small) (fun i ys HC hi _ ⟨_, z⟩ => go_tup (SqT.of (z _ _ hp)) hi) (fun ys HC _ ⟨_, z⟩ => stop_tup (SqT.of (z _ _ hp))) ?_ ?_
  ·rintro i y ys HC hi hy _ ⟨rfl, sC'⟩
   obtain ⟨d, hd, rd⟩ := rB.getV hy
   obtain ⟨rr, e⟩ := rows_nm (List.mem_of_getElem? hd)
   rw [e] at rd
   obtain ⟨py, px, rfl, _, hpy, hpx⟩ := rd.tuple_inv
   cases hpx with | cons a1 t1 =>
   obtain rfl := a1.str_inv
   refine ⟨_, rfl, py, _, _, _, rfl, rfl, SqT.of (sC' _ _ hpy), atI_int (x := V.str (nmD d)) (by decide) rfl, ?_, sC'⟩
   rw [List.take_succ, List.getElem?_map, hd]
   exact (List.map_append (l₂ := [nmD d])).symm
  rintro ys HC hyl ⟨rfl, sC'⟩ D3 hD3
  have el : (((ts.map tieT ++ fs.map funT).map nmD).take (tv ++ fv).length) = ts.map (·.nm) ++ fs.map (·.nm) := by
   rw [List.map_append, nm_ties, nm_funs, List.take_of_length_le]
   simp [tvl, fvl]
  rw [el]
  refine ⟨D3, _, rfl, .inl upd_same, ok.sn, by simp; omega, fun HD sD => ?_⟩
  have sAD : Same HA HD := (sB'.trans sC').trans ((same_new hD3 _).trans sD)
  refine q HD ⟨dx, kt, tt, ft, tv, fv, sAD _ _ xA, sAD _ _ kA, sAD _ _ tA, rtA.same sAD, sAD _ _ fA, rfA.same sAD⟩ (SA.same sAD)
end
end Few

set_option Elab.async false
set_option linter.all false
set_option maxRecDepth 100000
set_option maxHeartbeats 1000000
namespace L2
open PySem PySem.Spec PyProof.Rows
theorem hu2_of {A : Around} {k : Nat} (hr : Room k A) : A.units + 2 < cLine := Nat.lt_of_le_of_lt (Nat.add_le_add_left (by decide : 2 ≤ 64) _) hr.units
theorem comp2_it {J : It} {wi2 : TI} {tc : TT} {te : TE} {σ : St} {H : Hp} {Q : VK} (n : Nat) (Pv : Nat → List V → Hp → Prop) (Vx : Nat → V → Prop) (h0 : Pv 0 [] H) (hgo : ∀ i ys H, i < n → Pv i ys H → J.go i H ∧ ∀ x H', J.yld i H x H' → H' = H ∧ Vx i x) (hstop : ∀ ys H, Pv n ys H → J.stop n H)
  (hs : ∀ i x ys H v1, i < n → Vx i x → Pv i ys H → wi2 (some x :: v1 :: σ) H fun J2 H3 => ∃ (k : Nat) (Pw : Nat → List V → Hp → Prop) (Vy : Nat → V → Prop), Pw 0 ys H3 ∧ (∀ j zs H4, Pw j zs H4 → zs.length < sizeLine) ∧
   (∀ j zs H4, j < k → Pw j zs H4 → J2.go j H4 ∧ ∀ y H', J2.yld j H4 y H' → H' = H4 ∧ Vy j y) ∧ (∀ zs H4, Pw k zs H4 → J2.stop k H4 ∧ Pv (i + 1) zs H4) ∧
   (∀ j y zs H4, j < k → Vy j y → Pw j zs H4 → tc (some x :: some y :: σ) H4 fun b H5 => if b = true then te (some x :: some y :: σ) H5 fun v H6 => Pw (j + 1) (zs ++ [v]) H6 else Pw (j + 1) zs H5))
  (hd : ∀ ys H, Pv n ys H → ∀ D, H D = none → Q (.ref D) (upd H D (.lst ys)))
  (htc : ∀ σ H (Q Q' : Bool → Hp → Prop), tc σ H Q → (∀ b H', Q b H' → Q' b H') → tc σ H Q') (hwi : ∀ σ H (Q Q' : It → Hp → Prop), wi2 σ H Q → (∀ b H', Q b H' → Q' b H') → wi2 σ H Q') : CompOk2 2 J (gName 0) wi2 (gName 1) tc te σ H Q := by
 refine ⟨fun i m ys σ' H => i ≤ n ∧ m = n - i ∧ Pv i ys H ∧ ∃ v0 v1, σ' = v0 :: v1 :: σ, ⟨n, Nat.zero_le _, rfl, h0, none, none, rfl⟩, ?_⟩
 rintro i m ys σ' H1 ⟨hi, rfl, p, v0, v1, rfl⟩
 by_cases hlt : i < n
 ·obtain ⟨g1, g2⟩ := hgo i ys H1 hlt p
  refine .inr ⟨g1, fun x H' y => ?_⟩
  obtain ⟨rfl, vx⟩ := g2 x H' y
  refine hwi _ _ _ _ (hs i x ys H' v1 hlt vx p) ?_
  rintro J2 H3 ⟨k, Pw, Vy, p0, hz, go2, stop2, step⟩
  refine ⟨fun j l zs σ4 H4 => j ≤ k ∧ l = k - j ∧ Pw j zs H4 ∧ ∃ v1, σ4 = some x :: v1 :: σ, ⟨k, Nat.zero_le _, rfl, p0, v1, rfl⟩, ?_⟩
  rintro j l zs σ4 H4 ⟨hj, rfl, q, w1, rfl⟩
  refine ⟨Nat.le_of_lt (hz j zs H4 q), ?_⟩
  by_cases hjk : j < k
  ·obtain ⟨a1, a2⟩ := go2 j zs H4 hjk q
   refine .inr ⟨a1, hz j zs H4 q, fun y H' yl => ?_⟩
   obtain ⟨rfl, vy⟩ := a2 y H' yl
   refine htc _ _ _ _ (step j y zs H' hjk vy q) ?_
   intro b H5 hb
   cases b with
   | true =>
    rw [if_pos rfl] at hb ⊢
    exact ⟨_, hb, fun v H7 e => ⟨k - (j + 1), by omega, hjk, rfl, e, _, rfl⟩⟩
   | false =>
    rw [if_neg Bool.false_ne_true] at hb ⊢
    exact ⟨k - (j + 1), by omega, hjk, rfl, hb, _, rfl⟩
  ·have e : j = k := by omega
   subst e
   obtain ⟨s1, s2⟩ := stop2 zs H4 q
   exact .inl ⟨s1, n - (i + 1), by omega, hlt, rfl, s2, _, _, rfl⟩
 ·have e : i = n := by omega
  subst e
  exact .inl ⟨hstop ys H1 p, hd ys H1 p⟩
theorem yes_of {σ : St} {H : Hp} {Q : Bool → Hp → Prop} (h : Q true H) : tYes σ H Q := h
theorem yes_mono : ∀ σ H (Q Q' : Bool → Hp → Prop), tYes σ H Q → (∀ b H', Q b H' → Q' b H') → tYes σ H Q' := fun _ _ _ _ h k => k _ _ h
end L2
namespace Few
open PySem L2
def grow (n : Nat) (rows : List (List Int)) : List (List Int) := rows.flatMap fun r => (upN n).map fun t => r ++ [t]
def rowsOf (ns : List Nat) : List (List Int) := ns.foldl (fun rows n => grow n rows) [[]]
theorem rowsOf_snoc (ns : List Nat) (n : Nat) : rowsOf (ns ++ [n]) = grow n (rowsOf ns) := by unfold rowsOf; rw [List.foldl_append]; rfl
theorem upN_length (n : Nat) : (upN n).length = n := by unfold upN; simp
theorem grow_length (n : Nat) (rows : List (List Int)) : (grow n rows).length = rows.length * n := by
 unfold grow
 induction rows with
 | nil => simp
 | cons r rs ih => rw [List.flatMap_cons, List.length_append, ih, List.length_map, upN_length, List.length_cons, Nat.add_mul, Nat.one_mul, Nat.add_comm]
theorem grow_len {n m : Nat} {rows : List (List Int)} (h : ∀ r ∈ rows, r.length = m) : ∀ r ∈ grow n rows, r.length = m + 1 := fun r hr => by
 obtain ⟨q, hq, hr⟩ := List.mem_flatMap.mp hr
 obtain ⟨t, _, rfl⟩ := List.mem_map.mp hr
 rw [List.length_append, h q hq]; rfl
theorem rowsFrom_len : ∀ (ns : List Nat) (m : Nat) (rows : List (List Int)), (∀ r ∈ rows, r.length = m) → ∀ r ∈ ns.foldl (fun rows n => grow n rows) rows, r.length = m + ns.length
 | [], _, _, h, r, hr => h r hr
 | n :: ns, m, rows, h, r, hr => by
  have := rowsFrom_len ns (m + 1) (grow n rows) (grow_len h) r hr
  rw [this, List.length_cons]; omega
theorem rowsOf_len {ns : List Nat} {r : List Int} (hr : r ∈ rowsOf ns) : r.length = ns.length := by
 have := rowsFrom_len ns 0 [[]] (fun r hr => by rw [List.mem_singleton.mp hr]; rfl) r hr
 omega
def many (ks : List Str) (ns : List Nat) (k : Str) : Nat := ns.getD (ks.idxOf k) 0
structure SizeOk (ks : List Str) (ns : List Nat) : Prop where
 len : ns.length = ks.length
 one : ∀ n ∈ ns, 1 ≤ n
 four : ∀ n ∈ ns, n ≤ 4
theorem SizeOk.many {ks : List Str} {ns : List Nat} (ok : SizeOk ks ns) {k : Str} (hk : k ∈ ks) : 1 ≤ many ks ns k ∧ many ks ns k ≤ 4 := by
 have hi : ks.idxOf k < ns.length := by rw [ok.len]; exact List.idxOf_lt_length_iff.mpr hk
 have e : Few.many ks ns k = ns[ks.idxOf k] := by unfold Few.many; rw [List.getD_eq_getElem?_getD, List.getElem?_eq_getElem hi]; rfl
 rw [e]
 exact ⟨ok.one _ (List.getElem_mem hi), ok.four _ (List.getElem_mem hi)⟩
def rowsAt (ks : List Str) (ns : List Nat) (ps : List Str) : List (List Int) := rowsOf (ps.map (many ks ns))
def cellsT (ks : List Str) (ns : List Nat) (t : TieR) : List CK := (rowsAt ks ns t.ps).map fun r => (t.nm, r)
def cellsF (ks : List Str) (ns : List Nat) (t : FunR) : List CK := (rowsAt ks ns t.ps).map fun r => (t.nm, r)
def cellsOf (ks : List Str) (ns : List Nat) (ts : List TieR) (fs : List FunR) : List CK := ts.flatMap (cellsT ks ns) ++ fs.flatMap (cellsF ks ns)
theorem rowsAt_le {ks : List Str} {ns : List Nat} (ok : SizeOk ks ns) {ps : List Str} (hp : ∀ p ∈ ps, p ∈ ks) (h2 : ps.length ≤ 2) : (rowsAt ks ns ps).length ≤ 16 := by
 match ps, h2 with
 | [], _ => exact (Nat.le_of_ble_eq_true rfl : (1 : Nat) ≤ 16)
 | [a], _ =>
  have h := (ok.many (hp a List.mem_cons_self)).2
  show (grow (many ks ns a) [[]]).length ≤ 16
  rw [grow_length]; simp; omega
 | [a, b], _ =>
  have h := (ok.many (hp a List.mem_cons_self)).2
  have h' := (ok.many (hp b (List.mem_cons_of_mem _ List.mem_cons_self))).2
  show (grow (many ks ns b) (grow (many ks ns a) [[]])).length ≤ 16
  rw [grow_length, grow_length]
  simp
  exact Nat.le_trans (Nat.mul_le_mul h h') (by decide)
theorem zip_val : ∀ {ks : List Str} {ns : List Nat} {k : Str}, ns.length = ks.length → k ∈ ks → valV (zipP ks (ns.map fun (n : Nat) => V.int n)) (.inr k) = some (.int (many ks ns k))
 | [], _, _, _, h => nomatch h
 | x :: ks, [], _, h, _ => by simp at h
 | x :: ks, n :: ns, k, hl, hk => by
  by_cases e : x = k
  ·subst e
   have : many (x :: ks) (n :: ns) x = n := by simp [many]
   rw [this]
   exact valV_pos rfl
  ·have hk' : k ∈ ks := by rcases List.mem_cons.mp hk with rfl | h; exact absurd rfl e; exact h
   have : many (x :: ks) (n :: ns) k = many ks ns k := by
    unfold many
    rw [List.idxOf_cons]
    have : (x == k) = false := by simpa using e
    rw [this]; simp
   rw [this]
   show valV ((Sum.inr x, V.int n) :: zipP ks (ns.map fun (n : Nat) => V.int n)) (.inr k) = _
   rw [valV_neg (fun z => e (Sum.inr.inj z))]
   exact zip_val (by simpa using hl) hk'
abbrev RowsIn (H : Hp) : List Addr → List (List Int) → Prop := Paired fun a r => H a = some (.tup (r.map V.int))
theorem RowsIn.tups {H H' : Hp} (ht : Tups H H') {as : List Addr} {rs : List (List Int)} (h : RowsIn H as rs) : RowsIn H' as rs := Paired.mapP h fun a r e => ht a _ e
theorem Paired.app {α β : Type} {F : α → β → Prop} : ∀ {a c : List α} {b d : List β}, Paired F a b → Paired F c d → Paired F (a ++ c) (b ++ d)
 | _, _, _, _, .nil, h => h
 | _, _, _, _, .cons x t, h => .cons x (Paired.app t h)
theorem Paired.at {α β : Type} {F : α → β → Prop} : ∀ {a : List α} {b : List β} {i : Nat} {x : α}, Paired F a b → a[i]? = some x → ∃ y, b[i]? = some y ∧ F x y
 | _, _, _, _, .nil, h => by simp at h
 | _, _, 0, _, .cons h _, e => by simp at e; subst e; exact ⟨_, rfl, h⟩
 | _, _, i + 1, _, .cons _ t, e => by simpa using Paired.at (i := i) t (by simpa using e)
end Few

set_option Elab.async false
set_option linter.all false
set_option maxRecDepth 100000
set_option maxHeartbeats 1000000
namespace Few
open PySem L2
theorem zht : ((Str.ofString "MOST_THINGS" : Str) == ("__debug__" : Str)) = false := by decide +kernel
theorem zhu : ((Str.ofString "bool" : Str) == ("__debug__" : Str)) = false := by decide +kernel
theorem zhv : (Str.ofString "bool" : Str) ≠ "__name__" := by decide +kernel
theorem zhw : ((Str.ofString "int" : Str) == ("__debug__" : Str)) = false := by decide +kernel
theorem zhx : (Str.ofString "int" : Str) ≠ "__name__" := by decide +kernel
theorem zhy : ((Str.ofString "is_whole" : Str) == ("__debug__" : Str)) = false := by decide +kernel
theorem zhz : ((Str.ofString "many_things" : Str) == ("__debug__" : Str)) = false := by decide +kernel
theorem zh0 : ((Str.ofString "many_things" : Str) == ("__classdict__" : Str)) = false := by decide +kernel
theorem zh1 : ((Str.ofString "number" : Str) == ("__debug__" : Str)) = false := by decide +kernel
theorem zh2 : ((Str.ofString "number" : Str) == ("__classdict__" : Str)) = false := by decide +kernel
theorem zh3 : ((Str.ofString "row" : Str) == ("__debug__" : Str)) = false := by decide +kernel
theorem zh4 : ((Str.ofString "row" : Str) == ("__classdict__" : Str)) = false := by decide +kernel
theorem zh5 : ((Str.ofString "rows" : Str) == ("__debug__" : Str)) = false := by decide +kernel
theorem zh6 : ((Str.ofString "rows" : Str) == ("__classdict__" : Str)) = false := by decide +kernel
theorem zh7 : ((Str.ofString "signs" : Str) == ("__debug__" : Str)) = false := by decide +kernel
theorem zh8 : ((Str.ofString "signs" : Str) == ("__classdict__" : Str)) = false := by decide +kernel
theorem zh9 : ((Str.ofString "size" : Str) == ("__debug__" : Str)) = false := by decide +kernel
theorem zia : ((Str.ofString "size" : Str) == ("__classdict__" : Str)) = false := by decide +kernel
theorem kit_int1 (K : PySem.W.Frag) : PySem.W.kitOne K (.type "int") (.type "int") = some true := rfl
theorem kit_int0 (K : PySem.W.Frag) : PySem.W.kitOne K (.type "int") (.type "bool") = some false := rfl
section
variable {P : Program} {w : World} {K : PySem.W.Frag} {mg : Str → Option Value} {base : Heap}
abbrev s_is_whole : Stmt := top 10
theorem zib : FnScope ["thing"] ["thing"] (defScope s_is_whole) := ⟨rfl, rfl, rfl, by decide +kernel, rfl, by decide +kernel, by decide +kernel⟩
theorem zic : (defScope s_is_whole).names.lookup (Str.ofString "bool") = some NameKind.globalImplicit := by decide +kernel
theorem zid : (defScope s_is_whole).names.lookup (Str.ofString "int") = some NameKind.globalImplicit := by decide +kernel
theorem zie : (defScope s_is_whole).names.lookup (Str.ofString "isinstance") = some NameKind.globalImplicit := by decide +kernel
theorem zif : (defScope s_is_whole).names.lookup (Str.ofString "thing") = some NameKind.local := by decide +kernel
def spWhole : Sp := fun vs H Q _ => ∃ n : Int, vs = [.int n] ∧ Q (.bl true) H
theorem ok_whole (F : FunAt K mg "is_whole" s_is_whole ["thing"]) (Z : Bl mg) (n_bool : mg "bool" = none) : Def P w K mg base "is_whole" 1 ["thing"] spWhole := by
 have SC := zib
 refine F.mk' (k := 0) zib (fun vs H Q E h => ?_) (fun f cdv A outer s H vs Q E hr h => ?_)
 ·obtain ⟨n, rfl, _⟩ := h
  rfl
 ·obtain ⟨n, rfl, q⟩ := h
  refine' ⟨_, ?derivation, ?_⟩
  case derivation =>
   refine' pss_one ?ka
   case ka =>
    refine' ps_ret ?kb
    case kb =>
     refine' pe_and ?kc ?kd
     case kc =>
      refine' pe_callB (hn := zd8) (hdb := zd7) ?ke ?kf ?kg ?kh ?ki ?kj ?kk
      case ke => exact (call_isiT (T := "int"))
      case kf => exact zie
      case kg => exact Z.n_isinstance
      case kh => exact bt_isinstance
      case ki =>
       refine' pa_cons ?kl ?km ?kn
       case kl => exact (pq 0 (visL zif) zep zeq)
       case km =>
        refine' pa_cons ?ko pa_nil ?kp
        case ko =>
         refine' pe_bltn (v := V.ty "int") (hn := zhx) (hd := zhw) ?kq ?kr ?ks ?kt
         case kq => exact zid
         case kr => exact Z.n_int
         case ks => exact bt_int
         case kt => exact rfl
        case kp => rfl
       case kn => rfl
      case kj => rfl
      case kk => rfl
     case kd =>
      refine' pe_one ?ku
      case ku =>
       refine' pe_not ?kv
       case kv =>
        refine' pe_callB (hn := zd8) (hdb := zd7) ?kw ?kx ?ky ?kz ?kba ?kbb ?kbc
        case kw => exact (call_isiT (T := "bool"))
        case kx => exact zie
        case ky => exact Z.n_isinstance
        case kz => exact bt_isinstance
        case kba =>
         refine' pa_cons ?kbd ?kbe ?kbf
         case kbd => exact (pq 0 (visL zif) zep zeq)
         case kbe =>
          refine' pa_cons ?kbg pa_nil ?kbh
          case kbg =>
           refine' pe_bltn (v := V.ty "bool") (hn := zhv) (hd := zhu) ?kbi ?kbj ?kbk ?kbl
           case kbi => exact zic
           case kbj => exact n_bool
           case kbk => exact bt_bool
           case kbl => exact rfl
          case kbh => rfl
         case kbf => rfl
        case kbb => rfl
        case kbc => rfl
  refine ⟨_, rfl, _, _, true, rfl, .int _, kit_int1 K, true, rfl, ifT rfl ?_⟩
  exact ⟨_, rfl, _, _, false, rfl, .int _, kit_int0 K, false, rfl, q⟩
theorem no_kinds {kt tt ft : Addr} : (flF kt tt ft).lookup ("kinds" : Str) = none := fl_no (by decide +kernel) (by decide +kernel) (by decide +kernel)
theorem no_ties {kt tt ft : Addr} : (flF kt tt ft).lookup ("ties" : Str) = none := fl_no (by decide +kernel) (by decide +kernel) (by decide +kernel)
theorem no_functions {kt tt ft : Addr} : (flF kt tt ft).lookup ("functions" : Str) = none := fl_no (by decide +kernel) (by decide +kernel) (by decide +kernel)
theorem SignsAt.same {C : Addr} {H H' : Hp} {x : Addr} {ks : List Str} {ts : List TieR} {fs : List FunR} (h : SignsAt C H x ks ts fs) (s : Same H H') : SignsAt C H' x ks ts fs := h.keep (fun o e => s x o e) (Same.tups s)
abbrev iV : Nat → V := fun n => .int n
abbrev s_checked_size : Stmt := top 15
theorem zig : FnScope ["signs", "size", "number"] ["signs", "size"] (defScope s_checked_size) := ⟨rfl, rfl, rfl, by decide +kernel, rfl, by decide +kernel, by decide +kernel⟩
theorem zih : (defScope s_checked_size).names.lookup (Str.ofString "MOST_THINGS") = some NameKind.globalImplicit := by decide +kernel
theorem zii : (defScope s_checked_size).names.lookup (Str.ofString "is_list") = some NameKind.globalImplicit := by decide +kernel
theorem zij : (defScope s_checked_size).names.lookup (Str.ofString "is_whole") = some NameKind.globalImplicit := by decide +kernel
theorem zik : (defScope s_checked_size).names.lookup (Str.ofString "len") = some NameKind.globalImplicit := by decide +kernel
theorem zil : (defScope s_checked_size).names.lookup (Str.ofString "number") = some NameKind.local := by decide +kernel
theorem zim : (defScope s_checked_size).names.lookup (Str.ofString "signs") = some NameKind.local := by decide +kernel
theorem zin : (defScope s_checked_size).names.lookup (Str.ofString "size") = some NameKind.local := by decide +kernel
def spSize (C : Addr) : Sp := fun vs H Q _ => ∃ (x z : Addr) (ks : List Str) (ts : List TieR) (fs : List FunR) (ns : List Nat), vs = [.ref x, .ref z] ∧ SignsAt C H x ks ts fs ∧ LT H z (ns.map iV) ∧ SizeOk ks ns ∧ ∀ H', Same H H' → Q (.ref z) H'
theorem ok_size {C f1 : Addr} {fd1 : FuncData} (F : FunAt K mg "checked_size" s_checked_size ["signs", "size"]) (Z : Bl mg) (T : ClS K C) (GT : ∃ u, mg "MOST_THINGS" = some u ∧ RelV (.int 4) u)
  (m_kinds : Meth K C "kinds" f1) (G_kinds : FnOk P w K mg base CX0 1 f1 fd1 ["self"] (spTellK C)) (b_kinds : Binds K fd1 ["self"] [])
  (D_is_list : Def P w K mg base "is_list" 1 ["thing"] spIsList) (D_is_whole : Def P w K mg base "is_whole" 1 ["thing"] spWhole) : Def P w K mg base "checked_size" 2 ["signs", "size"] (spSize C) := by
 have SC := zig
 obtain ⟨_, g_MOST_THINGS, r_MOST_THINGS⟩ := GT
 refine F.mk' (k := 1) zig (fun vs H Q E h => ?_) (fun f cdv A outer s H vs Q E hr h => ?_)
 ·obtain ⟨x, z, ks, ts, fs, ns, rfl, _⟩ := h
  rfl
 ·obtain ⟨x, z, ks, ts, fs, ns, rfl, hS, hL, ok, q⟩ := h
  obtain ⟨dx, _, _, _, _, _, x2, _⟩ := id hS
  refine' ⟨_, ?derivation, ?_⟩
  case derivation =>
   refine' pss_cons ?ka ?kb
   case ka =>
    refine' ps_if ?kc ?kd pss_nil
    case kc =>
     refine' PW.pt ?ke
     case ke =>
      refine' pw_or ?kf ?kg
      case kf =>
       refine' pt_not ?kh
       case kh =>
        refine' pt_val ?ki ?kj
        case ki =>
         refine' pe_def (hdb := zd5) ?kk ?kl ?km ?kn ?ko ?kp
         case kk => exact D_is_list
         case kl => exact (hr.mono (by decide))
         case km => exact zii
         case kn =>
          refine' pa_cons ?kq pa_nil ?kr
          case kq => exact (pq 1 (visL zin) zh9 zia)
          case kr => rfl
         case ko => rfl
         case kp => rfl
        case kj => intro _; rfl
      case kg =>
       refine' pw_or1 ?ks
       case ks =>
        refine' pt_cmpR ?kt ?ku ?kv ?kw
        case kt => exact op_ne
        case ku =>
         refine' pe_callB (hn := zbw) (hdb := zbv) ?kx ?ky ?kz ?kba ?kbb ?kbc ?kbd
         case kx => exact call_len_seq
         case ky => exact zik
         case kz => exact Z.n_len
         case kba => exact bt_len
         case kbb =>
          refine' pa_cons ?kbe pa_nil ?kbf
          case kbe => exact (pq 1 (visL zin) zh9 zia)
          case kbf => rfl
         case kbc => rfl
         case kbd => rfl
        case kv =>
         refine' pe_callB (hn := zbw) (hdb := zbv) ?kbg ?kbh ?kbi ?kbj ?kbk ?kbl ?kbm
         case kbg => exact call_len_seq
         case kbh => exact zik
         case kbi => exact Z.n_len
         case kbj => exact bt_len
         case kbk =>
          refine' pa_cons ?kbn pa_nil ?kbo
          case kbn =>
           refine' pe_meth0 ?kbp ?kbq ?kbr ?kbs ?kbt ?kbu ?kbv ?kbw ?kbx
           case kbp => exact (pq 0 (visL zim) zh7 zh8)
           case kbq => exact T.cl
           case kbr => exact m_kinds
           case kbs => exact G_kinds
           case kbt => exact (hr.mono (by decide))
           case kbu => exact b_kinds
           case kbv => exact .nil
           case kbw => exact pass0
           case kbx => rfl
          case kbo => rfl
         case kbl => rfl
         case kbm => rfl
        case kw => exact (nomark _)
    case kd =>
     refine' pss_one ?kby
     case kby => exact ps_never
   case kb =>
    refine' pss_cons ?kbz ?kca
    case kbz =>
     refine' ps_for ?kcb ?kcc ?kcd ?kce ?kcf ?kcg
     case kcb => exact PassesOwn.never
     case kcc => exact rfl
     case kcd =>
      refine' pi_seq ?kch
      case kch => exact (pq 1 (visL zin) zh9 zia)
     case kce =>
      refine' pg_name (i := 2) (x := Str.ofString "number") ?kci ?kcj ?kck ?kcl
      case kci => exact SC.nd
      case kcj => exact rfl
      case kck => exact (Or.inl zil)
      case kcl => exact (.inl rfl)
     case kcf =>
      refine' pss_one ?kcm
      case kcm =>
       refine' ps_if ?kcn ?kco pss_nil
       case kcn =>
        refine' PW.pt ?kcp
        case kcp =>
         refine' pw_or ?kcq ?kcr
         case kcq =>
          refine' pt_not ?kcs
          case kcs =>
           refine' pt_val ?kct ?kcu
           case kct =>
            refine' pe_def (hdb := zhy) ?kcv ?kcw ?kcx ?kcy ?kcz ?kda
            case kcv => exact D_is_whole
            case kcw => exact (hr.mono (by decide))
            case kcx => exact zij
            case kcy =>
             refine' pa_cons ?kdb pa_nil ?kdc
             case kdb => exact (pq 2 (visL zil) zh1 zh2)
             case kdc => rfl
            case kcz => rfl
            case kda => rfl
           case kcu => intro _; rfl
         case kcr =>
          refine' pw_or1 ?kdd
          case kdd =>
           refine' pt_not ?kde
           case kde =>
            refine' pt_chain ?kdf ?kdg ?kdh ?kdi ?kdj ?kdk
            case kdf => exact op_le
            case kdg => exact op_le
            case kdh => exact pe_int
            case kdi => exact (pq 2 (visL zil) zh1 zh2)
            case kdj =>
             refine' pe_glob (hd := zht) ?kdl ?kdm ?kdn
             case kdl => exact zih
             case kdm => exact g_MOST_THINGS
             case kdn => exact r_MOST_THINGS
            case kdk => with_unfolding_all rfl
       case kco =>
        refine' pss_one ?kdo
        case kdo => exact ps_never
     case kcg => intro _; rfl
    case kca =>
     refine' pss_one ?kdp
     case kdp =>
      refine' ps_ret ?kdq
      case kdq => exact (pq 1 (visL zin) zh9 zia)
  refine ⟨_, rfl, z, _, rfl, hL, fun H1 s1 => ⟨true, rfl, iteF ?_⟩⟩
  refine ⟨_, rfl, z, _, rfl, (hL.same s1).sq, _, rfl, ?_⟩
  refine ⟨x, dx, _, rfl, s1 _ _ x2, no_kinds, x, ks, ts, fs, rfl, hS.same s1, fun l hl => ?_⟩
  have s2 := s1.trans (same_new hl (.lst (ks.map V.str)))
  refine ⟨l, _, rfl, .inl (SqL.of upd_same), rfl, _, rfl, ifF (by rw [List.length_map, List.length_map, ok.len]; simp) ?_⟩
  generalize hG : upd H1 l (.lst (ks.map V.str)) = G at s2
  refine (hL.same s2).over rfl fun J O => O.loop (fun j σ H2 => ∃ v, σ = [some (.ref x), some (.ref z), v] ∧ Same G H2) ⟨_, rfl, Same.refl _⟩ (fun j σ H2 _ ⟨_, _, y⟩ o e => y _ _ e) ?_ ?_
  ·rintro i y σ H2 hi ⟨v, rfl, s3⟩
   rw [List.getElem?_map] at hi
   obtain ⟨n, hn, rfl⟩ := Option.map_eq_some_iff.mp hi
   have h1 := ok.one n (List.mem_of_getElem? hn)
   have h4 := ok.four n (List.mem_of_getElem? hn)
   refine ⟨_, rfl, n, rfl, true, rfl, iteF ?_⟩
   refine ⟨_, rfl, _, _, rfl, rfl, _, rfl, ifT (decide_eq_true (by omega)) ?_⟩
   refine ⟨_, _, rfl, rfl, _, rfl, ifF (by simp; omega) ⟨_, rfl, s3⟩⟩
  ·rintro σ H2 ⟨v, rfl, s3⟩
   exact ⟨_, rfl, q H2 (s2.trans s3)⟩
abbrev s_rows_of : Stmt := top 16
theorem zio : FnScope ["many_things", "places", "rows", "kind"] ["many_things", "places"] (defScope s_rows_of) := ⟨rfl, rfl, rfl, by decide +kernel, rfl, by decide +kernel, by decide +kernel⟩
theorem ziq : (defScope s_rows_of).names.lookup (Str.ofString "kind") = some NameKind.cell := by decide +kernel
theorem zir : (defScope s_rows_of).names.lookup (Str.ofString "places") = some NameKind.local := by decide +kernel
theorem zis : (defScope s_rows_of).names.lookup (Str.ofString "rows") = some NameKind.local := by decide +kernel
theorem zit : CompSc 2 ["row", "thing", "many_things", "places", "rows", "kind"] ["many_things", "places", "rows", "kind"] (defScope s_rows_of) { kind := PySem.ScopeKind.function, names := [ (PySem.Str.ofString ".0", PySem.NameKind.local), (PySem.Str.ofString "row", PySem.NameKind.local), (PySem.Str.ofString "thing", PySem.NameKind.local), (PySem.Str.ofString "range", PySem.NameKind.globalImplicit), (PySem.Str.ofString "kind", PySem.NameKind.free), (PySem.Str.ofString "many_things", PySem.NameKind.free)], isGenerator := false, isCoroutine := false, more := [] : PySem.Scope } := ⟨rfl, by decide +kernel, by decide +kernel, by decide +kernel, by decide +kernel, rfl, by decide +kernel⟩
theorem ziu : ({ kind := PySem.ScopeKind.function, names := [ (PySem.Str.ofString ".0", PySem.NameKind.local), (PySem.Str.ofString "row", PySem.NameKind.local), (PySem.Str.ofString "thing", PySem.NameKind.local), (PySem.Str.ofString "range", PySem.NameKind.globalImplicit), (PySem.Str.ofString "kind", PySem.NameKind.free), (PySem.Str.ofString "many_things", PySem.NameKind.free)], isGenerator := false, isCoroutine := false, more := [] : PySem.Scope } : Scope).names.lookup (Str.ofString "kind") = some NameKind.free := by decide +kernel
theorem ziv : ({ kind := PySem.ScopeKind.function, names := [ (PySem.Str.ofString ".0", PySem.NameKind.local), (PySem.Str.ofString "row", PySem.NameKind.local), (PySem.Str.ofString "thing", PySem.NameKind.local), (PySem.Str.ofString "range", PySem.NameKind.globalImplicit), (PySem.Str.ofString "kind", PySem.NameKind.free), (PySem.Str.ofString "many_things", PySem.NameKind.free)], isGenerator := false, isCoroutine := false, more := [] : PySem.Scope } : Scope).names.lookup (Str.ofString "many_things") = some NameKind.free := by decide +kernel
theorem ziw : ({ kind := PySem.ScopeKind.function, names := [ (PySem.Str.ofString ".0", PySem.NameKind.local), (PySem.Str.ofString "row", PySem.NameKind.local), (PySem.Str.ofString "thing", PySem.NameKind.local), (PySem.Str.ofString "range", PySem.NameKind.globalImplicit), (PySem.Str.ofString "kind", PySem.NameKind.free), (PySem.Str.ofString "many_things", PySem.NameKind.free)], isGenerator := false, isCoroutine := false, more := [] : PySem.Scope } : Scope).names.lookup (Str.ofString "range") = some NameKind.globalImplicit := by decide +kernel
theorem zix : ({ kind := PySem.ScopeKind.function, names := [ (PySem.Str.ofString ".0", PySem.NameKind.local), (PySem.Str.ofString "row", PySem.NameKind.local), (PySem.Str.ofString "thing", PySem.NameKind.local), (PySem.Str.ofString "range", PySem.NameKind.globalImplicit), (PySem.Str.ofString "kind", PySem.NameKind.free), (PySem.Str.ofString "many_things", PySem.NameKind.free)], isGenerator := false, isCoroutine := false, more := [] : PySem.Scope } : Scope).names.lookup (Str.ofString "row") = some NameKind.local := by decide +kernel
theorem ziy : ({ kind := PySem.ScopeKind.function, names := [ (PySem.Str.ofString ".0", PySem.NameKind.local), (PySem.Str.ofString "row", PySem.NameKind.local), (PySem.Str.ofString "thing", PySem.NameKind.local), (PySem.Str.ofString "range", PySem.NameKind.globalImplicit), (PySem.Str.ofString "kind", PySem.NameKind.free), (PySem.Str.ofString "many_things", PySem.NameKind.free)], isGenerator := false, isCoroutine := false, more := [] : PySem.Scope } : Scope).names.lookup (Str.ofString "thing") = some NameKind.local := by decide +kernel
def spRowsOf : Sp := fun vs H Q _ => ∃ (d a : Addr) (ks ps : List Str) (ns : List Nat), vs = [.ref d, .ref a] ∧ H d = some (.dK (zipP ks (ns.map iV))) ∧ H a = some (.tup (ps.map V.str)) ∧ (∀ p ∈ ps, p ∈ ks) ∧ SizeOk ks ns ∧ ps.length ≤ 2 ∧
 ∀ l as H', H l = none → H' l = some (.lst (as.map V.ref)) → RowsIn H' as (rowsAt ks ns ps) → Same H H' → Q (.ref l) H'
theorem ok_rows_of (F : FunAt K mg "rows_of" s_rows_of ["many_things", "places"]) (Z : Bl mg) : Def P w K mg base "rows_of" 1 ["many_things", "places"] spRowsOf := by
 have SC := zio
 refine F.mk' (k := 0) zio (fun vs H Q E h => ?_) (fun f cdv A outer s H vs Q E hr h => ?_)
 ·obtain ⟨d, a, ks, ps, ns, rfl, _⟩ := h
  rfl
 ·obtain ⟨d, a, ks, ps, ns, rfl, hd, ha, hin, ok, h2, q⟩ := h
  refine' ⟨_, ?derivation, ?_⟩
  case derivation =>
   refine' pss_cons ?ka ?kb
   case ka =>
    refine' ps_set (i := 2) (x := Str.ofString "rows") ?kc ?kd ?ke ?kf ?kg ?kh
    case kc => exact SC.nd
    case kd => exact rfl
    case ke => exact (Or.inl zis)
    case kf =>
     refine' pe_lst ?ki
     case ki =>
      refine' pa_cons ?kj pa_nil ?kk
      case kj =>
       refine' pe_tup pa_nil
      case kk => rfl
    case kg => rfl
    case kh => exact .inl rfl
   case kb =>
    refine' pss_cons ?kl ?km
    case kl =>
     refine' ps_for ?kn ?ko ?kp ?kq ?kr ?ks
     case kn => exact PassesOwn.never
     case ko => exact rfl
     case kp =>
      refine' pi_tup ?kt
      case kt => exact (pq 1 (visL zir) zeh zei)
     case kq =>
      refine' pg_name (i := 3) (x := Str.ofString "kind") ?ku ?kv ?kw ?kx
      case ku => exact SC.nd
      case kv => exact rfl
      case kw => exact (Or.inr ziq)
      case kx => exact (.inl rfl)
     case kr =>
      refine' pss_one ?ky
      case ky =>
       refine' ps_setComp2 (i := 2) (x := Str.ofString "rows") ?kz ?kba ?kbb ?kbc ?kbd ?kbe ?kbf ?kbg ?kbh ?kbi ?kbj ?kbk ?kbl ?kbm ?kbn ?kbo
       case kz => exact SC.nd
       case kba => exact rfl
       case kbb => exact (Or.inl zis)
       case kbc => exact rfl
       case kbd => exact noxe
       case kbe => exact rfl
       case kbf => exact zit.at
       case kbg =>
        refine' pi_list ?kbp
        case kbp => exact (pq 2 (visL zis) zh5 zh6)
       case kbh =>
        intro _ _ _ _ _
        refine' pg_name (i := 0) ?kbq ?kbr ?kbs ?kbt
        case kbq => exact zit.nd
        case kbr => exact rfl
        case kbs => exact (locO zix)
        case kbt => exact (.inr (lookup_relabel_local zix))
       case kbi =>
        intro _ _ _ _ _
        refine' pi_range1 ?kbu ?kbv ?kbw ?kbx
        case kbu => exact (glO ziw)
        case kbv => exact Z.n_range
        case kbw =>
         refine' pa_cons ?kby pa_nil ?kbz
         case kby =>
          refine' pe_dget ?kca ?kcb ?kcc ?kcd
          case kca => exact (hu_of hr)
          case kcb => exact (pq 2 (visF ziv) zhz zh0)
          case kcc => exact (pq 5 (visF ziu) zd9 zea)
          case kcd =>
           intro _ _
           exact rfl
         case kbz => rfl
        case kbx => rfl
       case kbj =>
        intro _ _ _ _ _
        refine' pg_name (i := 1) ?kce ?kcf ?kcg ?kch
        case kce => exact zit.nd
        case kcf => exact rfl
        case kcg => exact (locO ziy)
        case kch => exact (.inr (lookup_relabel_local ziy))
       case kbk =>
        intro _ _ _ _ _
        exact pts_nil
       case kbl =>
        intro _ _ _ _ _
        refine' pe_op ?kci ?kcj ?kck
        case kci => exact op_catTT
        case kcj => exact (pq 0 (visO zix) zh3 zh4)
        case kck =>
         refine' pe_tup ?kcl
         case kcl =>
          refine' pa_cons ?kcm pa_nil ?kcn
          case kcm => exact (pq 1 (visO ziy) zep zeq)
          case kcn => rfl
       case kbm => intro _; rfl
       case kbn => intro _ _ _ _ _ _; rfl
       case kbo => exact .inl rfl
     case ks => intro _; rfl
    case km =>
     refine' pss_one ?kco
     case kco =>
      refine' ps_ret ?kcp
      case kcp => exact (pq 2 (visL zis) zh5 zh6)
  refine ⟨by show 0 ≤ sizeLine; decide, fun t ht => ⟨by show 1 ≤ sizeLine; decide, fun l0 hl0 => ?_⟩⟩
  have s1 : Same H (upd (upd H t (.tup [])) l0 (.lst [.ref t])) := (same_new ht _).trans (same_new hl0 _)
  have et : (upd (upd H t (.tup [])) l0 (.lst [.ref t])) t = some (.tup []) := same_new hl0 _ _ _ upd_same
  have el : (upd (upd H t (.tup [])) l0 (.lst [.ref t])) l0 = some (.lst [.ref t]) := upd_same
  have fl : H l0 = none := (same_new ht (.tup [])).free hl0
  generalize (upd (upd H t (.tup [])) l0 (.lst [.ref t])) = G at s1 et el
  refine ⟨_, rfl, a, rfl, ⟨_, SqT.of (s1 _ _ ha)⟩, for_tup (K := K) (a := a) (xs := ps.map V.str) (fun i σ H2 => ∃ (l : Addr) (as : List Addr) (v3 : Option V), σ = [some (.ref d), some (.ref a), some (.ref l), v3] ∧ Same H H2 ∧ H l = none ∧ H2 l = some (.lst (as.map V.ref)) ∧ RowsIn H2 as (rowsOf ((ps.take i).map (many ks ns))))
   ⟨l0, [t], none, rfl, s1, fl, el, .cons et .nil⟩ (fun i σ H2 _ ⟨_, _, _, _, z, _⟩ => SqT.of (z _ _ ha)) ?_ ?_⟩
  ·rintro i y σ H2 hi ⟨l, as, v3, rfl, s2, hl, el, hr2⟩
   rw [List.getElem?_map] at hi
   obtain ⟨k, hk, rfl⟩ := Option.map_eq_some_iff.mp hi
   have hkk := hin k (List.mem_of_getElem? hk)
   obtain ⟨m1, m4⟩ := ok.many hkk
   generalize hrs : rowsOf ((ps.take i).map (many ks ns)) = rs at hr2
   have rsl : rs.length ≤ 16 := by
    rw [← hrs]
    exact rowsAt_le ok (fun p hp => hin p (List.mem_of_mem_take hp)) (by rw [List.length_take]; omega)
   have asl : as.length = rs.length := Paired.length hr2
   have enx : rowsOf ((ps.take (i + 1)).map (many ks ns)) = grow (many ks ns k) rs := by
    rw [List.take_succ, hk, ← hrs, ← rowsOf_snoc]
    show rowsOf (List.map (many ks ns) (ps.take i ++ [k])) = _
    rw [List.map_append]; rfl
   have hg : ∀ H3, Same H2 H3 → DGet H3 d (.str k) (some (.int (many ks ns k))) := fun H3 s3 => by
    have := DGet.k (k := .inr k) (s3 _ _ (s2 _ _ hd))
    rw [zip_val ok.len hkk] at this
    exact this
   generalize many ks ns k = N at m1 m4 enx hg
   refine ⟨_, rfl, l, rfl, ⟨_, SqL.of el⟩, fun cl C ex s0 Hc => comp2_it as.length (fun i' ys H3 => ∃ bs : List Addr, ys = bs.map V.ref ∧ Same H2 H3 ∧ RowsIn H3 bs (grow N (rs.take i'))) (fun i' x => (as.map V.ref)[i']? = some x) ⟨[], rfl, Same.refl _, .nil⟩
    (fun i' ys H3 hi' ⟨_, _, s3, _⟩ => go_list (SqL.of (s3 _ _ el)) (by rw [List.length_map]; exact hi')) (fun ys H3 ⟨_, _, s3, _⟩ => by have := stop_list (K := K) (SqL.of (K := K) (s3 _ _ el)); rw [List.length_map] at this; exact this) ?_ ?_ yes_mono ?_⟩
   ·rintro i' x ys H3 v1 hi' hx ⟨bs, rfl, s3, r3⟩
    rw [List.getElem?_map] at hx
    obtain ⟨ra, hra, rfl⟩ := Option.map_eq_some_iff.mp hx
    obtain ⟨r, hr', er⟩ := Paired.at hr2 hra
    have bsl : bs.length ≤ 64 := by
     rw [Paired.length r3, grow_length, List.length_take]
     exact Nat.le_trans (Nat.mul_le_mul (Nat.le_trans (Nat.min_le_right _ _) rsl) m4) (by decide)
    have esucc : grow N (rs.take (i' + 1)) = grow N (rs.take i') ++ (upN N).map fun t => r ++ [t] := by
     rw [List.take_succ, hr']
     unfold grow
     rw [List.flatMap_append]
     simp
    refine ⟨_, rfl, _, rfl, d, _, rfl, hg H3 s3, N, rfl, by omega, by omega, ?_⟩
    refine ⟨N, fun j zs H4 => ∃ cs : List Addr, zs = cs.map V.ref ∧ Same H2 H4 ∧ j ≤ N ∧ RowsIn H4 cs (grow N (rs.take i') ++ ((upN N).take j).map fun t => r ++ [t]), fun j y => y = .int (0 + (j : Int)), ⟨bs, rfl, s3, Nat.zero_le _, by simpa using r3⟩, ?_, ?_, ?_, ?_⟩
    ·rintro j zs H4 ⟨cs, rfl, s4, hj, r4⟩
     have e := Paired.length r4
     have e3 := Paired.length r3
     rw [List.length_append, List.length_map, List.length_take, upN_length] at e
     rw [List.length_map]
     exact Nat.lt_of_le_of_lt (show cs.length ≤ 100 by omega) (by decide)
    ·rintro j zs H4 hj _
     exact go_rng (lo := 0) (n := (N : Int).toNat) (by omega)
    ·rintro zs H4 ⟨cs, rfl, s4, _, r4⟩
     refine ⟨by have := stop_rng (lo := 0) (n := (N : Int).toNat) (H := H4); rwa [Int.toNat_natCast] at this ⊢, cs, rfl, s4, ?_⟩
     rw [esucc]
     rw [List.take_of_length_le (l := upN N) (by rw [upN_length]; exact Nat.le_refl _)] at r4
     exact r4
    ·rintro j y zs H4 hj rfl ⟨cs, rfl, s4, _, r4⟩
     refine yes_of ?_
     refine ifT rfl ?_
     refine ⟨_, rfl, _, rfl, by show 1 ≤ sizeLine; decide, fun p hp => ?_⟩
     have s5 := same_new hp (.tup [V.int (0 + (j : Int))])
     have eN : (upN N).take (j + 1) = (upN N).take j ++ [(j : Int)] := by
      rw [List.take_succ]
      congr 1
      unfold upN
      rw [List.getElem?_map, List.getElem?_range hj]; rfl
     refine cat_of (s5 _ _ (s4 _ _ er)) upd_same (Nat.le_trans (show _ ≤ 100 from ?_) (by decide)) fun p2 H6 hp2 s6 => ⟨cs ++ [p2], by simp, s4.trans (s5.trans s6), hj, ?_⟩
     ·rw [List.length_map]
      have := rowsOf_len (by rw [hrs]; exact List.mem_of_getElem? hr' : r ∈ rowsOf ((ps.take i).map (many ks ns)))
      rw [this, List.length_map, List.length_take]
      show min i ps.length + 1 ≤ 100
      omega
     ·rw [eN, List.map_append, ← List.append_assoc]
      refine Paired.app (RowsIn.tups (Same.tups (s5.trans s6)) r4) (.cons ?_ .nil)
      rw [hp2, List.map_append]
      simp
   ·rintro ys H3 ⟨bs, rfl, s3, r3⟩ D hD
    refine ⟨D, bs, _, rfl, (s2.trans s3).trans (same_new hD _), (s2.trans s3).free hD, upd_same, ?_⟩
    rw [enx]
    rw [asl, List.take_length] at r3
    exact r3.tups (Same.tups (same_new hD _))
   ·rintro σ' H' Q1 Q2 ⟨v, e1, v', e2, a', u', e3, g3, j', e4, b1, b2, h5⟩ k5
    exact ⟨v, e1, v', e2, a', u', e3, g3, j', e4, b1, b2, k5 _ _ h5⟩
  ·rintro σ H2 ⟨l, as, v3, rfl, s2, hl, el, hr2⟩
   refine ⟨_, rfl, q l as H2 hl el ?_ s2⟩
   rw [List.length_map, List.take_length] at hr2
   exact hr2
end
end Few

set_option Elab.async false
set_option linter.all false
set_option maxRecDepth 100000
set_option maxHeartbeats 1000000
namespace Few
open PySem L2
def vT (ks : List Str) (ns : List Nat) (t : TieR) : List (CK × Nat) := (rowsAt ks ns t.ps).map fun r => ((t.nm, r), 2)
def vF (ks : List Str) (ns : List Nat) (t : FunR) : List (CK × Nat) := (rowsAt ks ns t.ps).map fun r => ((t.nm, r), many ks ns t.kd)
def cellsV (ks : List Str) (ns : List Nat) (ts : List TieR) (fs : List FunR) : List (CK × Nat) := ts.flatMap (vT ks ns) ++ fs.flatMap (vF ks ns)
theorem map_flat {α β γ : Type} (f : α → List β) (g : β → γ) : ∀ l : List α, (l.flatMap f).map g = l.flatMap fun x => (f x).map g
 | [] => rfl
 | x :: r => by rw [List.flatMap_cons, List.flatMap_cons, List.map_append, map_flat f g r]
theorem cellsV_keys (ks : List Str) (ns : List Nat) (ts : List TieR) (fs : List FunR) : (cellsV ks ns ts fs).map (·.1) = cellsOf ks ns ts fs := by
 unfold cellsV cellsOf
 rw [List.map_append, map_flat, map_flat]
 congr 1
 ·congr 1; funext t; unfold vT cellsT; rw [List.map_map]; rfl
 ·congr 1; funext t; unfold vF cellsF; rw [List.map_map]; rfl
theorem upN_nodup (n : Nat) : (upN n).Nodup := by
 unfold upN
 exact List.Pairwise.map _ (fun a b (h : a ≠ b) e => h (Int.ofNat.inj e)) List.nodup_range
theorem grow_nodup {n : Nat} {rows : List (List Int)} (h : rows.Nodup) : (grow n rows).Nodup := by
 unfold grow
 refine List.pairwise_flatMap.mpr ⟨fun r _ => ?_, ?_⟩
 ·refine List.Pairwise.map _ (fun a b (hab : a ≠ b) e => hab ?_) (upN_nodup n)
  have := List.append_cancel_left e
  simpa using this
 ·refine List.Pairwise.imp ?_ h
  intro a b hab x hx y hy e
  obtain ⟨t, _, rfl⟩ := List.mem_map.mp hx
  obtain ⟨u, _, rfl⟩ := List.mem_map.mp hy
  exact hab (List.append_inj_left' e rfl)
theorem rowsFrom_nodup : ∀ (ns : List Nat) (rows : List (List Int)), rows.Nodup → (ns.foldl (fun rows n => grow n rows) rows).Nodup
 | [], _, h => h
 | n :: ns, rows, h => rowsFrom_nodup ns (grow n rows) (grow_nodup h)
theorem rowsAt_nodup (ks : List Str) (ns : List Nat) (ps : List Str) : (rowsAt ks ns ps).Nodup := rowsFrom_nodup _ [[]] (by simp)
theorem signs_nodup {α : Type} (nm : α → Str) (ps : α → List Str) (ks : List Str) (ns : List Nat) : ∀ {l : List α}, (l.map nm).Nodup → (l.flatMap fun t => (rowsAt ks ns (ps t)).map fun r => (nm t, r)).Nodup
 | l, h => by
  refine List.pairwise_flatMap.mpr ⟨fun t _ => List.Pairwise.map _ (fun a b (hab : a ≠ b) e => hab (Prod.mk.inj e).2) (rowsAt_nodup ks ns _), ?_⟩
  refine List.Pairwise.imp ?_ (List.pairwise_map.mp h)
  intro a b hab x hx y hy e
  obtain ⟨t, _, rfl⟩ := List.mem_map.mp hx
  obtain ⟨u, _, rfl⟩ := List.mem_map.mp hy
  exact hab (Prod.mk.inj e).1
theorem cells_nodup {ks : List Str} {ns : List Nat} {ts : List TieR} {fs : List FunR} (ok : BookOk ks ts fs) : (cellsOf ks ns ts fs).Nodup := by
 have h := List.nodup_append.mp ok.sn
 refine List.nodup_append.mpr ⟨signs_nodup TieR.nm TieR.ps ks ns h.1, signs_nodup FunR.nm FunR.ps ks ns h.2.1, fun a ha b hb e => ?_⟩
 obtain ⟨t, ht, ha⟩ := List.mem_flatMap.mp ha
 obtain ⟨u, hu, hb⟩ := List.mem_flatMap.mp hb
 obtain ⟨r, _, rfl⟩ := List.mem_map.mp ha
 obtain ⟨q, _, rfl⟩ := List.mem_map.mp hb
 exact h.2.2 _ (List.mem_map.mpr ⟨t, ht, rfl⟩) _ (List.mem_map.mpr ⟨u, hu, rfl⟩) (Prod.mk.inj e).1
theorem fresh_of {α β κ : Type} (f : α → List β) (g : β → κ) {l : List α} {i : Nat} {x : α} (hx : l[i]? = some x) {j : Nat} {y : β} (hy : (f x)[j]? = some y) (head tail : List β) (nd : ((head ++ l.flatMap f ++ tail).map g).Nodup) :
  ¬ g y ∈ (head ++ (l.take i).flatMap f ++ (f x).take j).map g := by
 have e1 : l.flatMap f = (l.take i).flatMap f ++ (f x ++ (l.drop (i + 1)).flatMap f) := by
  obtain ⟨hi, e⟩ := List.getElem?_eq_some_iff.mp hx
  have : l = l.take i ++ x :: l.drop (i + 1) := by rw [← e, ← List.drop_eq_getElem_cons hi, List.take_append_drop]
  calc l.flatMap f = (l.take i ++ x :: l.drop (i + 1)).flatMap f := by rw [← this]
   _ = _ := by rw [List.flatMap_append, List.flatMap_cons]
 have e2 : f x = (f x).take j ++ y :: (f x).drop (j + 1) := by
  obtain ⟨hj, e⟩ := List.getElem?_eq_some_iff.mp hy
  rw [← e, ← List.drop_eq_getElem_cons hj, List.take_append_drop]
 have e3 : head ++ l.flatMap f ++ tail = (head ++ (l.take i).flatMap f ++ (f x).take j) ++ (y :: ((f x).drop (j + 1) ++ (l.drop (i + 1)).flatMap f ++ tail)) := by
  rw [e1]
  generalize (l.take i).flatMap f = A
  generalize (l.drop (i + 1)).flatMap f = B
  conv => lhs; rw [e2]
  simp [List.append_assoc]
 rw [e3, List.map_append, List.map_cons] at nd
 intro hm
 exact (List.nodup_append.mp nd).2.2 _ hm _ List.mem_cons_self rfl
theorem len_flat {α β : Type} (f : α → List β) {n : Nat} : ∀ {l : List α}, (∀ x ∈ l, (f x).length ≤ n) → (l.flatMap f).length ≤ l.length * n
 | [], _ => by simp
 | x :: r, h => by
  rw [List.flatMap_cons, List.length_append, List.length_cons, Nat.add_mul, Nat.one_mul]
  have h1 := h x List.mem_cons_self
  have h2 := len_flat f (l := r) fun y hy => h y (List.mem_cons_of_mem _ hy)
  omega
def CdIs (cd : CD) (L : List (CK × Nat)) : Prop := cd.map (fun x => (x.1, x.2.2)) = L.map fun p => (p.1, iV p.2)
theorem CdIs.keys {cd : CD} {L : List (CK × Nat)} (h : CdIs cd L) : cd.map (·.1) = L.map (·.1) := by
 have := congrArg (List.map Prod.fst) h
 simpa [List.map_map, Function.comp_def] using this
theorem CdIs.length {cd : CD} {L : List (CK × Nat)} (h : CdIs cd L) : cd.length = L.length := by
 have := congrArg List.length h
 simpa using this
theorem CdIs.put {cd : CD} {L : List (CK × Nat)} (h : CdIs cd L) {k : CK} (hk : ¬ k ∈ L.map (·.1)) (q : Addr) (n : Nat) : putC cd k q (iV n) = cd ++ [(k, q, iV n)] ∧ CdIs (putC cd k q (iV n)) (L ++ [(k, n)]) := by
 have e := putC_new (valC_none (by rw [h.keys]; exact hk)) q (iV n)
 refine ⟨e, ?_⟩
 rw [e]
 unfold CdIs at h ⊢
 rw [List.map_append, List.map_append, h]
 rfl
theorem CdIs.val {cd : CD} {L : List (CK × Nat)} (h : CdIs cd L) (nd : (L.map (·.1)).Nodup) {k : CK} {n : Nat} (hm : (k, n) ∈ L) : valC cd k = some (iV n) := by
 have hm' : (k, iV n) ∈ cd.map (fun x => (x.1, x.2.2)) := by rw [h]; exact List.mem_map.mpr ⟨(k, n), hm, rfl⟩
 obtain ⟨x, hx, e⟩ := List.mem_map.mp hm'
 obtain ⟨e1, e2⟩ := Prod.mk.inj e
 have := valC_some (by rw [h.keys]; exact nd) (show (x.1, x.2.1, x.2.2) ∈ cd from hx)
 rw [e1, e2] at this
 exact this
end Few

set_option Elab.async false
set_option linter.all false
set_option maxRecDepth 100000
set_option maxHeartbeats 1000000
namespace Few
open PySem L2
theorem ziz : ((Str.ofString "VALUES_OF_TIES" : Str) == ("__debug__" : Str)) = false := by decide +kernel
theorem zi0 : ((Str.ofString "checked_size" : Str) == ("__debug__" : Str)) = false := by decide +kernel
theorem zi1 : ((Str.ofString "rows_of" : Str) == ("__debug__" : Str)) = false := by decide +kernel
theorem n_vt : ¬ (("many_values" : Str) = "many_things") := by decide +kernel
def flM (mt : Addr) : List (Str × V) := putF "many_things" (.ref mt) []
def flB (mt mv : Addr) : List (Str × V) := putF "many_values" (.ref mv) (flM mt)
theorem flM_things (mt : Addr) : (flM mt).lookup ("many_things" : Str) = some (.ref mt) := by unfold flM; rw [lookup_putF, if_pos rfl]
theorem flB_things (mt mv : Addr) : (flB mt mv).lookup ("many_things" : Str) = some (.ref mt) := by unfold flB; rw [lookup_putF, if_neg (fun z => n_vt z.symm)]; exact flM_things mt
theorem flB_values (mt mv : Addr) : (flB mt mv).lookup ("many_values" : Str) = some (.ref mv) := by unfold flB; rw [lookup_putF, if_pos rfl]
theorem flM_len (mt : Addr) : (flM mt).length < 1000 := Nat.lt_of_le_of_lt (length_putF _ _ _) (by decide)
structure ClB (K : PySem.W.Frag) (C : Addr) : Prop where
 cl : Cls K C
 nM : NoAttr K C "many_things"
 nV : NoAttr K C "many_values"
def BoardAt (P : Program) (w : World) (CB : Addr) (H : Hp) (x : Addr) (ks : List Str) (ts : List TieR) (fs : List FunR) (ns : List Nat) : Prop :=
 ∃ dx mt mv cd, H x = some (.ins CB dx (flB mt mv)) ∧ H mt = some (.dK (zipP ks (ns.map iV))) ∧ H mv = some (CellD P w mv cd) ∧ KeysAt H cd ∧ CdIs cd (cellsV ks ns ts fs)
def CellsIn (P : Program) (w : World) (mv : Addr) (H : Hp) (L : List (CK × Nat)) : Prop := ∃ cd, H mv = some (CellD P w mv cd) ∧ KeysAt H cd ∧ CdIs cd L
section
variable {P : Program} {w : World} {mv : Addr} {H H' : Hp} {L : List (CK × Nat)}
theorem CellsIn.same (h : CellsIn P w mv H L) (s : Same H H') : CellsIn P w mv H' L := let ⟨cd, a, b, c⟩ := h; ⟨cd, s _ _ a, b.keep (Same.tups s), c⟩
theorem CellsIn.neT (h : CellsIn P w mv H L) {a : Addr} {xs : List V} (e : H a = some (.tup xs)) : a ≠ mv := by
 obtain ⟨cd, k, _⟩ := h
 rintro rfl
 rw [k] at e; cases e
theorem CellsIn.neL (h : CellsIn P w mv H L) {a : Addr} {xs : List V} (e : H a = some (.lst xs)) : a ≠ mv := by
 obtain ⟨cd, k, _⟩ := h
 rintro rfl
 rw [k] at e; cases e
theorem CellsIn.tups (h : CellsIn P w mv H L) (s : SameX mv H H') : Tups H H' := fun a xs e => s a _ (h.neT e) e
theorem CellsIn.put (h : CellsIn P w mv H L) {nm : Str} {r : List Int} {ra p : Addr} (n : Nat) (hr : H ra = some (.tup (r.map V.int))) (hk : ¬ (nm, r) ∈ L.map (·.1)) (hl : L.length ≤ 500) (hp : H p = none) :
  ∃ cd, (upd H p (.tup [.str nm, .ref ra])) mv = some (CellD P w mv cd) ∧ KeysAt (upd H p (.tup [.str nm, .ref ra])) cd ∧ CellAt (upd H p (.tup [.str nm, .ref ra])) (nm, r) p ∧ cd.length < sizeLine ∧
   SameX mv H (upd (upd H p (.tup [.str nm, .ref ra])) mv (CellD P w mv (putC cd (nm, r) p (iV n)))) ∧ CellsIn P w mv (upd (upd H p (.tup [.str nm, .ref ra])) mv (CellD P w mv (putC cd (nm, r) p (iV n)))) (L ++ [((nm, r), n)]) := by
 have s := same_new hp (.tup [.str nm, .ref ra])
 obtain ⟨cd, k1, k2, k3⟩ := h.same s
 have c : CellAt (upd H p (.tup [.str nm, .ref ra])) (nm, r) p := ⟨ra, upd_same, s _ _ hr⟩
 refine ⟨cd, k1, k2, c, Nat.lt_of_le_of_lt (by rw [k3.length]; exact hl) (by decide), s.x.trans (SameX.upd _ _ _), _, upd_same, (k2.put c _).keep ((h.same s).tups (SameX.upd _ _ _)), (k3.put hk p n).2⟩
end
theorem vT_le {ks : List Str} {ns : List Nat} (sz : SizeOk ks ns) {t : TieR} (ht : t.ps.length ≤ 2 ∧ ∀ k ∈ t.ps, k ∈ ks) : (vT ks ns t).length ≤ 16 := by unfold vT; rw [List.length_map]; exact rowsAt_le sz ht.2 ht.1
theorem vF_le {ks : List Str} {ns : List Nat} (sz : SizeOk ks ns) {t : FunR} (ht : t.ps.length ≤ 2 ∧ ∀ k ∈ t.ps, k ∈ ks) : (vF ks ns t).length ≤ 16 := by unfold vF; rw [List.length_map]; exact rowsAt_le sz ht.2 ht.1
theorem part_le {α : Type} {f : α → List (CK × Nat)} {l : List α} (h : ∀ x ∈ l, (f x).length ≤ 16) (h8 : l.length ≤ 8) (i : Nat) : ((l.take i).flatMap f).length ≤ 128 := by
 refine Nat.le_trans (len_flat f fun x hx => h x (List.mem_of_mem_take hx)) ?_
 rw [List.length_take]
 exact Nat.le_trans (Nat.mul_le_mul_right 16 (Nat.le_trans (Nat.min_le_right _ _) h8)) (by decide)
theorem flat_succ {α β : Type} {f : α → List β} {l : List α} {i : Nat} {x : α} (h : l[i]? = some x) : (l.take (i + 1)).flatMap f = (l.take i).flatMap f ++ f x := by
 rw [List.take_succ, h, List.flatMap_append]; simp
section
variable {P : Program} {w : World} {K : PySem.W.Frag} {mg : Str → Option Value} {base : Heap}
abbrev s_Board__init__ : Stmt := inClass (top 14) 0
theorem zi2 : FnScope ["self", "signs", "size", "name", "places", "row", "kind"] ["self", "signs", "size"] (defScope s_Board__init__) := ⟨rfl, rfl, rfl, by decide +kernel, rfl, by decide +kernel, by decide +kernel⟩
theorem zi3 : (defScope s_Board__init__).names.lookup (Str.ofString "VALUES_OF_TIES") = some NameKind.globalImplicit := by decide +kernel
theorem zi4 : (defScope s_Board__init__).names.lookup (Str.ofString "checked_size") = some NameKind.globalImplicit := by decide +kernel
theorem zi5 : (defScope s_Board__init__).names.lookup (Str.ofString "dict") = some NameKind.globalImplicit := by decide +kernel
theorem zi6 : (defScope s_Board__init__).names.lookup (Str.ofString "kind") = some NameKind.local := by decide +kernel
theorem zi7 : (defScope s_Board__init__).names.lookup (Str.ofString "name") = some NameKind.local := by decide +kernel
theorem zi8 : (defScope s_Board__init__).names.lookup (Str.ofString "places") = some NameKind.local := by decide +kernel
theorem zi9 : (defScope s_Board__init__).names.lookup (Str.ofString "row") = some NameKind.local := by decide +kernel
theorem zja : (defScope s_Board__init__).names.lookup (Str.ofString "rows_of") = some NameKind.globalImplicit := by decide +kernel
theorem zjb : (defScope s_Board__init__).names.lookup (Str.ofString "self") = some NameKind.local := by decide +kernel
theorem zjc : (defScope s_Board__init__).names.lookup (Str.ofString "signs") = some NameKind.local := by decide +kernel
theorem zjd : (defScope s_Board__init__).names.lookup (Str.ofString "size") = some NameKind.local := by decide +kernel
theorem zje : (defScope s_Board__init__).names.lookup (Str.ofString "zip") = some NameKind.globalImplicit := by decide +kernel
def spBInit (P : Program) (w : World) (C CB : Addr) : Sp := fun vs H Q _ => ∃ (x dx g z : Addr) (ks : List Str) (ts : List TieR) (fs : List FunR) (ns : List Nat), vs = [.ref x, .ref g, .ref z] ∧ H x = some (.ins CB dx []) ∧ SignsAt C H g ks ts fs ∧ BookOk ks ts fs ∧ LT H z (ns.map iV) ∧ SizeOk ks ns ∧
 ∀ H', BoardAt P w CB H' x ks ts fs ns → SameX x H H' → Q .non H'
theorem ok_binit {f C CB f1 f2 f3 : Addr} {fd fd1 fd2 fd3 : FuncData} (F : Fun K "__init__" "Board.__init__" s_Board__init__ f fd) (Z : Bl mg) (T : ClS K C) (TB : ClB K CB) (n_dict : mg "dict" = none) (n_zip : mg "zip" = none) (GV : ∃ u, mg "VALUES_OF_TIES" = some u ∧ RelV (.int 2) u)
  (m_kinds : Meth K C "kinds" f1) (G_kinds : FnOk P w K mg base CX0 1 f1 fd1 ["self"] (spTellK C)) (b_kinds : Binds K fd1 ["self"] [])
  (m_ties : Meth K C "ties" f2) (G_ties : FnOk P w K mg base CX0 1 f2 fd2 ["self"] (spTellT C)) (b_ties : Binds K fd2 ["self"] [])
  (m_functions : Meth K C "functions" f3) (G_functions : FnOk P w K mg base CX0 1 f3 fd3 ["self"] (spTellF C)) (b_functions : Binds K fd3 ["self"] [])
  (D_checked_size : Def P w K mg base "checked_size" 2 ["signs", "size"] (spSize C)) (D_rows_of : Def P w K mg base "rows_of" 1 ["many_things", "places"] spRowsOf) :
  FnOk P w K mg base CX0 3 f fd ["self", "signs", "size"] (spBInit P w C CB) := by
 have SC := zi2
 obtain ⟨_, g_VALUES_OF_TIES, r_VALUES_OF_TIES⟩ := GV
 refine F.ok zi2 (fun vs H Q E h => ?_) (fun cdv A outer s H vs Q E hr h => ?_)
 ·obtain ⟨x, dx, g, z, ks, ts, fs, ns, rfl, _⟩ := h
  rfl
 ·obtain ⟨x, dx, g, z, ks, ts, fs, ns, rfl, hx, hS, ok, hz, sz, q⟩ := h
  refine' ⟨_, ?derivation, ?_⟩
  case derivation =>
   refine' pss_cons ?ka ?kb
   case ka =>
    refine' ps_fld ?kc ?kd ?ke
    case kc => exact (pq 0 (visL zjb) zgv zgw)
    case kd =>
     refine' pe_dictZip ?kf ?kg ?kh ?ki ?kj ?kk ?kl ?km ?kn
     case kf => exact rfl
     case kg => exact zi5
     case kh => exact zje
     case ki => exact n_dict
     case kj => exact n_zip
     case kk =>
      refine' pa_cons ?ko ?kp ?kq
      case ko =>
       refine' pe_meth0 ?kr ?ks ?kt ?ku ?kv ?kw ?kx ?ky ?kz
       case kr => exact (pq 1 (visL zjc) zh7 zh8)
       case ks => exact T.cl
       case kt => exact m_kinds
       case ku => exact G_kinds
       case kv => exact (hr.mono (by decide))
       case kw => exact b_kinds
       case kx => exact .nil
       case ky => exact pass0
       case kz => rfl
      case kp =>
       refine' pa_cons ?kba pa_nil ?kbb
       case kba =>
        refine' pe_def (hdb := zi0) ?kbc ?kbd ?kbe ?kbf ?kbg ?kbh
        case kbc => exact D_checked_size
        case kbd => exact (hr.mono (by decide))
        case kbe => exact zi4
        case kbf =>
         refine' pa_cons ?kbi ?kbj ?kbk
         case kbi => exact (pq 1 (visL zjc) zh7 zh8)
         case kbj =>
          refine' pa_cons ?kbl pa_nil ?kbm
          case kbl => exact (pq 2 (visL zjd) zh9 zia)
          case kbm => rfl
         case kbk => rfl
        case kbg => rfl
        case kbh => rfl
       case kbb => rfl
      case kq => rfl
     case kl => rfl
     case km => rfl
     case kn => rfl
    case ke => exact rfl
   case kb =>
    refine' pss_cons ?kbn ?kbo
    case kbn =>
     refine' ps_fld ?kbp ?kbq ?kbr
     case kbp => exact (pq 0 (visL zjb) zgv zgw)
     case kbq => exact pe_cnew
     case kbr => exact rfl
    case kbo =>
     refine' pss_cons ?kbs ?kbt
     case kbs =>
      refine' ps_for ?kbu ?kbv ?kbw ?kbx ?kby ?kbz
      case kbu => exact PassesOwn.never
      case kbv => exact rfl
      case kbw =>
       refine' pi_list ?kca
       case kca =>
        refine' pe_meth0 ?kcb ?kcc ?kcd ?kce ?kcf ?kcg ?kch ?kci ?kcj
        case kcb => exact (pq 1 (visL zjc) zh7 zh8)
        case kcc => exact T.cl
        case kcd => exact m_ties
        case kce => exact G_ties
        case kcf => exact (hr.mono (by decide))
        case kcg => exact b_ties
        case kch => exact .nil
        case kci => exact pass0
        case kcj => rfl
      case kbx =>
       refine' pg_tup ?kck ?kcl ?kcm ?kcn
       case kck => exact rfl
       case kcl =>
        refine' pgs_cons ?kco ?kcp ?kcq
        case kco =>
         refine' pg_name (i := 3) (x := Str.ofString "name") ?kcr ?kcs ?kct ?kcu
         case kcr => exact SC.nd
         case kcs => exact rfl
         case kct => exact (Or.inl zi7)
         case kcu => exact (.inl rfl)
        case kcp =>
         refine' pgs_cons ?kcv pgs_nil ?kcw
         case kcv =>
          refine' pg_name (i := 4) (x := Str.ofString "places") ?kcx ?kcy ?kcz ?kda
          case kcx => exact SC.nd
          case kcy => exact rfl
          case kcz => exact (Or.inl zi8)
          case kda => exact (.inl rfl)
         case kcw => rfl
        case kcq => rfl
       case kcm => rfl
       case kcn => rfl
      case kby =>
       refine' pss_one ?kdb
       case kdb =>
        refine' ps_for ?kdc ?kdd ?kde ?kdf ?kdg ?kdh
        case kdc => exact PassesOwn.never
        case kdd => exact rfl
        case kde =>
         refine' pi_list ?kdi
         case kdi =>
          refine' pe_def (hdb := zi1) ?kdj ?kdk ?kdl ?kdm ?kdn ?kdo
          case kdj => exact D_rows_of
          case kdk => exact (hr.mono (by decide))
          case kdl => exact zja
          case kdm =>
           refine' pa_cons ?kdp ?kdq ?kdr
           case kdp =>
            refine' pe_fld ?kds ?kdt
            case kds => exact (pq 0 (visL zjb) zgv zgw)
            case kdt => exact rfl
           case kdq =>
            refine' pa_cons ?kdu pa_nil ?kdv
            case kdu => exact (pq 4 (visL zi8) zeh zei)
            case kdv => rfl
           case kdr => rfl
          case kdn => rfl
          case kdo => rfl
        case kdf =>
         refine' pg_name (i := 5) (x := Str.ofString "row") ?kdw ?kdx ?kdy ?kdz
         case kdw => exact SC.nd
         case kdx => exact rfl
         case kdy => exact (Or.inl zi9)
         case kdz => exact (.inl rfl)
        case kdg =>
         refine' pss_one ?kea
         case kea =>
          refine' ps_cput ?keb ?kec ?ked ?kee ?kef
          case keb => exact (hu2_of hr)
          case kec =>
           refine' pe_fld ?keg ?keh
           case keg => exact (pq 0 (visL zjb) zgv zgw)
           case keh => exact rfl
          case ked =>
           refine' pe_tup ?kei
           case kei =>
            refine' pa_cons ?kej ?kek ?kel
            case kej => exact (pq 3 (visL zi7) zed zee)
            case kek =>
             refine' pa_cons ?kem pa_nil ?ken
             case kem => exact (pq 5 (visL zi9) zh3 zh4)
             case ken => rfl
            case kel => rfl
          case kee =>
           refine' pe_glob (hd := ziz) ?keo ?kep ?keq
           case keo => exact zi3
           case kep => exact g_VALUES_OF_TIES
           case keq => exact r_VALUES_OF_TIES
          case kef => exact rfl
        case kdh => intro _; rfl
      case kbz => intro _; rfl
     case kbt =>
      refine' pss_one ?ker
      case ker =>
       refine' ps_for ?kes ?ket ?keu ?kev ?kew ?kex
       case kes => exact PassesOwn.never
       case ket => exact rfl
       case keu =>
        refine' pi_list ?key
        case key =>
         refine' pe_meth0 ?kez ?kfa ?kfb ?kfc ?kfd ?kfe ?kff ?kfg ?kfh
         case kez => exact (pq 1 (visL zjc) zh7 zh8)
         case kfa => exact T.cl
         case kfb => exact m_functions
         case kfc => exact G_functions
         case kfd => exact (hr.mono (by decide))
         case kfe => exact b_functions
         case kff => exact .nil
         case kfg => exact pass0
         case kfh => rfl
       case kev =>
        refine' pg_tup ?kfi ?kfj ?kfk ?kfl
        case kfi => exact rfl
        case kfj =>
         refine' pgs_cons ?kfm ?kfn ?kfo
         case kfm =>
          refine' pg_name (i := 3) (x := Str.ofString "name") ?kfp ?kfq ?kfr ?kfs
          case kfp => exact SC.nd
          case kfq => exact rfl
          case kfr => exact (Or.inl zi7)
          case kfs => exact (.inl rfl)
         case kfn =>
          refine' pgs_cons ?kft ?kfu ?kfv
          case kft =>
           refine' pg_name (i := 4) (x := Str.ofString "places") ?kfw ?kfx ?kfy ?kfz
           case kfw => exact SC.nd
           case kfx => exact rfl
           case kfy => exact (Or.inl zi8)
           case kfz => exact (.inl rfl)
          case kfu =>
           refine' pgs_cons ?kga pgs_nil ?kgb
           case kga =>
            refine' pg_name (i := 6) (x := Str.ofString "kind") ?kgc ?kgd ?kge ?kgf
            case kgc => exact SC.nd
            case kgd => exact rfl
            case kge => exact (Or.inl zi6)
            case kgf => exact (.inl rfl)
           case kgb => rfl
          case kfv => rfl
         case kfo => rfl
        case kfk => rfl
        case kfl => rfl
       case kew =>
        refine' pss_one ?kgg
        case kgg =>
         refine' ps_for ?kgh ?kgi ?kgj ?kgk ?kgl ?kgm
         case kgh => exact PassesOwn.never
         case kgi => exact rfl
         case kgj =>
          refine' pi_list ?kgn
          case kgn =>
           refine' pe_def (hdb := zi1) ?kgo ?kgp ?kgq ?kgr ?kgs ?kgt
           case kgo => exact D_rows_of
           case kgp => exact (hr.mono (by decide))
           case kgq => exact zja
           case kgr =>
            refine' pa_cons ?kgu ?kgv ?kgw
            case kgu =>
             refine' pe_fld ?kgx ?kgy
             case kgx => exact (pq 0 (visL zjb) zgv zgw)
             case kgy => exact rfl
            case kgv =>
             refine' pa_cons ?kgz pa_nil ?kha
             case kgz => exact (pq 4 (visL zi8) zeh zei)
             case kha => rfl
            case kgw => rfl
           case kgs => rfl
           case kgt => rfl
         case kgk =>
          refine' pg_name (i := 5) (x := Str.ofString "row") ?khb ?khc ?khd ?khe
          case khb => exact SC.nd
          case khc => exact rfl
          case khd => exact (Or.inl zi9)
          case khe => exact (.inl rfl)
         case kgl =>
          refine' pss_one ?khf
          case khf =>
           refine' ps_cput ?khg ?khh ?khi ?khj ?khk
           case khg => exact (hu2_of hr)
           case khh =>
            refine' pe_fld ?khl ?khm
            case khl => exact (pq 0 (visL zjb) zgv zgw)
            case khm => exact rfl
           case khi =>
            refine' pe_tup ?khn
            case khn =>
             refine' pa_cons ?kho ?khp ?khq
             case kho => exact (pq 3 (visL zi7) zed zee)
             case khp =>
              refine' pa_cons ?khr pa_nil ?khs
              case khr => exact (pq 5 (visL zi9) zh3 zh4)
              case khs => rfl
             case khq => rfl
           case khj =>
            refine' pe_dget ?kht ?khu ?khv ?khw
            case kht => exact (hu_of hr)
            case khu =>
             refine' pe_fld ?khx ?khy
             case khx => exact (pq 0 (visL zjb) zgv zgw)
             case khy => exact rfl
            case khv => exact (pq 6 (visL zi6) zd9 zea)
            case khw =>
             intro _ _
             exact rfl
           case khk => exact rfl
         case kgm => intro _; rfl
       case kex => intro _; rfl
  obtain ⟨dg, _, _, _, _, _, g2, _⟩ := id hS
  have gx : g ≠ x := by rintro rfl; rw [hx] at g2; cases g2
  have hz' : z ≠ x := hz.neIns hx
  have cn : ((cellsV ks ns ts fs).map (·.1)).Nodup := by rw [cellsV_keys]; exact cells_nodup ok
  have okT : ∀ t ∈ ts, (vT ks ns t).length ≤ 16 := fun t ht => vT_le sz (ok.tn t ht).2
  have okF : ∀ t ∈ fs, (vF ks ns t).length ≤ 16 := fun t ht => vF_le sz ⟨(ok.fn t ht).2.1, (ok.fn t ht).2.2.1⟩
  have sl := ok.sl
  refine ⟨_, rfl, g, dg, _, rfl, g2, no_kinds, g, ks, ts, fs, rfl, hS, fun l hl => ?_⟩
  have s1 := same_new hl (.lst (ks.map V.str))
  refine ⟨_, rfl, _, rfl, g, z, ks, ts, fs, ns, rfl, hS.same s1, hz.same s1, sz, fun H1 s2 => ?_⟩
  have s12 := s1.trans s2
  refine ⟨l, z, ks, _, rfl, SqL.of (s2 _ _ upd_same), (hz.same s12).elim (fun e => .inl (SqL.of e)) (fun e => .inr (SqT.of e)), by rw [List.length_map]; exact sz.len, ok.kn, fun mt hmt => ?_⟩
  have s3 := s12.trans (same_new hmt (.dK (zipP ks (ns.map iV))))
  have m3 : (upd H1 mt (.dK (zipP ks (ns.map iV)))) mt = some (.dK (zipP ks (ns.map iV))) := upd_same
  generalize (upd H1 mt (.dK (zipP ks (ns.map iV)))) = H3 at s3 m3
  refine ⟨_, rfl, x, CB, dx, _, rfl, s3 _ _ hx, TB.cl, TB.nM, by decide, ?_⟩
  have nmx : mt ≠ x := by rintro rfl; rw [s3 _ _ hx] at m3; cases m3
  generalize hG4 : upd H3 x (.ins CB dx (putF "many_things" (.ref mt) [])) = H4
  have x4 : H4 x = some (.ins CB dx (flM mt)) := by rw [← hG4]; exact upd_same
  have S4 : SameX x H H4 := by rw [← hG4]; exact s3.x.trans (SameX.upd x H3 _)
  have m4 : H4 mt = some (.dK (zipP ks (ns.map iV))) := by rw [← hG4, upd_ne nmx]; exact m3
  intro mv hmv
  have s5 := same_new hmv (CellD P w mv [])
  refine ⟨_, rfl, x, CB, dx, _, rfl, s5 _ _ x4, TB.cl, TB.nV, flM_len _, ?_⟩
  change tSeq _ _ _ _ (upd (upd H4 mv (CellD P w mv [])) x (.ins CB dx (putF "many_values" (.ref mv) (flM mt))))
  have nvx : mv ≠ x := by rintro rfl; rw [x4] at hmv; cases hmv
  have nvm : mv ≠ mt := by rintro rfl; rw [m4] at hmv; cases hmv
  have fv : H mv = none := S4.free nvx hmv
  have v5 : (upd H4 mv (CellD P w mv [])) mv = some (CellD P w mv []) := upd_same
  generalize (upd H4 mv (CellD P w mv [])) = H5 at s5 v5
  generalize hG6 : upd H5 x (.ins CB dx (putF "many_values" (.ref mv) (flM mt))) = G
  have xG : G x = some (.ins CB dx (flB mt mv)) := by rw [← hG6]; exact upd_same
  have S6 : SameX x H5 G := by rw [← hG6]; exact SameX.upd x H5 _
  have vG : G mv = some (CellD P w mv []) := S6 _ _ nvx v5
  have mG : G mt = some (.dK (zipP ks (ns.map iV))) := S6 _ _ nmx (s5 _ _ m4)
  have SG : SameX x H G := (S4.same s5).trans S6
  have TG : Tups H G := fun a xs e => SG a _ (fun z => by rw [z, hx] at e; cases e) e
  have gG : SignsAt C G g ks ts fs := hS.keep (fun o e => SG g o gx e) TG
  have ngv : g ≠ mv := by rintro rfl; rw [fv] at g2; cases g2
  have nxv : x ≠ mv := fun e => nvx e.symm
  have nmv : mt ≠ mv := fun e => nvm e.symm
  have c0 : CellsIn P w mv G [] := ⟨[], vG, (fun _ h => nomatch h), rfl⟩
  clear hG4 hG6 S6 s5 v5 m3 s3 s12 s1 s2 hmt hmv m4 x4 S4 hl
  have dG : ∀ {H' : Hp} {k : Str}, SameX mv G H' → k ∈ ks → DGet H' mt (.str k) (some (.int (many ks ns k))) := fun {H'} {k} s hk => by
   have := DGet.k (k := .inr k) (s _ _ nmv mG)
   rw [zip_val sz.len hk] at this
   exact this
  obtain ⟨dg', _, _, _, _, _, gG2, _⟩ := id gG
  refine ⟨_, rfl, g, dg', _, rfl, gG2, no_ties, g, ks, ts, fs, rfl, gG, fun l tv hl rt => ?_⟩
  have s7 := same_new hl (.lst tv)
  refine ⟨l, rfl, ⟨_, SqL.of upd_same⟩, ?_⟩
  have l7 : (upd G l (.lst tv)) l = some (.lst tv) := upd_same
  have c7 := c0.same s7
  generalize (upd G l (.lst tv)) = G1 at s7 l7 c7
  have rt1 := rt.same s7
  have tvl : tv.length = ts.length := by rw [rt.length, List.length_map]
  have nlv : l ≠ mv := c7.neL l7
  refine for_list (K := K) (a := l) (xs := tv) (fun i σ H2 => ∃ v3 v4 v5 v6, σ = [some (.ref x), some (.ref g), some (.ref z), v3, v4, v5, v6] ∧ SameX mv G1 H2 ∧ CellsIn P w mv H2 ((ts.take i).flatMap (vT ks ns)))
   ⟨_, _, _, _, rfl, SameX.refl _ _, c7⟩ (fun i σ H2 _ ⟨_, _, _, _, _, s, _⟩ => SqL.of (s _ _ nlv l7)) ?_ ?_
  ·rintro i y σ H2 hi ⟨v3, v4, v5, v6, rfl, s2, c2⟩
   obtain ⟨d, hd, rd⟩ := rt1.getV hi
   rw [List.getElem?_map] at hd
   obtain ⟨t, ht, rfl⟩ := Option.map_eq_some_iff.mp hd
   obtain ⟨py, px, rfl, _, hpy, hpx⟩ := rd.tuple_inv
   obtain ⟨a1, a2, rfl, r1, r2⟩ := hpx.two
   obtain rfl := r1.str_inv
   obtain ⟨pp, ppx, rfl, _, hpp, hps⟩ := r2.tuple_inv
   obtain rfl := hps.strs_inv
   obtain ⟨o1, o2, o3⟩ := ok.tn t (List.mem_of_getElem? ht)
   refine ⟨py, _, rfl, SqT.of (c7.tups s2 _ _ hpy), rfl, _, _, rfl, _, _, rfl, rfl, ?_⟩
   refine ⟨_, rfl, x, CB, dx, _, _, rfl, s2 _ _ nxv (s7 _ _ xG), TB.cl, TB.nM, flB_things _ _, _, rfl, mt, pp, ks, t.ps, ns, rfl, s2 _ _ nmv (s7 _ _ mG), c7.tups s2 _ _ hpp, o3, sz, o2, fun l2 as G2 hl2 l2e hrs s3 => ⟨l2, rfl, ⟨_, SqL.of l2e⟩, ?_⟩⟩
   have c3 := c2.same s3
   have nl2 : l2 ≠ mv := c3.neL l2e
   have s13 : SameX mv G1 G2 := s2.same s3
   refine for_list (K := K) (a := l2) (xs := as.map V.ref) (fun j σ H3 => (∃ v5, σ = [some (.ref x), some (.ref g), some (.ref z), some (.str t.nm), some (.ref pp), v5, v6]) ∧ SameX mv G2 H3 ∧ CellsIn P w mv H3 ((ts.take i).flatMap (vT ks ns) ++ (vT ks ns t).take j))
    ⟨⟨_, rfl⟩, SameX.refl _ _, by simpa using c3⟩ (fun j σ H3 _ ⟨_, s, _⟩ => SqL.of (s _ _ nl2 l2e)) ?_ ?_
   ·rintro j y σ H3 hj ⟨⟨v5, rfl⟩, s4, c4⟩
    rw [List.getElem?_map] at hj
    obtain ⟨ra, hra, rfl⟩ := Option.map_eq_some_iff.mp hj
    obtain ⟨r, hr', er⟩ := Paired.at hrs hra
    have hy : (vT ks ns t)[j]? = some ((t.nm, r), 2) := by unfold vT; rw [List.getElem?_map, hr']; rfl
    have nf := fresh_of (vT ks ns) (·.1) ht hy [] (fs.flatMap (vF ks ns)) cn
    refine ⟨_, rfl, x, CB, dx, _, _, rfl, s4 _ _ nxv (s13 _ _ nxv (s7 _ _ xG)), TB.cl, TB.nV, flB_values _ _, _, rfl, _, rfl, by show 2 ≤ sizeLine; decide, fun p hp => ?_⟩
    obtain ⟨cd, k1, k2, k3, k4, k5, k6⟩ := c4.put (nm := t.nm) (r := r) (ra := ra) 2 (c3.tups s4 _ _ er) nf (by
     have h1 := part_le okT (show ts.length ≤ 8 by omega) i
     have h2 := okT t (List.mem_of_getElem? ht)
     rw [List.length_append, List.length_take]; omega) hp
    refine ⟨mv, p, cd, (t.nm, r), rfl, rfl, k1, k2, k3, k4, ⟨_, rfl⟩, s4.trans k5, ?_⟩
    rw [List.take_succ, hy]
    rw [List.append_assoc] at k6
    exact k6
   ·rintro σ H3 ⟨⟨v5, rfl⟩, s4, c4⟩
    refine ⟨_, _, _, _, rfl, s13.trans s4, ?_⟩
    rw [flat_succ ht]
    have e : (as.map V.ref).length = (vT ks ns t).length := by unfold vT; rw [List.length_map, List.length_map, Paired.length hrs]
    rw [e, List.take_length] at c4
    exact c4
  rintro σ H2 ⟨v3, v4, v5, v6, rfl, s2, c2⟩
  rw [tvl, List.take_length] at c2
  have SG2 : SameX mv G H2 := s7.x.trans s2
  have gH2 : SignsAt C H2 g ks ts fs := gG.keep (fun o e => SG2 g o ngv e) (c0.tups SG2)
  clear rt1 rt l7 nlv hl s7 c7 tvl s2 tv l G1
  obtain ⟨dh, _, _, _, _, _, gH, _⟩ := id gH2
  refine ⟨_, rfl, g, dh, _, rfl, gH, no_functions, g, ks, ts, fs, rfl, gH2, fun l tv hl rt => ?_⟩
  have s7 := same_new hl (.lst tv)
  refine ⟨l, rfl, ⟨_, SqL.of upd_same⟩, ?_⟩
  have l7 : (upd H2 l (.lst tv)) l = some (.lst tv) := upd_same
  have c7 := c2.same s7
  have S7 : SameX mv G (upd H2 l (.lst tv)) := SG2.same s7
  have rt1 := rt.same s7
  generalize (upd H2 l (.lst tv)) = G1 at s7 l7 c7 S7 rt1
  have tvl : tv.length = fs.length := by rw [rt.length, List.length_map]
  have nlv : l ≠ mv := c7.neL l7
  refine for_list (K := K) (a := l) (xs := tv) (fun i σ H2 => ∃ v3 v4 v5 v6, σ = [some (.ref x), some (.ref g), some (.ref z), v3, v4, v5, v6] ∧ SameX mv G1 H2 ∧ CellsIn P w mv H2 (ts.flatMap (vT ks ns) ++ (fs.take i).flatMap (vF ks ns)))
   ⟨_, _, _, _, rfl, SameX.refl _ _, by simpa using c7⟩ (fun i σ H2 _ ⟨_, _, _, _, _, s, _⟩ => SqL.of (s _ _ nlv l7)) ?_ ?_
  ·rintro i y σ H2 hi ⟨v3, v4, v5, v6, rfl, s2, c2⟩
   obtain ⟨d, hd, rd⟩ := rt1.getV hi
   rw [List.getElem?_map] at hd
   obtain ⟨t, ht, rfl⟩ := Option.map_eq_some_iff.mp hd
   obtain ⟨py, px, rfl, _, hpy, hpx⟩ := rd.tuple_inv
   obtain ⟨a1, a2, a3, rfl, r1, r2, r3⟩ := hpx.three
   obtain rfl := r1.str_inv
   obtain rfl := r3.str_inv
   obtain ⟨pp, ppx, rfl, _, hpp, hps⟩ := r2.tuple_inv
   obtain rfl := hps.strs_inv
   obtain ⟨o1, o2, o3, o4⟩ := ok.fn t (List.mem_of_getElem? ht)
   refine ⟨py, _, rfl, SqT.of (c7.tups s2 _ _ hpy), rfl, _, _, rfl, _, _, rfl, _, _, rfl, rfl, ?_⟩
   refine ⟨_, rfl, x, CB, dx, _, _, rfl, s2 _ _ nxv (S7 _ _ nxv xG), TB.cl, TB.nM, flB_things _ _, _, rfl, mt, pp, ks, t.ps, ns, rfl, s2 _ _ nmv (S7 _ _ nmv mG), c7.tups s2 _ _ hpp, o3, sz, o2, fun l2 as G2 hl2 l2e hrs s3 => ⟨l2, rfl, ⟨_, SqL.of l2e⟩, ?_⟩⟩
   have c3 := c2.same s3
   have nl2 : l2 ≠ mv := c3.neL l2e
   have s13 : SameX mv G1 G2 := s2.same s3
   refine for_list (K := K) (a := l2) (xs := as.map V.ref) (fun j σ H3 => (∃ v5, σ = [some (.ref x), some (.ref g), some (.ref z), some (.str t.nm), some (.ref pp), v5, some (.str t.kd)]) ∧ SameX mv G2 H3 ∧ CellsIn P w mv H3 (ts.flatMap (vT ks ns) ++ (fs.take i).flatMap (vF ks ns) ++ (vF ks ns t).take j))
    ⟨⟨_, rfl⟩, SameX.refl _ _, by simpa using c3⟩ (fun j σ H3 _ ⟨_, s, _⟩ => SqL.of (s _ _ nl2 l2e)) ?_ ?_
   ·rintro j y σ H3 hj ⟨⟨v5, rfl⟩, s4, c4⟩
    rw [List.getElem?_map] at hj
    obtain ⟨ra, hra, rfl⟩ := Option.map_eq_some_iff.mp hj
    obtain ⟨r, hr', er⟩ := Paired.at hrs hra
    have hy : (vF ks ns t)[j]? = some ((t.nm, r), many ks ns t.kd) := by unfold vF; rw [List.getElem?_map, hr']; rfl
    have nf := fresh_of (vF ks ns) (·.1) ht hy (ts.flatMap (vT ks ns)) [] (by rw [List.append_nil]; exact cn)
    have S3 : SameX mv G H3 := S7.trans (s13.trans s4)
    refine ⟨_, rfl, x, CB, dx, _, _, rfl, S3 _ _ nxv xG, TB.cl, TB.nM, flB_things _ _, _, rfl, mt, _, rfl, dG S3 o4, ?_⟩
    refine ⟨_, rfl, x, CB, dx, _, _, rfl, S3 _ _ nxv xG, TB.cl, TB.nV, flB_values _ _, _, rfl, _, rfl, by show 2 ≤ sizeLine; decide, fun p hp => ?_⟩
    obtain ⟨cd, k1, k2, k3, k4, k5, k6⟩ := c4.put (nm := t.nm) (r := r) (ra := ra) (many ks ns t.kd) (c3.tups s4 _ _ er) nf (by
     have h0 := part_le okT (show ts.length ≤ 8 by omega) ts.length
     rw [List.take_length] at h0
     have h1 := part_le okF (show fs.length ≤ 8 by omega) i
     have h2 := okF t (List.mem_of_getElem? ht)
     rw [List.length_append, List.length_append, List.length_take]; omega) hp
    refine ⟨mv, p, cd, (t.nm, r), rfl, rfl, k1, k2, k3, k4, ⟨_, rfl⟩, s4.trans k5, ?_⟩
    rw [List.take_succ, hy]
    rw [List.append_assoc] at k6
    exact k6
   ·rintro σ H3 ⟨⟨v5, rfl⟩, s4, c4⟩
    refine ⟨_, _, _, _, rfl, s13.trans s4, ?_⟩
    rw [flat_succ ht, ← List.append_assoc]
    have e : (as.map V.ref).length = (vF ks ns t).length := by unfold vF; rw [List.length_map, List.length_map, Paired.length hrs]
    rw [e, List.take_length] at c4
    exact c4
  rintro σ H3 ⟨v3, v4, v5, v6, rfl, s3, cd, k1, k2, k3⟩
  rw [tvl, List.take_length] at k3
  have S3 : SameX mv G H3 := S7.trans s3
  refine q H3 ⟨dx, mt, mv, cd, S3 _ _ nxv xG, S3 _ _ nmv mG, k1, k2, k3⟩ fun b o n e => S3 b o (fun z => by rw [z, fv] at e; cases e) (SG b o n e)
end
end Few

set_option Elab.async false
set_option linter.all false
set_option maxRecDepth 100000
set_option maxHeartbeats 1000000
namespace Few
open PySem L2
theorem zjf : ((Str.ofString "Board" : Str) == ("__debug__" : Str)) = false := by decide +kernel
theorem zjg : ((Str.ofString "board" : Str) == ("__debug__" : Str)) = false := by decide +kernel
theorem zjh : ((Str.ofString "board" : Str) == ("__classdict__" : Str)) = false := by decide +kernel
theorem zji : ((Str.ofString "cell" : Str) == ("__debug__" : Str)) = false := by decide +kernel
theorem zjj : ((Str.ofString "cell" : Str) == ("__classdict__" : Str)) = false := by decide +kernel
theorem zjk : ((Str.ofString "checked_cell" : Str) == ("__debug__" : Str)) = false := by decide +kernel
theorem zjl : ((Str.ofString "known" : Str) == ("__debug__" : Str)) = false := by decide +kernel
theorem zjm : ((Str.ofString "known" : Str) == ("__classdict__" : Str)) = false := by decide +kernel
theorem zjn : ((Str.ofString "plain" : Str) == ("__debug__" : Str)) = false := by decide +kernel
theorem zjo : ((Str.ofString "plain" : Str) == ("__classdict__" : Str)) = false := by decide +kernel
theorem zjp : ((Str.ofString "range" : Str) == ("__debug__" : Str)) = false := by decide +kernel
theorem zjq : (Str.ofString "range" : Str) ≠ "__name__" := by decide +kernel
abbrev CellsAt (H : Hp) : List Addr → List CK → Prop := Paired fun q k => CellAt H k q
theorem CellsAt.tups {H H' : Hp} (ht : Tups H H') {as : List Addr} {rs : List CK} (h : CellsAt H as rs) : CellsAt H' as rs := Paired.mapP h fun a r e => e.keep ht
theorem cells_at {H : Hp} : ∀ {cd : CD}, KeysAt H cd → CellsAt H (cd.map (·.2.1)) (cd.map (·.1))
 | [], _ => .nil
 | x :: r, h => .cons (h x List.mem_cons_self) (cells_at fun y hy => h y (List.mem_cons_of_mem _ hy))
theorem many_le {ks : List Str} {ns : List Nat} {ts : List TieR} {fs : List FunR} (ok : BookOk ks ts fs) (sz : SizeOk ks ns) {k : CK} {n : Nat} (h : (k, n) ∈ cellsV ks ns ts fs) : n ≤ 4 ∧ k.2.length ≤ 2 := by
 rcases List.mem_append.mp h with h | h
 ·obtain ⟨t, ht, h⟩ := List.mem_flatMap.mp h
  obtain ⟨r, hr, e⟩ := List.mem_map.mp h
  obtain ⟨rfl, rfl⟩ := Prod.mk.inj e
  refine ⟨by decide, ?_⟩
  show r.length ≤ 2
  rw [rowsOf_len hr, List.length_map]
  exact (ok.tn t ht).2.1
 ·obtain ⟨t, ht, h⟩ := List.mem_flatMap.mp h
  obtain ⟨r, hr, e⟩ := List.mem_map.mp h
  obtain ⟨rfl, rfl⟩ := Prod.mk.inj e
  refine ⟨(sz.many (ok.fn t ht).2.2.2).2, ?_⟩
  show r.length ≤ 2
  rw [rowsOf_len hr, List.length_map]
  exact (ok.fn t ht).2.1
theorem same_make {H : Hp} {x dx CB : Addr} (hx : H x = none) (hd : H dx = none) (n : dx ≠ x) : Same H (upd (upd H dx (.own x)) x (.ins CB dx [])) :=
 (same_new hd _).trans (same_new (by rw [upd_ne (Ne.symm n)]; exact hx) _)
theorem same_made {H H1 H2 : Hp} {x : Addr} (hx : H x = none) (s : Same H H1) (t : SameX x H1 H2) : Same H H2 := fun b o e => t b o (ne_of_none e hx) (s b o e)
section
variable {P : Program} {w : World} {K : PySem.W.Frag} {mg : Str → Option Value} {base : Heap}
abbrev s_cells : Stmt := top 17
theorem zjr : FnScope ["signs", "size"] ["signs", "size"] (defScope s_cells) := ⟨rfl, rfl, rfl, by decide +kernel, rfl, by decide +kernel, by decide +kernel⟩
theorem zjs : (defScope s_cells).names.lookup (Str.ofString "Board") = some NameKind.globalImplicit := by decide +kernel
theorem zjt : (defScope s_cells).names.lookup (Str.ofString "list") = some NameKind.globalImplicit := by decide +kernel
theorem zju : (defScope s_cells).names.lookup (Str.ofString "signs") = some NameKind.local := by decide +kernel
theorem zjv : (defScope s_cells).names.lookup (Str.ofString "size") = some NameKind.local := by decide +kernel
def spCells (C : Addr) : Sp := fun vs H Q _ => ∃ (g z : Addr) (ks : List Str) (ts : List TieR) (fs : List FunR) (ns : List Nat), vs = [.ref g, .ref z] ∧ SignsAt C H g ks ts fs ∧ BookOk ks ts fs ∧ LT H z (ns.map iV) ∧ SizeOk ks ns ∧
 ∀ l as H', H l = none → H' l = some (.lst (as.map V.ref)) → CellsAt H' as (cellsOf ks ns ts fs) → Same H H' → Q (.ref l) H'
theorem ok_cells {C CB fB : Addr} {fdB : FuncData} (F : FunAt K mg "cells" s_cells ["signs", "size"]) (Z : Bl mg) (TB : ClB K CB)
  (M_Board : Mk K CB fB) (G_Board : FnOk P w K mg base CX0 3 fB fdB ["self", "signs", "size"] (spBInit P w C CB)) (m_Board : mg "Board" = some (.ref CB)) (b_Board : Binds K fdB ["self", "signs", "size"] []) : Def P w K mg base "cells" 5 ["signs", "size"] (spCells C) := by
 have SC := zjr
 refine F.mk' (k := 4) zjr (fun vs H Q E h => ?_) (fun f cdv A outer s H vs Q E hr h => ?_)
 ·obtain ⟨g, z, ks, ts, fs, ns, rfl, _⟩ := h
  rfl
 ·obtain ⟨g, z, ks, ts, fs, ns, rfl, hS, ok, hz, sz, q⟩ := h
  refine' ⟨_, ?derivation, ?_⟩
  case derivation =>
   refine' pss_one ?ka
   case ka =>
    refine' ps_ret ?kb
    case kb =>
     refine' pe_callTy (hn := zby) (hdb := zbx) ?kc ?kd ?ke ?kf ?kg ?kh ?ki
     case kc => exact (call_listC rfl)
     case kd => exact zjt
     case ke => exact Z.n_list
     case kf => exact bt_list
     case kg =>
      refine' pa_cons ?kj pa_nil ?kk
      case kj =>
       refine' pe_fld ?kl ?km
       case kl =>
        refine' pe_make (hdb := zjf) ?kn ?ko ?kp ?kq ?kr ?ks ?kt ?ku ?kv ?kw ?kx
        case kn => exact M_Board
        case ko => exact G_Board
        case kp => exact (hr.mono (by decide))
        case kq => exact zjs
        case kr => exact m_Board
        case ks => exact b_Board
        case kt => exact .nil
        case ku => exact pass0
        case kv =>
         refine' pa_cons ?ky ?kz ?kba
         case ky => exact (pq 0 (visL zju) zh7 zh8)
         case kz =>
          refine' pa_cons ?kbb pa_nil ?kbc
          case kbb => exact (pq 1 (visL zjv) zh9 zia)
          case kbc => rfl
         case kba => rfl
        case kw => rfl
        case kx => rfl
       case km => exact rfl
      case kk => rfl
     case kh => rfl
     case ki => rfl
  refine ⟨_, rfl, _, rfl, fun x dx hx hd nd => ?_⟩
  have s1 := same_make (CB := CB) hx hd nd
  refine ⟨x, dx, g, z, ks, ts, fs, ns, rfl, upd_same, hS.same s1, ok, hz.same s1, sz, fun H2 ⟨dx', mt, mv, cd, e1, e2, e3, e4, e5⟩ t => ⟨rfl, ?_⟩⟩
  have s2 := same_made hx s1 t
  refine ⟨x, CB, dx', _, _, rfl, e1, TB.cl, TB.nV, flB_values _ _, mv, cd, rfl, e3, fun l hl => ?_⟩
  have s3 := same_new hl (.lst (cd.map fun x => V.ref x.2.1))
  refine q l (cd.map (·.2.1)) _ (s2.free hl) (by rw [upd_same, List.map_map]; rfl) ?_ (s2.trans s3)
  have := (cells_at e4).tups (Same.tups s3)
  rw [e5.keys, cellsV_keys] at this
  exact this
abbrev s_checked_cell : Stmt := top 19
theorem zjw : FnScope ["known", "cell", "sign", "row", "plain"] ["known", "cell"] (defScope s_checked_cell) := ⟨rfl, rfl, rfl, by decide +kernel, rfl, by decide +kernel, by decide +kernel⟩
theorem zjx : (defScope s_checked_cell).names.lookup (Str.ofString "all") = some NameKind.globalImplicit := by decide +kernel
theorem zjy : (defScope s_checked_cell).names.lookup (Str.ofString "cell") = some NameKind.local := by decide +kernel
theorem zjz : (defScope s_checked_cell).names.lookup (Str.ofString "is_list") = some NameKind.globalImplicit := by decide +kernel
theorem zj0 : (defScope s_checked_cell).names.lookup (Str.ofString "isinstance") = some NameKind.globalImplicit := by decide +kernel
theorem zj1 : (defScope s_checked_cell).names.lookup (Str.ofString "known") = some NameKind.local := by decide +kernel
theorem zj2 : (defScope s_checked_cell).names.lookup (Str.ofString "len") = some NameKind.globalImplicit := by decide +kernel
theorem zj3 : (defScope s_checked_cell).names.lookup (Str.ofString "plain") = some NameKind.local := by decide +kernel
theorem zj4 : (defScope s_checked_cell).names.lookup (Str.ofString "row") = some NameKind.local := by decide +kernel
theorem zj5 : (defScope s_checked_cell).names.lookup (Str.ofString "sign") = some NameKind.local := by decide +kernel
theorem zj6 : (defScope s_checked_cell).names.lookup (Str.ofString "str") = some NameKind.globalImplicit := by decide +kernel
theorem zj7 : (defScope s_checked_cell).names.lookup (Str.ofString "tuple") = some NameKind.globalImplicit := by decide +kernel
theorem zj8 : CompSc 1 ["thing", "known", "cell", "sign", "row", "plain"] ["known", "cell", "sign", "row", "plain"] (defScope s_checked_cell) { kind := PySem.ScopeKind.function, names := [ (PySem.Str.ofString ".0", PySem.NameKind.local), (PySem.Str.ofString "thing", PySem.NameKind.local), (PySem.Str.ofString "is_whole", PySem.NameKind.globalImplicit)], isGenerator := false, isCoroutine := false, more := [] : PySem.Scope } := ⟨rfl, by decide +kernel, by decide +kernel, by decide +kernel, by decide +kernel, rfl, by decide +kernel⟩
theorem zj9 : ({ kind := PySem.ScopeKind.function, names := [ (PySem.Str.ofString ".0", PySem.NameKind.local), (PySem.Str.ofString "thing", PySem.NameKind.local), (PySem.Str.ofString "is_whole", PySem.NameKind.globalImplicit)], isGenerator := false, isCoroutine := false, more := [] : PySem.Scope } : Scope).names.lookup (Str.ofString "is_whole") = some NameKind.globalImplicit := by decide +kernel
theorem zka : ({ kind := PySem.ScopeKind.function, names := [ (PySem.Str.ofString ".0", PySem.NameKind.local), (PySem.Str.ofString "thing", PySem.NameKind.local), (PySem.Str.ofString "is_whole", PySem.NameKind.globalImplicit)], isGenerator := false, isCoroutine := false, more := [] : PySem.Scope } : Scope).names.lookup (Str.ofString "thing") = some NameKind.local := by decide +kernel
def spCheckedCell (P : Program) (w : World) : Sp := fun vs H Q _ => ∃ (mv c ra : Addr) (cd : CD) (nm : Str) (r : List Int) (v : V), vs = [.ref mv, .ref c] ∧ H mv = some (CellD P w mv cd) ∧ KeysAt H cd ∧ LT H c [.str nm, .ref ra] ∧ LT H ra (r.map V.int) ∧ r.length ≤ 100 ∧ valC cd (nm, r) = some v ∧
 ∀ q H', CellAt H' (nm, r) q → Same H H' → Q (.ref q) H'
theorem ok_checked_cell (F : FunAt K mg "checked_cell" s_checked_cell ["known", "cell"]) (Z : Bl mg) (D_is_list : Def P w K mg base "is_list" 1 ["thing"] spIsList) (D_is_whole : Def P w K mg base "is_whole" 1 ["thing"] spWhole) : Def P w K mg base "checked_cell" 2 ["known", "cell"] (spCheckedCell P w) := by
 have SC := zjw
 refine F.mk' (k := 1) zjw (fun vs H Q E h => ?_) (fun f cdv A outer s H vs Q E hr h => ?_)
 ·obtain ⟨mv, c, ra, cd, nm, r, v, rfl, _⟩ := h
  rfl
 ·obtain ⟨mv, c, ra, cd, nm, r, v, rfl, hm, hk, hc, hra, hrl, hv, q⟩ := h
  refine' ⟨_, ?derivation, ?_⟩
  case derivation =>
   refine' pss_cons ?ka ?kb
   case ka =>
    refine' ps_if ?kc ?kd pss_nil
    case kc =>
     refine' PW.pt ?ke
     case ke =>
      refine' pw_or ?kf ?kg
      case kf =>
       refine' pt_not ?kh
       case kh =>
        refine' pt_val ?ki ?kj
        case ki =>
         refine' pe_def (hdb := zd5) ?kk ?kl ?km ?kn ?ko ?kp
         case kk => exact D_is_list
         case kl => exact (hr.mono (by decide))
         case km => exact zjz
         case kn =>
          refine' pa_cons ?kq pa_nil ?kr
          case kq => exact (pq 1 (visL zjy) zji zjj)
          case kr => rfl
         case ko => rfl
         case kp => rfl
        case kj => intro _; rfl
      case kg =>
       refine' pw_or1 ?ks
       case ks =>
        refine' pt_cmpR ?kt ?ku ?kv ?kw
        case kt => exact op_ne
        case ku =>
         refine' pe_callB (hn := zbw) (hdb := zbv) ?kx ?ky ?kz ?kba ?kbb ?kbc ?kbd
         case kx => exact call_len_seq
         case ky => exact zj2
         case kz => exact Z.n_len
         case kba => exact bt_len
         case kbb =>
          refine' pa_cons ?kbe pa_nil ?kbf
          case kbe => exact (pq 1 (visL zjy) zji zjj)
          case kbf => rfl
         case kbc => rfl
         case kbd => rfl
        case kv => exact pe_int
        case kw => exact (nomark _)
    case kd =>
     refine' pss_one ?kbg
     case kbg => exact ps_never
   case kb =>
    refine' pss_cons ?kbh ?kbi
    case kbh =>
     refine' ps_asg ?kbj ?kbk ?kbl ?kbm ?kbn
     case kbj => exact (pq 1 (visL zjy) zji zjj)
     case kbk =>
      refine' pg_seq ?kbo ?kbp ?kbq ?kbr
      case kbo => exact rfl
      case kbp =>
       refine' pgs_cons ?kbs ?kbt ?kbu
       case kbs =>
        refine' pg_name (i := 2) (x := Str.ofString "sign") ?kbv ?kbw ?kbx ?kby
        case kbv => exact SC.nd
        case kbw => exact rfl
        case kbx => exact (Or.inl zj5)
        case kby => exact (.inl rfl)
       case kbt =>
        refine' pgs_cons ?kbz pgs_nil ?kca
        case kbz =>
         refine' pg_name (i := 3) (x := Str.ofString "row") ?kcb ?kcc ?kcd ?kce
         case kcb => exact SC.nd
         case kcc => exact rfl
         case kcd => exact (Or.inl zj4)
         case kce => exact (.inl rfl)
        case kca => rfl
       case kbu => rfl
      case kbq => rfl
      case kbr => rfl
     case kbl => rfl
     case kbm => rfl
     case kbn => rfl
    case kbi =>
     refine' pss_cons ?kcf ?kcg
     case kcf =>
      refine' ps_if ?kch ?kci pss_nil
      case kch =>
       refine' PW.pt ?kcj
       case kcj =>
        refine' pw_or ?kck ?kcl
        case kck =>
         refine' pt_not ?kcm
         case kcm =>
          refine' pt_val ?kcn ?kco
          case kcn =>
           refine' pe_callB (hn := zd8) (hdb := zd7) ?kcp ?kcq ?kcr ?kcs ?kct ?kcu ?kcv
           case kcp => exact (call_isiT (T := "str"))
           case kcq => exact zj0
           case kcr => exact Z.n_isinstance
           case kcs => exact bt_isinstance
           case kct =>
            refine' pa_cons ?kcw ?kcx ?kcy
            case kcw => exact (pq 2 (visL zj5) zel zem)
            case kcx =>
             refine' pa_cons ?kcz pa_nil ?kda
             case kcz =>
              refine' pe_bltn (v := V.ty "str") (hn := zeo) (hd := zen) ?kdb ?kdc ?kdd ?kde
              case kdb => exact zj6
              case kdc => exact Z.n_str
              case kdd => exact bt_str
              case kde => exact rfl
             case kda => rfl
            case kcy => rfl
           case kcu => rfl
           case kcv => rfl
          case kco => intro _; rfl
        case kcl =>
         refine' pw_or ?kdf ?kdg
         case kdf =>
          refine' pt_not ?kdh
          case kdh =>
           refine' pt_val ?kdi ?kdj
           case kdi =>
            refine' pe_def (hdb := zd5) ?kdk ?kdl ?kdm ?kdn ?kdo ?kdp
            case kdk => exact D_is_list
            case kdl => exact (hr.mono (by decide))
            case kdm => exact zjz
            case kdn =>
             refine' pa_cons ?kdq pa_nil ?kdr
             case kdq => exact (pq 3 (visL zj4) zh3 zh4)
             case kdr => rfl
            case kdo => rfl
            case kdp => rfl
           case kdj => intro _; rfl
         case kdg =>
          refine' pw_or1 ?kds
          case kds =>
           refine' pt_not ?kdt
           case kdt =>
            refine' pt_val ?kdu ?kdv
            case kdu =>
             refine' pe_callB (hn := zdy) (hdb := zdx) ?kdw ?kdx ?kdy ?kdz ?kea ?keb ?kec
             case kdw => exact (call_allB rfl)
             case kdx => exact zjx
             case kdy => exact Z.n_all
             case kdz => exact bt_all
             case kea =>
              refine' pa_cons ?ked pa_nil ?kee
              case ked =>
               refine' pe_comp ?kef ?keg ?keh ?kei ?kej ?kek ?kel
               case kef => exact noxe
               case keg => exact rfl
               case keh => exact zj8.at
               case kei =>
                refine' pi_seq ?kem
                case kem => exact (pq 3 (visL zj4) zh3 zh4)
               case kej =>
                intro _ _ _ _ _
                refine' pg_name (i := 0) ?ken ?keo ?kep ?keq
                case ken => exact zj8.nd
                case keo => exact rfl
                case kep => exact (locO zka)
                case keq => exact (.inr (lookup_relabel_local zka))
               case kek =>
                intro _ _ _ _ _
                refine' pe_def (hdb := zhy) ?ker ?kes ?ket ?keu ?kev ?kew
                case ker => exact D_is_whole
                case kes => exact (hr.mono (by decide))
                case ket => exact (glO zj9)
                case keu =>
                 refine' pa_cons ?kex pa_nil ?key
                 case kex => exact (pq 0 (visO zka) zep zeq)
                 case key => rfl
                case kev => rfl
                case kew => rfl
               case kel => intro _; rfl
              case kee => rfl
             case keb => rfl
             case kec => rfl
            case kdv => intro _; rfl
      case kci =>
       refine' pss_one ?kez
       case kez => exact ps_never
     case kcg =>
      refine' pss_cons ?kfa ?kfb
      case kfa =>
       refine' ps_set (i := 4) (x := Str.ofString "plain") ?kfc ?kfd ?kfe ?kff ?kfg ?kfh
       case kfc => exact SC.nd
       case kfd => exact rfl
       case kfe => exact (Or.inl zj3)
       case kff =>
        refine' pe_tup ?kfi
        case kfi =>
         refine' pa_cons ?kfj ?kfk ?kfl
         case kfj => exact (pq 2 (visL zj5) zel zem)
         case kfk =>
          refine' pa_cons ?kfm pa_nil ?kfn
          case kfm =>
           refine' pe_callTy (hn := zeu) (hdb := zet) ?kfo ?kfp ?kfq ?kfr ?kfs ?kft ?kfu
           case kfo => exact call_tuple_of
           case kfp => exact zj7
           case kfq => exact Z.n_tuple
           case kfr => exact bt_tuple
           case kfs =>
            refine' pa_cons ?kfv pa_nil ?kfw
            case kfv => exact (pq 3 (visL zj4) zh3 zh4)
            case kfw => rfl
           case kft => rfl
           case kfu => rfl
          case kfn => rfl
         case kfl => rfl
       case kfg => rfl
       case kfh => exact .inl rfl
      case kfb =>
       refine' pss_cons ?kfx ?kfy
       case kfx =>
        refine' ps_if ?kfz ?kga pss_nil
        case kfz =>
         refine' pt_cmp ?kgb ?kgc
         case kgb =>
          refine' pc_cnotin ?kgd ?kge ?kgf
          case kgd => exact (hu2_of hr)
          case kge => exact (pq 4 (visL zj3) zjn zjo)
          case kgf => exact (pq 0 (visL zj1) zjl zjm)
         case kgc => exact (by with_unfolding_all rfl)
        case kga =>
         refine' pss_one ?kgg
         case kgg => exact ps_never
       case kfy =>
        refine' pss_one ?kgh
        case kgh =>
         refine' ps_ret ?kgi
         case kgi => exact (pq 4 (visL zj3) zjn zjo)
  refine ⟨_, rfl, c, _, rfl, hc, fun H1 s1 => ⟨true, rfl, iteF ?_⟩⟩
  refine ⟨_, rfl, c, _, rfl, (hc.same s1).sq, rfl, _, rfl, ifF (by simp) ?_⟩
  refine ⟨_, rfl, c, _, rfl, (hc.same s1).sq, rfl, _, _, rfl, _, _, rfl, rfl, ?_⟩
  refine ⟨_, rfl, _, _, _, rfl, .str _, kit_str1 K, true, rfl, iteF ?_⟩
  refine ⟨_, rfl, ra, _, rfl, hra.same s1, fun H2 s2 => ⟨true, rfl, iteF ?_⟩⟩
  have s12 := s1.trans s2
  refine (hra.same s12).over rfl fun J O => ?_
  intro cl C1 ex s0 H0
  refine O.comp (fun i ys H3 => ys = (List.replicate i true).map V.bl ∧ Same H2 H3) ⟨rfl, Same.refl _⟩ (by rw [List.length_map]; exact Nat.le_trans hrl (by decide)) (fun i ys H3 _ ⟨_, z⟩ o e => z _ _ e) ?_ ?_
  ·rintro i y ys H3 hi hy ⟨rfl, s3⟩
   rw [List.getElem?_map] at hi
   obtain ⟨m, _, rfl⟩ := Option.map_eq_some_iff.mp hi
   refine ⟨_, rfl, m, rfl, ?_, s3⟩
   rw [List.replicate_succ', List.map_append]
   rfl
  rintro ys H3 hy ⟨rfl, s3⟩ D hD
  refine ⟨D, List.replicate _ true, rfl, SqL.of upd_same, true, by simp, iteF ?_⟩
  have s4 := (s12.trans s3).trans (same_new hD (.lst ((List.replicate (List.map V.int r).length true).map V.bl)))
  generalize (upd H3 D (.lst ((List.replicate (List.map V.int r).length true).map V.bl))) = H4 at s4
  refine ⟨_, rfl, _, rfl, ra, r.map V.int, rfl, ?_⟩
  have fin : ∀ (tr : Addr) (H5 : Hp), Same H H5 → H5 tr = some (.tup (r.map V.int)) → ∀ p, H5 p = none → CellAt (upd H5 p (.tup [.str nm, .ref tr])) (nm, r) p := fun tr H5 s5 e p hp => ⟨tr, upd_same, same_new hp _ _ _ e⟩
  rcases hra.same s4 with e | e
  ·refine .inl ⟨SqL.of e, fun l hl => ⟨by show 2 ≤ sizeLine; decide, fun p hp => ?_⟩⟩
   have s5 := s4.trans (same_new hl (.tup (r.map V.int)))
   have c5 := fin l _ s5 upd_same p hp
   have s6 := s5.trans (same_new hp (.tup [.str nm, .ref l]))
   refine ⟨_, rfl, _, rfl, mv, p, cd, (nm, r), rfl, rfl, s6 _ _ hm, hk.keep (Same.tups s6), c5, _, rfl, ifF (by rw [hv]; exact Bool.false_ne_true) ⟨_, rfl, q p _ c5 s6⟩⟩
  ·refine .inr ⟨SqT.of e, by show 2 ≤ sizeLine; decide, fun p hp => ?_⟩
   have c5 := fin ra _ s4 e p hp
   have s6 := s4.trans (same_new hp (.tup [.str nm, .ref ra]))
   refine ⟨_, rfl, _, rfl, mv, p, cd, (nm, r), rfl, rfl, s6 _ _ hm, hk.keep (Same.tups s6), c5, _, rfl, ifF (by rw [hv]; exact Bool.false_ne_true) ⟨_, rfl, q p _ c5 s6⟩⟩
abbrev s_values : Stmt := top 18
theorem zkb : FnScope ["signs", "size", "cell", "board"] ["signs", "size", "cell"] (defScope s_values) := ⟨rfl, rfl, rfl, by decide +kernel, rfl, by decide +kernel, by decide +kernel⟩
theorem zkc : (defScope s_values).names.lookup (Str.ofString "Board") = some NameKind.globalImplicit := by decide +kernel
theorem zkd : (defScope s_values).names.lookup (Str.ofString "board") = some NameKind.local := by decide +kernel
theorem zke : (defScope s_values).names.lookup (Str.ofString "cell") = some NameKind.local := by decide +kernel
theorem zkf : (defScope s_values).names.lookup (Str.ofString "checked_cell") = some NameKind.globalImplicit := by decide +kernel
theorem zkg : (defScope s_values).names.lookup (Str.ofString "list") = some NameKind.globalImplicit := by decide +kernel
theorem zkh : (defScope s_values).names.lookup (Str.ofString "range") = some NameKind.globalImplicit := by decide +kernel
theorem zki : (defScope s_values).names.lookup (Str.ofString "signs") = some NameKind.local := by decide +kernel
theorem zkj : (defScope s_values).names.lookup (Str.ofString "size") = some NameKind.local := by decide +kernel
def spValues (C : Addr) : Sp := fun vs H Q _ => ∃ (g z c ra : Addr) (ks : List Str) (ts : List TieR) (fs : List FunR) (ns : List Nat) (nm : Str) (r : List Int) (n : Nat), vs = [.ref g, .ref z, .ref c] ∧ SignsAt C H g ks ts fs ∧ BookOk ks ts fs ∧ LT H z (ns.map iV) ∧ SizeOk ks ns ∧ LT H c [.str nm, .ref ra] ∧ LT H ra (r.map V.int) ∧
 ((nm, r), n) ∈ cellsV ks ns ts fs ∧ ∀ l H', H l = none → H' l = some (.lst ((upN n).map V.int)) → Same H H' → Q (.ref l) H'
theorem ok_values {C CB fB : Addr} {fdB : FuncData} (F : FunAt K mg "values" s_values ["signs", "size", "cell"]) (Z : Bl mg) (TB : ClB K CB)
  (M_Board : Mk K CB fB) (G_Board : FnOk P w K mg base CX0 3 fB fdB ["self", "signs", "size"] (spBInit P w C CB)) (m_Board : mg "Board" = some (.ref CB)) (b_Board : Binds K fdB ["self", "signs", "size"] [])
  (D_checked_cell : Def P w K mg base "checked_cell" 2 ["known", "cell"] (spCheckedCell P w)) : Def P w K mg base "values" 5 ["signs", "size", "cell"] (spValues C) := by
 have SC := zkb
 refine F.mk' (k := 4) zkb (fun vs H Q E h => ?_) (fun f cdv A outer s H vs Q E hr h => ?_)
 ·obtain ⟨g, z, c, ra, ks, ts, fs, ns, nm, r, n, rfl, _⟩ := h
  rfl
 ·obtain ⟨g, z, c, ra, ks, ts, fs, ns, nm, r, n, rfl, hS, ok, hz, sz, hc, hra, hm, q⟩ := h
  obtain ⟨n4, r2⟩ := many_le ok sz hm
  refine' ⟨_, ?derivation, ?_⟩
  case derivation =>
   refine' pss_cons ?ka ?kb
   case ka =>
    refine' ps_set (i := 3) (x := Str.ofString "board") ?kc ?kd ?ke ?kf ?kg ?kh
    case kc => exact SC.nd
    case kd => exact rfl
    case ke => exact (Or.inl zkd)
    case kf =>
     refine' pe_make (hdb := zjf) ?ki ?kj ?kk ?kl ?km ?kn ?ko ?kp ?kq ?kr ?ks
     case ki => exact M_Board
     case kj => exact G_Board
     case kk => exact (hr.mono (by decide))
     case kl => exact zkc
     case km => exact m_Board
     case kn => exact b_Board
     case ko => exact .nil
     case kp => exact pass0
     case kq =>
      refine' pa_cons ?kt ?ku ?kv
      case kt => exact (pq 0 (visL zki) zh7 zh8)
      case ku =>
       refine' pa_cons ?kw pa_nil ?kx
       case kw => exact (pq 1 (visL zkj) zh9 zia)
       case kx => rfl
      case kv => rfl
     case kr => rfl
     case ks => rfl
    case kg => rfl
    case kh => exact .inl rfl
   case kb =>
    refine' pss_one ?ky
    case ky =>
     refine' ps_ret ?kz
     case kz =>
      refine' pe_callTy (hn := zby) (hdb := zbx) ?kba ?kbb ?kbc ?kbd ?kbe ?kbf ?kbg
      case kba => exact (call_listR rfl)
      case kbb => exact zkg
      case kbc => exact Z.n_list
      case kbd => exact bt_list
      case kbe =>
       refine' pa_cons ?kbh pa_nil ?kbi
       case kbh =>
        refine' pe_callTy (hn := zjq) (hdb := zjp) ?kbj ?kbk ?kbl ?kbm ?kbn ?kbo ?kbp
        case kbj => exact call_range1
        case kbk => exact zkh
        case kbl => exact Z.n_range
        case kbm => exact bt_range
        case kbn =>
         refine' pa_cons ?kbq pa_nil ?kbr
         case kbq =>
          refine' pe_cget ?kbs ?kbt ?kbu ?kbv
          case kbs => exact (hu2_of hr)
          case kbt =>
           refine' pe_fld ?kbw ?kbx
           case kbw => exact (pq 3 (visL zkd) zjg zjh)
           case kbx => exact rfl
          case kbu =>
           refine' pe_def (hdb := zjk) ?kby ?kbz ?kca ?kcb ?kcc ?kcd
           case kby => exact D_checked_cell
           case kbz => exact (hr.mono (by decide))
           case kca => exact zkf
           case kcb =>
            refine' pa_cons ?kce ?kcf ?kcg
            case kce =>
             refine' pe_fld ?kch ?kci
             case kch => exact (pq 3 (visL zkd) zjg zjh)
             case kci => exact rfl
            case kcf =>
             refine' pa_cons ?kcj pa_nil ?kck
             case kcj => exact (pq 2 (visL zke) zji zjj)
             case kck => rfl
            case kcg => rfl
           case kcc => rfl
           case kcd => rfl
          case kbv =>
           intro _ _
           exact rfl
         case kbr => rfl
        case kbo => rfl
        case kbp => rfl
       case kbi => rfl
      case kbf => rfl
      case kbg => rfl
  refine ⟨_, rfl, _, rfl, fun x dx hx hd nd => ?_⟩
  have s1 := same_make (CB := CB) hx hd nd
  refine ⟨x, dx, g, z, ks, ts, fs, ns, rfl, upd_same, hS.same s1, ok, hz.same s1, sz, fun H2 ⟨dx', mt, mv, cd, e1, e2, e3, e4, e5⟩ t => ⟨rfl, ?_⟩⟩
  have s2 := same_made hx s1 t
  have hv := e5.val (by rw [cellsV_keys]; exact cells_nodup ok) hm
  refine ⟨_, rfl, x, CB, dx', _, _, rfl, e1, TB.cl, TB.nV, flB_values _ _, ?_⟩
  refine ⟨_, rfl, x, CB, dx', _, _, rfl, e1, TB.cl, TB.nV, flB_values _ _, _, rfl, mv, c, ra, cd, nm, r, _, rfl, e3, e4, hc.same s2, hra.same s2, Nat.le_trans r2 (by decide), hv, fun p H3 hp s3 => ?_⟩
  refine ⟨mv, p, cd, (nm, r), _, rfl, rfl, s3 _ _ e3, e4.keep (Same.tups s3), hp, hv, n, rfl, fun rg hrg => ?_⟩
  have s4 := (s2.trans s3).trans (same_new hrg (.rng 0 n))
  refine ⟨rg, n, rfl, upd_same, Nat.le_trans n4 (by decide), fun l hl => q l _ (s4.free hl) upd_same (s4.trans (same_new hl _))⟩
end
end Few

set_option Elab.async false
set_option linter.all false
set_option maxRecDepth 100000
set_option maxHeartbeats 1000000
namespace Few
open PySem L2
theorem zkk : ((Str.ofString "_law_book_here" : Str) == ("__debug__" : Str)) = false := by decide +kernel
theorem zkl : ((Str.ofString "_law_book_here" : Str) == ("__classdict__" : Str)) = false := by decide +kernel
theorem zkm : ((Str.ofString "_law_kind" : Str) == ("__debug__" : Str)) = false := by decide +kernel
theorem zkn : ((Str.ofString "_law_kind" : Str) == ("__classdict__" : Str)) = false := by decide +kernel
theorem zko : ((Str.ofString "_law_longer" : Str) == ("__debug__" : Str)) = false := by decide +kernel
theorem zkp : ((Str.ofString "_law_longer" : Str) == ("__classdict__" : Str)) = false := by decide +kernel
theorem zkq : ((Str.ofString "_law_many" : Str) == ("__debug__" : Str)) = false := by decide +kernel
theorem zkr : ((Str.ofString "_law_row" : Str) == ("__debug__" : Str)) = false := by decide +kernel
theorem zks : ((Str.ofString "_law_row" : Str) == ("__classdict__" : Str)) = false := by decide +kernel
theorem zkt : ((Str.ofString "_law_rows_here" : Str) == ("__debug__" : Str)) = false := by decide +kernel
theorem zku : ((Str.ofString "_law_rows_here" : Str) == ("__classdict__" : Str)) = false := by decide +kernel
theorem zkv : ((Str.ofString "_law_size" : Str) == ("__debug__" : Str)) = false := by decide +kernel
theorem zkw : ((Str.ofString "_law_size" : Str) == ("__classdict__" : Str)) = false := by decide +kernel
theorem zkx : ((Str.ofString "_law_thing" : Str) == ("__debug__" : Str)) = false := by decide +kernel
theorem zky : ((Str.ofString "_law_thing" : Str) == ("__classdict__" : Str)) = false := by decide +kernel
abbrev BookAt (H : Hp) (b : Addr) (ks : List Str) (ts : List TieR) (fs : List FunR) : Prop := RdV Any H (.ref b) (bookL ks ts fs)
theorem BookAt.open {H : Hp} {b : Addr} {ks : List Str} {ts : List TieR} {fs : List FunR} (h : BookAt H b ks ts fs) : ∃ k t f tv fv, H b = some (.tup [.ref k, .ref t, .ref f]) ∧ H k = some (.lst (ks.map V.str)) ∧ H t = some (.lst tv) ∧ RdA Any H tv (ts.map tieL) ∧ H f = some (.lst fv) ∧ RdA Any H fv (fs.map funL) := by
 obtain ⟨_, bx, e, _, hb, hbx⟩ := h.tuple_inv
 cases e
 obtain ⟨kv, tv, fv, rfl, hk, ht, hf⟩ := hbx.three
 obtain ⟨k, kx, rfl, _, hk1, hk2⟩ := hk.list_inv
 obtain rfl := hk2.strs_inv
 obtain ⟨t, tx, rfl, _, ht1, ht2⟩ := ht.list_inv
 obtain ⟨f, fx, rfl, _, hf1, hf2⟩ := hf.list_inv
 exact ⟨k, t, f, tx, fx, hb, hk1, ht1, ht2, hf1, hf2⟩
section
variable {P : Program} {w : World} {K : PySem.W.Frag} {mg : Str → Option Value} {base : Heap}
abbrev s_law_many : Stmt := top 39
theorem zkz : FnScope ["_law_book_here", "_law_size", "_law_kind"] ["_law_book_here", "_law_size", "_law_kind"] (defScope s_law_many) := ⟨rfl, rfl, rfl, by decide +kernel, rfl, by decide +kernel, by decide +kernel⟩
theorem zk0 : (defScope s_law_many).names.lookup (Str.ofString "_law_book_here") = some NameKind.local := by decide +kernel
theorem zk1 : (defScope s_law_many).names.lookup (Str.ofString "_law_kind") = some NameKind.local := by decide +kernel
theorem zk2 : (defScope s_law_many).names.lookup (Str.ofString "_law_size") = some NameKind.local := by decide +kernel
def spMany : Sp := fun vs H Q _ => ∃ (b z : Addr) (ks : List Str) (ts : List TieR) (fs : List FunR) (ns : List Nat) (k : Str), vs = [.ref b, .ref z, .str k] ∧ BookAt H b ks ts fs ∧ H z = some (.lst (ns.map iV)) ∧ SizeOk ks ns ∧ k ∈ ks ∧ Q (.int (many ks ns k)) H
theorem ok_many (F : FunAt K mg "_law_many" s_law_many ["_law_book_here", "_law_size", "_law_kind"]) (Z : Bl mg) : Def P w K mg base "_law_many" 1 ["_law_book_here", "_law_size", "_law_kind"] spMany := by
 have SC := zkz
 refine F.mk' (k := 0) zkz (fun vs H Q E h => ?_) (fun f cdv A outer s H vs Q E hr h => ?_)
 ·obtain ⟨b, z, ks, ts, fs, ns, k, rfl, _⟩ := h
  rfl
 ·obtain ⟨b, z, ks, ts, fs, ns, k, rfl, hb, hz, sz, hk, q⟩ := h
  obtain ⟨kA, tA, fA, tv, fv, b1, k1, t1, t2, f1, f2⟩ := hb.open
  refine' ⟨_, ?derivation, ?_⟩
  case derivation =>
   refine' pss_one ?ka
   case ka =>
    refine' ps_ret ?kb
    case kb =>
     refine' pe_ix ?kc ?kd ?ke ?kf
     case kc => exact ix_list
     case kd => exact (pq 1 (visL zk2) zkv zkw)
     case ke =>
      refine' pe_bm ?kg ?kh ?ki ?kj ?kk ?kl ?km ?kn ?ko ?kp ?kq
      case kg => exact PySem.F.plainAttrs_list
      case kh => exact PySem.F.slot_list_index
      case ki => exact PySem.F.type_list_index
      case kj => exact mt_index
      case kk =>
       refine' pe_ix ?kr ?ks ?kt ?ku
       case kr => exact ix_tup
       case ks => exact (pq 0 (visL zk0) zkk zkl)
       case kt => exact pe_int
       case ku =>
        intro _ _
        exact rfl
      case kl =>
       refine' pa_cons ?kv pa_nil ?kw
       case kv => exact (pq 2 (visL zk1) zkm zkn)
       case kw => rfl
      case km => rfl
      case kn => rfl
      case ko => rfl
      case kp => rfl
      case kq => rfl
     case kf =>
      intro _ _
      exact rfl
  have hi : ks.idxOf k < ns.length := by rw [sz.len]; exact List.idxOf_lt_length_iff.mpr hk
  refine ⟨_, rfl, _, rfl, b, _, _, _, rfl, rfl, SqT.of b1, rfl, .inl ⟨rfl, _, SqL.of k1⟩, _, rfl, kA, ks, k, rfl, rfl, SqL.of k1, hk, ?_⟩
  refine ⟨z, _, _, _, rfl, rfl, SqL.of hz, atI_nat (v := V.int (many ks ns k)) ?_, q⟩
  rw [List.getElem?_map, List.getElem?_eq_getElem hi]
  unfold many
  rw [List.getD_eq_getElem?_getD, List.getElem?_eq_getElem hi]
  rfl
theorem tups_put {H : Hp} {D : Addr} {xs : List V} (h : H D = some (.lst xs)) (o : HO) : Tups H (upd H D o) := fun a ys e => by
 rw [upd_ne (fun z => by rw [z, h] at e; cases e)]; exact e
theorem upN_succ {N j : Nat} (hj : j < N) : (upN N).take (j + 1) = (upN N).take j ++ [(j : Int)] := by
 rw [List.take_succ]
 congr 1
 unfold upN
 rw [List.getElem?_map, List.getElem?_range hj]; rfl
theorem grow_succ {N i : Nat} {rs : List (List Int)} {r : List Int} (h : rs[i]? = some r) : grow N (rs.take (i + 1)) = grow N (rs.take i) ++ (upN N).map fun t => r ++ [t] := by
 rw [List.take_succ, h]
 unfold grow
 rw [List.flatMap_append]
 simp
abbrev s_law_rows : Stmt := top 40
theorem zk3 : FnScope ["_law_book_here", "_law_size", "_law_places", "_law_rows_here", "_law_kind", "_law_longer", "_law_row"] ["_law_book_here", "_law_size", "_law_places"] (defScope s_law_rows) := ⟨rfl, rfl, rfl, by decide +kernel, rfl, by decide +kernel, by decide +kernel⟩
theorem zk4 : (defScope s_law_rows).names.lookup (Str.ofString "_law_book_here") = some NameKind.local := by decide +kernel
theorem zk5 : (defScope s_law_rows).names.lookup (Str.ofString "_law_kind") = some NameKind.local := by decide +kernel
theorem zk6 : (defScope s_law_rows).names.lookup (Str.ofString "_law_longer") = some NameKind.local := by decide +kernel
theorem zk7 : (defScope s_law_rows).names.lookup (Str.ofString "_law_many") = some NameKind.globalImplicit := by decide +kernel
theorem zk8 : (defScope s_law_rows).names.lookup (Str.ofString "_law_places") = some NameKind.local := by decide +kernel
theorem zk9 : (defScope s_law_rows).names.lookup (Str.ofString "_law_row") = some NameKind.cell := by decide +kernel
theorem zla : (defScope s_law_rows).names.lookup (Str.ofString "_law_rows_here") = some NameKind.local := by decide +kernel
theorem zlb : (defScope s_law_rows).names.lookup (Str.ofString "_law_size") = some NameKind.local := by decide +kernel
theorem zlc : (defScope s_law_rows).names.lookup (Str.ofString "range") = some NameKind.globalImplicit := by decide +kernel
theorem zld : CompSc 1 ["_law_thing", "_law_book_here", "_law_size", "_law_places", "_law_rows_here", "_law_kind", "_law_longer", "_law_row"] ["_law_book_here", "_law_size", "_law_places", "_law_rows_here", "_law_kind", "_law_longer", "_law_row"] (defScope s_law_rows) { kind := PySem.ScopeKind.function, names := [ (PySem.Str.ofString ".0", PySem.NameKind.local), (PySem.Str.ofString "_law_thing", PySem.NameKind.local), (PySem.Str.ofString "_law_row", PySem.NameKind.free)], isGenerator := false, isCoroutine := false, more := [] : PySem.Scope } := ⟨rfl, by decide +kernel, by decide +kernel, by decide +kernel, by decide +kernel, rfl, by decide +kernel⟩
theorem zle : ({ kind := PySem.ScopeKind.function, names := [ (PySem.Str.ofString ".0", PySem.NameKind.local), (PySem.Str.ofString "_law_thing", PySem.NameKind.local), (PySem.Str.ofString "_law_row", PySem.NameKind.free)], isGenerator := false, isCoroutine := false, more := [] : PySem.Scope } : Scope).names.lookup (Str.ofString "_law_row") = some NameKind.free := by decide +kernel
theorem zlf : ({ kind := PySem.ScopeKind.function, names := [ (PySem.Str.ofString ".0", PySem.NameKind.local), (PySem.Str.ofString "_law_thing", PySem.NameKind.local), (PySem.Str.ofString "_law_row", PySem.NameKind.free)], isGenerator := false, isCoroutine := false, more := [] : PySem.Scope } : Scope).names.lookup (Str.ofString "_law_thing") = some NameKind.local := by decide +kernel
def spLRows : Sp := fun vs H Q _ => ∃ (b z a : Addr) (ks : List Str) (ts : List TieR) (fs : List FunR) (ns : List Nat) (ps : List Str), vs = [.ref b, .ref z, .ref a] ∧ BookAt H b ks ts fs ∧ H z = some (.lst (ns.map iV)) ∧ SizeOk ks ns ∧ H a = some (.lst (ps.map V.str)) ∧ (∀ p ∈ ps, p ∈ ks) ∧ ps.length ≤ 2 ∧
 ∀ l as H', H l = none → H' l = some (.lst (as.map V.ref)) → RowsIn H' as (rowsAt ks ns ps) → Same H H' → Q (.ref l) H'
theorem ok_lrows (F : FunAt K mg "_law_rows" s_law_rows ["_law_book_here", "_law_size", "_law_places"]) (Z : Bl mg) (D_law_many : Def P w K mg base "_law_many" 1 ["_law_book_here", "_law_size", "_law_kind"] spMany) : Def P w K mg base "_law_rows" 2 ["_law_book_here", "_law_size", "_law_places"] spLRows := by
 have SC := zk3
 refine F.mk' (k := 1) zk3 (fun vs H Q E h => ?_) (fun f cdv A outer s H vs Q E hr h => ?_)
 ·obtain ⟨b, z, a, ks, ts, fs, ns, ps, rfl, _⟩ := h
  rfl
 ·obtain ⟨b, z, a, ks, ts, fs, ns, ps, rfl, hb, hz, ok, ha, hin, h2, q⟩ := h
  refine' ⟨_, ?derivation, ?_⟩
  case derivation =>
   refine' pss_cons ?ka ?kb
   case ka =>
    refine' ps_set (i := 3) (x := Str.ofString "_law_rows_here") ?kc ?kd ?ke ?kf ?kg ?kh
    case kc => exact SC.nd
    case kd => exact rfl
    case ke => exact (Or.inl zla)
    case kf =>
     refine' pe_lst ?ki
     case ki =>
      refine' pa_cons ?kj pa_nil ?kk
      case kj =>
       refine' pe_tup pa_nil
      case kk => rfl
    case kg => rfl
    case kh => exact .inl rfl
   case kb =>
    refine' pss_cons ?kl ?km
    case kl =>
     refine' ps_for ?kn ?ko ?kp ?kq ?kr ?ks
     case kn => exact PassesOwn.never
     case ko => exact rfl
     case kp =>
      refine' pi_list ?kt
      case kt => exact (pq 2 (visL zk8) zc2 zc3)
     case kq =>
      refine' pg_name (i := 4) (x := Str.ofString "_law_kind") ?ku ?kv ?kw ?kx
      case ku => exact SC.nd
      case kv => exact rfl
      case kw => exact (Or.inl zk5)
      case kx => exact (.inl rfl)
     case kr =>
      refine' pss_cons ?ky ?kz
      case ky =>
       refine' ps_set (i := 5) (x := Str.ofString "_law_longer") ?kba ?kbb ?kbc ?kbd ?kbe ?kbf
       case kba => exact SC.nd
       case kbb => exact rfl
       case kbc => exact (Or.inl zk6)
       case kbd =>
        refine' pe_lst pa_nil
       case kbe => rfl
       case kbf => exact .inl rfl
      case kz =>
       refine' pss_cons ?kbg ?kbh
       case kbg =>
        refine' ps_for ?kbi ?kbj ?kbk ?kbl ?kbm ?kbn
        case kbi => exact PassesOwn.never
        case kbj => exact rfl
        case kbk =>
         refine' pi_list ?kbo
         case kbo => exact (pq 3 (visL zla) zkt zku)
        case kbl =>
         refine' pg_name (i := 6) (x := Str.ofString "_law_row") ?kbp ?kbq ?kbr ?kbs
         case kbp => exact SC.nd
         case kbq => exact rfl
         case kbr => exact (Or.inr zk9)
         case kbs => exact (.inl rfl)
        case kbm =>
         refine' pss_one ?kbt
         case kbt =>
          refine' ps_expr ?kbu ?kbv
          case kbu =>
           refine' pe_bm ?kbw ?kbx ?kby ?kbz ?kca ?kcb ?kcc ?kcd ?kce ?kcf ?kcg
           case kbw => exact PySem.F.plainAttrs_list
           case kbx => exact PySem.F.slot_list_extend
           case kby => exact PySem.F.type_list_extend
           case kbz => exact mt_extend
           case kca => exact (pq 5 (visL zk6) zko zkp)
           case kcb =>
            refine' pa_cons ?kch pa_nil ?kci
            case kch =>
             refine' pe_comp ?kcj ?kck ?kcl ?kcm ?kcn ?kco ?kcp
             case kcj => exact noxe
             case kck => exact rfl
             case kcl => exact zld.at
             case kcm =>
              refine' pi_range1 ?kcq ?kcr ?kcs ?kct
              case kcq => exact zlc
              case kcr => exact Z.n_range
              case kcs =>
               refine' pa_cons ?kcu pa_nil ?kcv
               case kcu =>
                refine' pe_def (hdb := zkq) ?kcw ?kcx ?kcy ?kcz ?kda ?kdb
                case kcw => exact D_law_many
                case kcx => exact (hr.mono (by decide))
                case kcy => exact zk7
                case kcz =>
                 refine' pa_cons ?kdc ?kdd ?kde
                 case kdc => exact (pq 0 (visL zk4) zkk zkl)
                 case kdd =>
                  refine' pa_cons ?kdf ?kdg ?kdh
                  case kdf => exact (pq 1 (visL zlb) zkv zkw)
                  case kdg =>
                   refine' pa_cons ?kdi pa_nil ?kdj
                   case kdi => exact (pq 4 (visL zk5) zkm zkn)
                   case kdj => rfl
                  case kdh => rfl
                 case kde => rfl
                case kda => rfl
                case kdb => rfl
               case kcv => rfl
              case kct => rfl
             case kcn =>
              intro _ _ _ _ _
              refine' pg_name (i := 0) ?kdk ?kdl ?kdm ?kdn
              case kdk => exact zld.nd
              case kdl => exact rfl
              case kdm => exact (locO zlf)
              case kdn => exact (.inr (lookup_relabel_local zlf))
             case kco =>
              intro _ _ _ _ _
              refine' pe_op ?kdo ?kdp ?kdq
              case kdo => exact op_catTT
              case kdp => exact (pq 7 (visF zle) zkr zks)
              case kdq =>
               refine' pe_tup ?kdr
               case kdr =>
                refine' pa_cons ?kds pa_nil ?kdt
                case kds => exact (pq 0 (visO zlf) zkx zky)
                case kdt => rfl
             case kcp => intro _; rfl
            case kci => rfl
           case kcc => rfl
           case kcd => rfl
           case kce => rfl
           case kcf => rfl
           case kcg => rfl
          case kbv => rfl
        case kbn => intro _; rfl
       case kbh =>
        refine' pss_one ?kdu
        case kdu =>
         refine' ps_set (i := 3) (x := Str.ofString "_law_rows_here") ?kdv ?kdw ?kdx ?kdy ?kdz ?kea
         case kdv => exact SC.nd
         case kdw => exact rfl
         case kdx => exact (Or.inl zla)
         case kdy => exact (pq 5 (visL zk6) zko zkp)
         case kdz => rfl
         case kea => exact .inl rfl
     case ks => intro _; rfl
    case km =>
     refine' pss_one ?keb
     case keb =>
      refine' ps_ret ?kec
      case kec => exact (pq 3 (visL zla) zkt zku)
  refine ⟨by show 0 ≤ sizeLine; decide, fun t ht => ⟨by show 1 ≤ sizeLine; decide, fun l0 hl0 => ?_⟩⟩
  have s1 : Same H (upd (upd H t (.tup [])) l0 (.lst [.ref t])) := (same_new ht _).trans (same_new hl0 _)
  have et : (upd (upd H t (.tup [])) l0 (.lst [.ref t])) t = some (.tup []) := same_new hl0 _ _ _ upd_same
  have el : (upd (upd H t (.tup [])) l0 (.lst [.ref t])) l0 = some (.lst [.ref t]) := upd_same
  have fl : H l0 = none := (same_new ht (.tup [])).free hl0
  generalize (upd (upd H t (.tup [])) l0 (.lst [.ref t])) = G at s1 et el
  refine ⟨_, rfl, a, rfl, ⟨_, SqL.of (s1 _ _ ha)⟩, for_list (K := K) (a := a) (xs := ps.map V.str) (fun i σ H2 => ∃ (l : Addr) (as : List Addr) (v4 v5 v6 : Option V), σ = [some (.ref b), some (.ref z), some (.ref a), some (.ref l), v4, v5, v6] ∧ Same H H2 ∧ H l = none ∧ H2 l = some (.lst (as.map V.ref)) ∧ RowsIn H2 as (rowsOf ((ps.take i).map (many ks ns))))
   ⟨l0, [t], none, none, none, rfl, s1, fl, el, .cons et .nil⟩ (fun i σ H2 _ ⟨_, _, _, _, _, _, y, _⟩ => SqL.of (y _ _ ha)) ?_ ?_⟩
  ·rintro i y σ H2 hi ⟨l, as, v4, v5, v6, rfl, s2, hl, el, hr2⟩
   rw [List.getElem?_map] at hi
   obtain ⟨k, hk, rfl⟩ := Option.map_eq_some_iff.mp hi
   have hkk := hin k (List.mem_of_getElem? hk)
   obtain ⟨m1, m4⟩ := ok.many hkk
   generalize hrs : rowsOf ((ps.take i).map (many ks ns)) = rs at hr2
   have rsl : rs.length ≤ 16 := by
    rw [← hrs]
    exact rowsAt_le ok (fun p hp => hin p (List.mem_of_mem_take hp)) (by rw [List.length_take]; omega)
   have asl : as.length = rs.length := Paired.length hr2
   have enx : rowsOf ((ps.take (i + 1)).map (many ks ns)) = grow (many ks ns k) rs := by
    rw [List.take_succ, hk, ← hrs, ← rowsOf_snoc]
    show rowsOf (List.map (many ks ns) (ps.take i ++ [k])) = _
    rw [List.map_append]; rfl
   generalize hN : many ks ns k = N at m1 m4 enx
   refine ⟨by show 0 ≤ sizeLine; decide, fun D hD => ?_⟩
   have s3 := same_new hD (.lst [])
   have nlD : l ≠ D := ne_of_none el hD
   refine ⟨_, rfl, l, rfl, ⟨_, SqL.of (s3 _ _ el)⟩, for_list (K := K) (a := l) (xs := as.map V.ref) (fun j σ H3 => ∃ (v6 : Option V) (bs : List Addr), σ = [some (.ref b), some (.ref z), some (.ref a), some (.ref l), some (.str k), some (.ref D), v6] ∧ Same H2 H3 ∧ H3 D = some (.lst (bs.map V.ref)) ∧ RowsIn H3 bs (grow N (rs.take j)))
    ⟨_, [], rfl, s3, upd_same, .nil⟩ (fun j σ H3 _ ⟨_, _, _, y, _⟩ => SqL.of (y _ _ el)) ?_ ?_⟩
   ·rintro j y σ H3 hj ⟨v6, bs, rfl, s4, e4, r4⟩
    rw [List.getElem?_map] at hj
    obtain ⟨ra, hra, rfl⟩ := Option.map_eq_some_iff.mp hj
    obtain ⟨r, hr', er⟩ := Paired.at hr2 hra
    have s04 := s2.trans s4
    have bsl : bs.length ≤ 64 := by
     rw [Paired.length r4, grow_length, List.length_take]
     exact Nat.le_trans (Nat.mul_le_mul (Nat.le_trans (Nat.min_le_right _ _) rsl) m4) (by decide)
    refine ⟨_, rfl, .inl ⟨rfl, _, SqL.of e4⟩, ?_⟩
    refine ⟨_, rfl, _, rfl, _, rfl, b, z, ks, ts, fs, ns, k, rfl, hb.same s04, s04 _ _ hz, ok, hkk, N, by rw [hN], by omega, by omega, ?_⟩
    intro cl C ex s0 Hc
    rw [Int.toNat_natCast]
    refine comp_it1 N (fun i' ys H5 => ∃ cs : List Addr, ys = cs.map V.ref ∧ Same H3 H5 ∧ RowsIn H5 cs (((upN N).take i').map fun u => r ++ [u])) (fun i' x => x = .int (0 + (i' : Int))) ⟨[], rfl, Same.refl _, .nil⟩ (Nat.le_trans m4 (by decide)) (fun i' ys H5 hi' _ _ => go_rng hi') (fun _ _ _ _ => stop_rng) ?_ ?_
    ·rintro i' x ys H5 hi' rfl hy ⟨cs, rfl, s5, r5⟩
     refine ⟨_, rfl, _, rfl, by show 1 ≤ sizeLine; decide, fun p hp => ?_⟩
     have s6 := same_new hp (.tup [V.int (0 + (i' : Int))])
     refine cat_of (s6 _ _ (s5 _ _ (s4 _ _ er))) upd_same (Nat.le_trans (show _ ≤ 100 from ?_) (by decide)) fun p2 H6 hp2 s7 => ⟨cs ++ [p2], by simp, s5.trans (s6.trans s7), ?_⟩
     ·rw [List.length_map]
      have := rowsOf_len (by rw [hrs]; exact List.mem_of_getElem? hr' : r ∈ rowsOf ((ps.take i).map (many ks ns)))
      rw [this, List.length_map, List.length_take]
      show min i ps.length + 1 ≤ 100
      omega
     ·rw [upN_succ hi', List.map_append]
      refine Paired.app (RowsIn.tups (Same.tups (s6.trans s7)) r5) (.cons ?_ .nil)
      rw [hp2, List.map_append]
      simp
    ·rintro ys H5 hy ⟨cs, rfl, s5, r5⟩ D2 hD2
     have s6 := same_new hD2 (.lst (cs.map V.ref))
     rw [List.take_of_length_le (by rw [upN_length]; exact Nat.le_refl _)] at r5
     have e6 := s6 _ _ (s5 _ _ e4)
     have r6 := r5.tups (Same.tups s6)
     have r6' := (r4.tups (Same.tups s5)).tups (Same.tups s6)
     have d6 : (upd H5 D2 (.lst (cs.map V.ref))) D2 = some (.lst (cs.map V.ref)) := upd_same
     have s46 := s4.trans (s5.trans s6)
     generalize (upd H5 D2 (.lst (cs.map V.ref))) = H6 at s6 e6 r6 r6' d6 s46
     have csl : cs.length ≤ 4 := by
      have := Paired.length r6
      rw [List.length_map, upN_length] at this
      omega
     refine ⟨D, D2, _, _, rfl, rfl, e6, d6, Nat.le_trans (show (bs.map V.ref).length + (cs.map V.ref).length ≤ 100 by rw [List.length_map, List.length_map]; omega) (by decide), _, bs ++ cs, rfl, fun c o e => by rw [upd_ne (ne_of_none e hD)]; exact s46 c o e, by rw [upd_same, List.map_append], ?_⟩
     rw [grow_succ hr']
     exact Paired.app (r6'.tups (tups_put e6 _)) (r6.tups (tups_put e6 _))
   ·rintro σ H3 ⟨v6, bs, rfl, s4, e4, r4⟩
    refine ⟨_, rfl, D, bs, _, _, _, rfl, s2.trans s4, s2.free hD, e4, ?_⟩
    rw [List.length_map, asl, List.take_length] at r4
    rw [enx]
    exact r4
  ·rintro σ H2 ⟨l, as, v4, v5, v6, rfl, s2, hl, el, hr2⟩
   refine ⟨_, rfl, q l as H2 hl el ?_ s2⟩
   rw [List.length_map, List.take_length] at hr2
   exact hr2
end
end Few

set_option Elab.async false
set_option linter.all false
set_option maxRecDepth 100000
set_option maxHeartbeats 1000000
namespace Few
open PySem L2
theorem zlg : ((Str.ofString "_law_function" : Str) == ("__debug__" : Str)) = false := by decide +kernel
theorem zlh : ((Str.ofString "_law_function" : Str) == ("__classdict__" : Str)) = false := by decide +kernel
theorem zli : ((Str.ofString "_law_made" : Str) == ("__debug__" : Str)) = false := by decide +kernel
theorem zlj : ((Str.ofString "_law_made" : Str) == ("__classdict__" : Str)) = false := by decide +kernel
theorem zlk : ((Str.ofString "_law_rows" : Str) == ("__debug__" : Str)) = false := by decide +kernel
theorem zll : ((Str.ofString "_law_sign" : Str) == ("__debug__" : Str)) = false := by decide +kernel
theorem zlm : ((Str.ofString "_law_sign" : Str) == ("__classdict__" : Str)) = false := by decide +kernel
theorem zln : ((Str.ofString "_law_tie" : Str) == ("__debug__" : Str)) = false := by decide +kernel
theorem zlo : ((Str.ofString "_law_tie" : Str) == ("__classdict__" : Str)) = false := by decide +kernel
def dOf : TieR ⊕ FunR → PyData
 | .inl t => tieL t
 | .inr t => funL t
def sOf : TieR ⊕ FunR → Str × List Str
 | .inl t => (t.nm, t.ps)
 | .inr t => (t.nm, t.ps)
def sgsOf (ts : List TieR) (fs : List FunR) : List (TieR ⊕ FunR) := ts.map .inl ++ fs.map .inr
theorem sgs_d (ts : List TieR) (fs : List FunR) : ts.map tieL ++ fs.map funL = (sgsOf ts fs).map dOf := by
 unfold sgsOf
 rw [List.map_append, List.map_map, List.map_map]; rfl
def cS (ks : List Str) (ns : List Nat) (g : TieR ⊕ FunR) : List CK := (rowsAt ks ns (sOf g).2).map fun r => ((sOf g).1, r)
theorem flat_map {α β γ : Type} (f : α → β) (g : β → List γ) : ∀ l : List α, (l.map f).flatMap g = l.flatMap fun x => g (f x)
 | [] => rfl
 | x :: r => by rw [List.map_cons, List.flatMap_cons, List.flatMap_cons, flat_map f g r]
theorem cellsOf_sgs (ks : List Str) (ns : List Nat) (ts : List TieR) (fs : List FunR) : (sgsOf ts fs).flatMap (cS ks ns) = cellsOf ks ns ts fs := by
 unfold sgsOf cellsOf
 rw [List.flatMap_append, flat_map, flat_map]; rfl
theorem sgs_len (ts : List TieR) (fs : List FunR) : (sgsOf ts fs).length = ts.length + fs.length := by unfold sgsOf; simp
theorem sgs_ok {ks : List Str} {ts : List TieR} {fs : List FunR} (ok : BookOk ks ts fs) {g : TieR ⊕ FunR} (h : g ∈ sgsOf ts fs) : (sOf g).2.length ≤ 2 ∧ ∀ k ∈ (sOf g).2, k ∈ ks := by
 rcases List.mem_append.mp h with h | h
 ·obtain ⟨t, ht, rfl⟩ := List.mem_map.mp h
  exact (ok.tn t ht).2
 ·obtain ⟨t, ht, rfl⟩ := List.mem_map.mp h
  exact ⟨(ok.fn t ht).2.1, (ok.fn t ht).2.2.1⟩
theorem sign_at {H : Hp} {xs : List V} {gs : List (TieR ⊕ FunR)} (h : RdA Any H xs (gs.map dOf)) {i : Nat} {y : V} (hi : xs[i]? = some y) : ∃ g py pp rest, gs[i]? = some g ∧ y = .ref py ∧ H py = some (.tup (.str (sOf g).1 :: .ref pp :: rest)) ∧ H pp = some (.lst ((sOf g).2.map V.str)) := by
 obtain ⟨d, hd, rd⟩ := h.getV hi
 rw [List.getElem?_map] at hd
 obtain ⟨g, hg, rfl⟩ := Option.map_eq_some_iff.mp hd
 cases g with
 | inl t =>
  obtain ⟨py, px, rfl, _, hpy, hpx⟩ := RdV.tuple_inv rd
  obtain ⟨a1, a2, rfl, r1, r2⟩ := hpx.two
  obtain rfl := r1.str_inv
  obtain ⟨pp, ppx, rfl, _, hpp, hps⟩ := r2.list_inv
  obtain rfl := hps.strs_inv
  exact ⟨_, py, pp, [], hg, rfl, hpy, hpp⟩
 | inr t =>
  obtain ⟨py, px, rfl, _, hpy, hpx⟩ := RdV.tuple_inv rd
  obtain ⟨a1, a2, a3, rfl, r1, r2, r3⟩ := hpx.three
  obtain rfl := r1.str_inv
  obtain ⟨pp, ppx, rfl, _, hpp, hps⟩ := r2.list_inv
  obtain rfl := hps.strs_inv
  exact ⟨_, py, pp, [a3], hg, rfl, hpy, hpp⟩
theorem inj_map {α β : Type} {f : α → β} : ∀ {l : List α}, (l.map f).Nodup → ∀ {x y : α}, x ∈ l → y ∈ l → f x = f y → x = y
 | [], _, _, _, h, _, _ => nomatch h
 | a :: r, n, x, y, hx, hy, e => by
  rw [List.map_cons, List.nodup_cons] at n
  rcases List.mem_cons.mp hx with ex | ux <;> rcases List.mem_cons.mp hy with ey | uy
  ·rw [ex, ey]
  ·rw [ex] at e
   exact absurd (List.mem_map.mpr ⟨y, uy, e.symm⟩) n.1
  ·rw [ey] at e
   exact absurd (List.mem_map.mpr ⟨x, ux, e⟩) n.1
  ·exact inj_map n.2 ux uy e
section
variable {P : Program} {w : World} {K : PySem.W.Frag} {mg : Str → Option Value} {base : Heap}
abbrev s_law_cells : Stmt := top 41
theorem zlp : FnScope ["_law_book_here", "_law_size", "_law_made", "_law_sign"] ["_law_book_here", "_law_size"] (defScope s_law_cells) := ⟨rfl, rfl, rfl, by decide +kernel, rfl, by decide +kernel, by decide +kernel⟩
theorem zlq : (defScope s_law_cells).names.lookup (Str.ofString "_law_book_here") = some NameKind.local := by decide +kernel
theorem zlr : (defScope s_law_cells).names.lookup (Str.ofString "_law_made") = some NameKind.local := by decide +kernel
theorem zls : (defScope s_law_cells).names.lookup (Str.ofString "_law_rows") = some NameKind.globalImplicit := by decide +kernel
theorem zlt : (defScope s_law_cells).names.lookup (Str.ofString "_law_sign") = some NameKind.cell := by decide +kernel
theorem zlu : (defScope s_law_cells).names.lookup (Str.ofString "_law_size") = some NameKind.local := by decide +kernel
theorem zlv : CompSc 1 ["_law_row", "_law_book_here", "_law_size", "_law_made", "_law_sign"] ["_law_book_here", "_law_size", "_law_made", "_law_sign"] (defScope s_law_cells) { kind := PySem.ScopeKind.function, names := [ (PySem.Str.ofString ".0", PySem.NameKind.local), (PySem.Str.ofString "_law_row", PySem.NameKind.local), (PySem.Str.ofString "_law_sign", PySem.NameKind.free)], isGenerator := false, isCoroutine := false, more := [] : PySem.Scope } := ⟨rfl, by decide +kernel, by decide +kernel, by decide +kernel, by decide +kernel, rfl, by decide +kernel⟩
theorem zlw : ({ kind := PySem.ScopeKind.function, names := [ (PySem.Str.ofString ".0", PySem.NameKind.local), (PySem.Str.ofString "_law_row", PySem.NameKind.local), (PySem.Str.ofString "_law_sign", PySem.NameKind.free)], isGenerator := false, isCoroutine := false, more := [] : PySem.Scope } : Scope).names.lookup (Str.ofString "_law_row") = some NameKind.local := by decide +kernel
theorem zlx : ({ kind := PySem.ScopeKind.function, names := [ (PySem.Str.ofString ".0", PySem.NameKind.local), (PySem.Str.ofString "_law_row", PySem.NameKind.local), (PySem.Str.ofString "_law_sign", PySem.NameKind.free)], isGenerator := false, isCoroutine := false, more := [] : PySem.Scope } : Scope).names.lookup (Str.ofString "_law_sign") = some NameKind.free := by decide +kernel
def spLCells : Sp := fun vs H Q _ => ∃ (b z : Addr) (ks : List Str) (ts : List TieR) (fs : List FunR) (ns : List Nat), vs = [.ref b, .ref z] ∧ BookAt H b ks ts fs ∧ BookOk ks ts fs ∧ H z = some (.lst (ns.map iV)) ∧ SizeOk ks ns ∧
 ∀ l as H', H l = none → H' l = some (.lst (as.map V.ref)) → CellsAt H' as (cellsOf ks ns ts fs) → Same H H' → Q (.ref l) H'
theorem ok_lcells (F : FunAt K mg "_law_cells" s_law_cells ["_law_book_here", "_law_size"]) (Z : Bl mg) (D_law_rows : Def P w K mg base "_law_rows" 2 ["_law_book_here", "_law_size", "_law_places"] spLRows) : Def P w K mg base "_law_cells" 3 ["_law_book_here", "_law_size"] spLCells := by
 have SC := zlp
 refine F.mk' (k := 2) zlp (fun vs H Q E h => ?_) (fun f cdv A outer s H vs Q E hr h => ?_)
 ·obtain ⟨b, z, ks, ts, fs, ns, rfl, _⟩ := h
  rfl
 ·obtain ⟨b, z, ks, ts, fs, ns, rfl, hb, ok, hz, sz, q⟩ := h
  obtain ⟨kA, tA, fA, tv, fv, b1, k1, t1, t2, f1, f2⟩ := hb.open
  refine' ⟨_, ?derivation, ?_⟩
  case derivation =>
   refine' pss_cons ?ka ?kb
   case ka =>
    refine' ps_set (i := 2) (x := Str.ofString "_law_made") ?kc ?kd ?ke ?kf ?kg ?kh
    case kc => exact SC.nd
    case kd => exact rfl
    case ke => exact (Or.inl zlr)
    case kf =>
     refine' pe_lst pa_nil
    case kg => rfl
    case kh => exact .inl rfl
   case kb =>
    refine' pss_cons ?ki ?kj
    case ki =>
     refine' ps_for ?kk ?kl ?km ?kn ?ko ?kp
     case kk => exact PassesOwn.never
     case kl => exact rfl
     case km =>
      refine' pi_list ?kq
      case kq =>
       refine' pe_op ?kr ?ks ?kt
       case kr => exact op_cat
       case ks =>
        refine' pe_ix ?ku ?kv ?kw ?kx
        case ku => exact ix_tup
        case kv => exact (pq 0 (visL zlq) zkk zkl)
        case kw => exact pe_int
        case kx =>
         intro _ _
         exact rfl
       case kt =>
        refine' pe_ix ?ky ?kz ?kba ?kbb
        case ky => exact ix_tup
        case kz => exact (pq 0 (visL zlq) zkk zkl)
        case kba => exact pe_int
        case kbb =>
         intro _ _
         exact rfl
     case kn =>
      refine' pg_name (i := 3) (x := Str.ofString "_law_sign") ?kbc ?kbd ?kbe ?kbf
      case kbc => exact SC.nd
      case kbd => exact rfl
      case kbe => exact (Or.inr zlt)
      case kbf => exact (.inl rfl)
     case ko =>
      refine' pss_one ?kbg
      case kbg =>
       refine' ps_expr ?kbh ?kbi
       case kbh =>
        refine' pe_bm ?kbj ?kbk ?kbl ?kbm ?kbn ?kbo ?kbp ?kbq ?kbr ?kbs ?kbt
        case kbj => exact PySem.F.plainAttrs_list
        case kbk => exact PySem.F.slot_list_extend
        case kbl => exact PySem.F.type_list_extend
        case kbm => exact mt_extend
        case kbn => exact (pq 2 (visL zlr) zli zlj)
        case kbo =>
         refine' pa_cons ?kbu pa_nil ?kbv
         case kbu =>
          refine' pe_comp ?kbw ?kbx ?kby ?kbz ?kca ?kcb ?kcc
          case kbw => exact noxe
          case kbx => exact rfl
          case kby => exact zlv.at
          case kbz =>
           refine' pi_list ?kcd
           case kcd =>
            refine' pe_def (hdb := zlk) ?kce ?kcf ?kcg ?kch ?kci ?kcj
            case kce => exact D_law_rows
            case kcf => exact (hr.mono (by decide))
            case kcg => exact zls
            case kch =>
             refine' pa_cons ?kck ?kcl ?kcm
             case kck => exact (pq 0 (visL zlq) zkk zkl)
             case kcl =>
              refine' pa_cons ?kcn ?kco ?kcp
              case kcn => exact (pq 1 (visL zlu) zkv zkw)
              case kco =>
               refine' pa_cons ?kcq pa_nil ?kcr
               case kcq =>
                refine' pe_ix ?kcs ?kct ?kcu ?kcv
                case kcs => exact ix_tup
                case kct => exact (pq 3 (visC zlt) zll zlm)
                case kcu => exact pe_int
                case kcv =>
                 intro _ _
                 exact rfl
               case kcr => rfl
              case kcp => rfl
             case kcm => rfl
            case kci => rfl
            case kcj => rfl
          case kca =>
           intro _ _ _ _ _
           refine' pg_name (i := 0) ?kcw ?kcx ?kcy ?kcz
           case kcw => exact zlv.nd
           case kcx => exact rfl
           case kcy => exact (locO zlw)
           case kcz => exact (.inr (lookup_relabel_local zlw))
          case kcb =>
           intro _ _ _ _ _
           refine' pe_tup ?kda
           case kda =>
            refine' pa_cons ?kdb ?kdc ?kdd
            case kdb =>
             refine' pe_ix ?kde ?kdf ?kdg ?kdh
             case kde => exact ix_tup
             case kdf => exact (pq 4 (visF zlx) zll zlm)
             case kdg => exact pe_int
             case kdh =>
              intro _ _
              exact rfl
            case kdc =>
             refine' pa_cons ?kdi pa_nil ?kdj
             case kdi => exact (pq 0 (visO zlw) zkr zks)
             case kdj => rfl
            case kdd => rfl
          case kcc => intro _; rfl
         case kbv => rfl
        case kbp => rfl
        case kbq => rfl
        case kbr => rfl
        case kbs => rfl
        case kbt => rfl
       case kbi => rfl
     case kp => intro _; rfl
    case kj =>
     refine' pss_one ?kdk
     case kdk =>
      refine' ps_ret ?kdl
      case kdl => exact (pq 2 (visL zlr) zli zlj)
  have sl := ok.sl
  have tvl : tv.length = ts.length := by rw [t2.length, List.length_map]
  have fvl : fv.length = fs.length := by rw [f2.length, List.length_map]
  refine ⟨by show 0 ≤ sizeLine; decide, fun D hD => ?_⟩
  have s1 := same_new hD (.lst [])
  have d1 : (upd H D (.lst [])) D = some (.lst []) := upd_same
  generalize (upd H D (.lst [])) = H1 at s1 d1
  refine ⟨_, rfl, b, _, _, _, rfl, rfl, SqT.of (s1 _ _ b1), rfl, _, rfl, b, _, _, _, rfl, rfl, SqT.of (s1 _ _ b1), rfl, tA, fA, tv, fv, rfl, rfl, s1 _ _ t1, s1 _ _ f1, Nat.le_trans (show tv.length + fv.length ≤ 100 by omega) (by decide), fun L hL => ?_⟩
  have s2 := s1.trans (same_new hL (.lst (tv ++ fv)))
  have l2 : (upd H1 L (.lst (tv ++ fv))) L = some (.lst (tv ++ fv)) := upd_same
  have d2 : (upd H1 L (.lst (tv ++ fv))) D = some (.lst []) := same_new hL _ _ _ d1
  have nLD : L ≠ D := by rintro rfl; rw [d1] at hL; cases hL
  generalize (upd H1 L (.lst (tv ++ fv))) = G at s2 l2 d2
  have nD : ∀ {c : Addr} {o : HO}, H c = some o → c ≠ D := fun e => ne_of_none e hD
  have sg : RdA Any H (tv ++ fv) ((sgsOf ts fs).map dOf) := by rw [← sgs_d]; exact t2.append f2
  have sgl : (sgsOf ts fs).length ≤ 8 := by rw [sgs_len]; exact sl
  have cle : ∀ g ∈ sgsOf ts fs, (cS ks ns g).length ≤ 16 := fun g hg => by unfold cS; rw [List.length_map]; exact rowsAt_le sz (sgs_ok ok hg).2 (sgs_ok ok hg).1
  have allE : (tv ++ fv).length = (sgsOf ts fs).length := by rw [sg.length, List.length_map]
  refine ⟨L, rfl, ⟨_, SqL.of l2⟩, for_list (K := K) (a := L) (xs := tv ++ fv) (fun i σ H2 => ∃ (v3 : Option V) (as : List Addr), σ = [some (.ref b), some (.ref z), some (.ref D), v3] ∧ SameX D G H2 ∧ H2 D = some (.lst (as.map V.ref)) ∧ CellsAt H2 as (((sgsOf ts fs).take i).flatMap (cS ks ns)))
   ⟨_, [], rfl, SameX.refl _ _, d2, .nil⟩ (fun i σ H2 _ ⟨_, _, _, y, _⟩ => SqL.of (y _ _ nLD l2)) ?_ ?_⟩
  ·rintro i y σ H2 hi ⟨v3, as, rfl, s3, e3, c3⟩
   obtain ⟨g, py, pp, rest, hg, rfl, hpy, hpp⟩ := sign_at sg hi
   obtain ⟨g2, gk⟩ := sgs_ok ok (List.mem_of_getElem? hg)
   have S3 : Same H H2 := fun c o e => s3 c o (nD e) (s2 c o e)
   have asl : as.length ≤ 128 := by
    rw [Paired.length c3]
    refine Nat.le_trans (len_flat _ fun x hx => cle x (List.mem_of_mem_take hx)) ?_
    rw [List.length_take]
    exact Nat.le_trans (Nat.mul_le_mul_right 16 (Nat.le_trans (Nat.min_le_right _ _) sgl)) (by decide)
   refine ⟨_, rfl, .inl ⟨rfl, _, SqL.of e3⟩, ?_⟩
   refine ⟨_, rfl, _, rfl, _, rfl, py, _, _, _, rfl, rfl, SqT.of (S3 _ _ hpy), atI_int (x := V.ref pp) (by decide) rfl, b, z, pp, ks, ts, fs, ns, _, rfl, hb.same S3, S3 _ _ hz, sz, S3 _ _ hpp, gk, g2, fun l2 as2 H3 hl2 e4 r4 s4 => ?_⟩
   have rl := rowsAt_le sz gk g2
   have as2l := Paired.length r4
   refine ⟨l2, rfl, ⟨_, SqL.of e4⟩, ?_⟩
   intro cl C ex s0 Hc
   refine comp_it1 as2.length (fun i' ys H5 => ∃ cs : List Addr, ys = cs.map V.ref ∧ Same H3 H5 ∧ CellsAt H5 cs ((cS ks ns g).take i')) (fun i' x => (as2.map V.ref)[i']? = some x) ⟨[], rfl, Same.refl _, .nil⟩ (Nat.le_trans (show as2.length ≤ 16 by omega) (by decide))
    (fun i' ys H5 hi' _ ⟨_, _, y, _⟩ => go_list (SqL.of (y _ _ e4)) (by rw [List.length_map]; exact hi')) (fun ys H5 _ ⟨_, _, y, _⟩ => by have := stop_list (K := K) (SqL.of (K := K) (y _ _ e4)); rw [List.length_map] at this; exact this) ?_ ?_
   ·rintro i' x ys H5 hi' hx hy ⟨cs, rfl, s5, r5⟩
    rw [List.getElem?_map] at hx
    obtain ⟨ra, hra, rfl⟩ := Option.map_eq_some_iff.mp hx
    obtain ⟨r, hr', er⟩ := Paired.at r4 hra
    have S5 := S3.trans (s4.trans s5)
    refine ⟨_, rfl, py, _, _, _, rfl, rfl, SqT.of (S5 _ _ hpy), atI_int (x := V.str (sOf g).1) (by decide) rfl, _, rfl, by show 2 ≤ sizeLine; decide, fun p hp => ?_⟩
    have s6 := same_new hp (.tup [.str (sOf g).1, .ref ra])
    refine ⟨cs ++ [p], by simp, s5.trans s6, ?_⟩
    have hy : (cS ks ns g)[i']? = some ((sOf g).1, r) := by unfold cS; rw [List.getElem?_map, hr']; rfl
    rw [List.take_succ, hy]
    exact Paired.app (CellsAt.tups (Same.tups s6) r5) (.cons ⟨ra, upd_same, s6 _ _ (s5 _ _ er)⟩ .nil)
   ·rintro ys H5 hy ⟨cs, rfl, s5, r5⟩ D2 hD2
    have s6 := same_new hD2 (.lst (cs.map V.ref))
    have e : as2.length = (cS ks ns g).length := by unfold cS; rw [List.length_map]; exact as2l
    rw [e, List.take_length] at r5
    have e6 := s6 _ _ (s5 _ _ (s4 _ _ e3))
    have r6 := r5.tups (Same.tups s6)
    have r6' := c3.tups (Same.tups (s4.trans (s5.trans s6)))
    have d6 : (upd H5 D2 (.lst (cs.map V.ref))) D2 = some (.lst (cs.map V.ref)) := upd_same
    have s36 := s3.same (s4.trans (s5.trans s6))
    generalize (upd H5 D2 (.lst (cs.map V.ref))) = H6 at s6 e6 r6 r6' d6 s36
    have csl : cs.length ≤ 16 := by rw [Paired.length r6]; exact cle g (List.mem_of_getElem? hg)
    refine ⟨D, D2, _, _, rfl, rfl, e6, d6, Nat.le_trans (show (as.map V.ref).length + (cs.map V.ref).length ≤ 200 by rw [List.length_map, List.length_map]; omega) (by decide), _, as ++ cs, rfl, s36.trans (SameX.upd _ _ _), by rw [upd_same, List.map_append], ?_⟩
    rw [flat_succ hg]
    exact Paired.app (r6'.tups (tups_put e6 _)) (r6.tups (tups_put e6 _))
  ·rintro σ H2 ⟨v3, as, rfl, s3, e3, c3⟩
   rw [allE, List.take_length, cellsOf_sgs] at c3
   exact ⟨_, rfl, q D as H2 hD e3 c3 fun c o e => s3 c o (nD e) (s2 c o e)⟩
abbrev s_law_values : Stmt := top 42
theorem zly : FnScope ["_law_book_here", "_law_size", "_law_name", "_law_tie", "_law_function"] ["_law_book_here", "_law_size", "_law_name"] (defScope s_law_values) := ⟨rfl, rfl, rfl, by decide +kernel, rfl, by decide +kernel, by decide +kernel⟩
theorem zlz : (defScope s_law_values).names.lookup (Str.ofString "_law_book_here") = some NameKind.local := by decide +kernel
theorem zl0 : (defScope s_law_values).names.lookup (Str.ofString "_law_function") = some NameKind.local := by decide +kernel
theorem zl1 : (defScope s_law_values).names.lookup (Str.ofString "_law_many") = some NameKind.globalImplicit := by decide +kernel
theorem zl2 : (defScope s_law_values).names.lookup (Str.ofString "_law_name") = some NameKind.local := by decide +kernel
theorem zl3 : (defScope s_law_values).names.lookup (Str.ofString "_law_size") = some NameKind.local := by decide +kernel
theorem zl4 : (defScope s_law_values).names.lookup (Str.ofString "_law_tie") = some NameKind.local := by decide +kernel
theorem zl5 : (defScope s_law_values).names.lookup (Str.ofString "list") = some NameKind.globalImplicit := by decide +kernel
theorem zl6 : (defScope s_law_values).names.lookup (Str.ofString "range") = some NameKind.globalImplicit := by decide +kernel
def valuesOf (ks : List Str) (ns : List Nat) (ts : List TieR) (fs : List FunR) (nm : Str) (n : Nat) : Prop := (∃ t ∈ ts, t.nm = nm ∧ n = 2) ∨ ∃ t ∈ fs, t.nm = nm ∧ n = many ks ns t.kd
def spLValues : Sp := fun vs H Q _ => ∃ (b z : Addr) (ks : List Str) (ts : List TieR) (fs : List FunR) (ns : List Nat) (nm : Str) (n : Nat), vs = [.ref b, .ref z, .str nm] ∧ BookAt H b ks ts fs ∧ BookOk ks ts fs ∧ H z = some (.lst (ns.map iV)) ∧ SizeOk ks ns ∧ valuesOf ks ns ts fs nm n ∧
 ∀ l H', H l = none → H' l = some (.lst ((upN n).map V.int)) → Same H H' → Q (.ref l) H'
theorem ok_lvalues (F : FunAt K mg "_law_values" s_law_values ["_law_book_here", "_law_size", "_law_name"]) (Z : Bl mg) (D_law_many : Def P w K mg base "_law_many" 1 ["_law_book_here", "_law_size", "_law_kind"] spMany) : Def P w K mg base "_law_values" 2 ["_law_book_here", "_law_size", "_law_name"] spLValues := by
 have SC := zly
 refine F.mk' (k := 1) zly (fun vs H Q E h => ?_) (fun f cdv A outer s H vs Q E hr h => ?_)
 ·obtain ⟨b, z, ks, ts, fs, ns, nm, n, rfl, _⟩ := h
  rfl
 ·obtain ⟨b, z, ks, ts, fs, ns, nm, n, rfl, hb, ok, hz, sz, hn, q⟩ := h
  obtain ⟨kA, tA, fA, tv, fv, b1, k1, t1, t2, f1, f2⟩ := hb.open
  refine' ⟨_, ?derivation, ?_⟩
  case derivation =>
   refine' pss_cons ?ka ?kb
   case ka =>
    refine' ps_for ?kc ?kd ?ke ?kf ?kg ?kh
    case kc => exact PassesOwn.never
    case kd => exact rfl
    case ke =>
     refine' pi_list ?ki
     case ki =>
      refine' pe_ix ?kj ?kk ?kl ?km
      case kj => exact ix_tup
      case kk => exact (pq 0 (visL zlz) zkk zkl)
      case kl => exact pe_int
      case km =>
       intro _ _
       exact rfl
    case kf =>
     refine' pg_name (i := 3) (x := Str.ofString "_law_tie") ?kn ?ko ?kp ?kq
     case kn => exact SC.nd
     case ko => exact rfl
     case kp => exact (Or.inl zl4)
     case kq => exact (.inl rfl)
    case kg =>
     refine' pss_one ?kr
     case kr =>
      refine' ps_if ?ks ?kt pss_nil
      case ks =>
       refine' pt_cmpR ?ku ?kv ?kw ?kx
       case ku => exact op_eq
       case kv =>
        refine' pe_ix ?ky ?kz ?kba ?kbb
        case ky => exact ix_tup
        case kz => exact (pq 3 (visL zl4) zln zlo)
        case kba => exact pe_int
        case kbb =>
         intro _ _
         exact rfl
       case kw => exact (pq 2 (visL zl2) zcy zcz)
       case kx => exact (nomark _)
      case kt =>
       refine' pss_one ?kbc
       case kbc =>
        refine' ps_ret ?kbd
        case kbd =>
         refine' pe_lst ?kbe
         case kbe =>
          refine' pa_cons ?kbf ?kbg ?kbh
          case kbf => exact pe_int
          case kbg =>
           refine' pa_cons ?kbi pa_nil ?kbj
           case kbi => exact pe_int
           case kbj => rfl
          case kbh => rfl
    case kh => intro _; rfl
   case kb =>
    refine' pss_cons ?kbk ?kbl
    case kbk =>
     refine' ps_for ?kbm ?kbn ?kbo ?kbp ?kbq ?kbr
     case kbm => exact PassesOwn.never
     case kbn => exact rfl
     case kbo =>
      refine' pi_list ?kbs
      case kbs =>
       refine' pe_ix ?kbt ?kbu ?kbv ?kbw
       case kbt => exact ix_tup
       case kbu => exact (pq 0 (visL zlz) zkk zkl)
       case kbv => exact pe_int
       case kbw =>
        intro _ _
        exact rfl
     case kbp =>
      refine' pg_name (i := 4) (x := Str.ofString "_law_function") ?kbx ?kby ?kbz ?kca
      case kbx => exact SC.nd
      case kby => exact rfl
      case kbz => exact (Or.inl zl0)
      case kca => exact (.inl rfl)
     case kbq =>
      refine' pss_one ?kcb
      case kcb =>
       refine' ps_if ?kcc ?kcd pss_nil
       case kcc =>
        refine' pt_cmpR ?kce ?kcf ?kcg ?kch
        case kce => exact op_eq
        case kcf =>
         refine' pe_ix ?kci ?kcj ?kck ?kcl
         case kci => exact ix_tup
         case kcj => exact (pq 4 (visL zl0) zlg zlh)
         case kck => exact pe_int
         case kcl =>
          intro _ _
          exact rfl
        case kcg => exact (pq 2 (visL zl2) zcy zcz)
        case kch => exact (nomark _)
       case kcd =>
        refine' pss_one ?kcm
        case kcm =>
         refine' ps_ret ?kcn
         case kcn =>
          refine' pe_callTy (hn := zby) (hdb := zbx) ?kco ?kcp ?kcq ?kcr ?kcs ?kct ?kcu
          case kco => exact (call_listR rfl)
          case kcp => exact zl5
          case kcq => exact Z.n_list
          case kcr => exact bt_list
          case kcs =>
           refine' pa_cons ?kcv pa_nil ?kcw
           case kcv =>
            refine' pe_callTy (hn := zjq) (hdb := zjp) ?kcx ?kcy ?kcz ?kda ?kdb ?kdc ?kdd
            case kcx => exact call_range1
            case kcy => exact zl6
            case kcz => exact Z.n_range
            case kda => exact bt_range
            case kdb =>
             refine' pa_cons ?kde pa_nil ?kdf
             case kde =>
              refine' pe_def (hdb := zkq) ?kdg ?kdh ?kdi ?kdj ?kdk ?kdl
              case kdg => exact D_law_many
              case kdh => exact (hr.mono (by decide))
              case kdi => exact zl1
              case kdj =>
               refine' pa_cons ?kdm ?kdn ?kdo
               case kdm => exact (pq 0 (visL zlz) zkk zkl)
               case kdn =>
                refine' pa_cons ?kdp ?kdq ?kdr
                case kdp => exact (pq 1 (visL zl3) zkv zkw)
                case kdq =>
                 refine' pa_cons ?kds pa_nil ?kdt
                 case kds =>
                  refine' pe_ix ?kdu ?kdv ?kdw ?kdx
                  case kdu => exact ix_tup
                  case kdv => exact (pq 4 (visL zl0) zlg zlh)
                  case kdw => exact pe_int
                  case kdx =>
                   intro _ _
                   exact rfl
                 case kdt => rfl
                case kdr => rfl
               case kdo => rfl
              case kdk => rfl
              case kdl => rfl
             case kdf => rfl
            case kdc => rfl
            case kdd => rfl
           case kcw => rfl
          case kct => rfl
          case kcu => rfl
     case kbr => intro _; rfl
    case kbl =>
     refine' pss_one ?kdy
     case kdy =>
      refine' ps_ret ?kdz
      case kdz =>
       refine' pe_lst pa_nil
  have nd := List.nodup_append.mp ok.sn
  have tvl : tv.length = ts.length := by rw [t2.length, List.length_map]
  have fvl : fv.length = fs.length := by rw [f2.length, List.length_map]
  have sgT : RdA Any H tv ((ts.map Sum.inl).map dOf) := by rw [List.map_map]; exact t2
  refine ⟨_, rfl, b, _, _, _, rfl, rfl, SqT.of b1, rfl, tA, rfl, ⟨_, SqL.of t1⟩, for_list (K := K) (a := tA) (xs := tv) (fun i σ H2 => (∃ v3 : Option V, σ = [some (.ref b), some (.ref z), some (.str nm), v3, none]) ∧ H2 = H ∧ ∀ t ∈ ts.take i, t.nm ≠ nm)
   ⟨⟨_, rfl⟩, rfl, (fun _ z => nomatch z)⟩ (fun i σ H2 _ ⟨_, y, _⟩ => by rw [y]; exact SqL.of t1) ?_ ?_⟩
  ·rintro i y σ H2 hi ⟨⟨v3, rfl⟩, rfl, h1⟩
   obtain ⟨g, py, pp, rest, hg, rfl, hpy, hpp⟩ := sign_at sgT hi
   rw [List.getElem?_map] at hg
   obtain ⟨t, ht, rfl⟩ := Option.map_eq_some_iff.mp hg
   refine ⟨_, rfl, py, _, _, _, rfl, rfl, SqT.of hpy, atI_int (x := V.str t.nm) (by decide) rfl, _, rfl, rfl, ?_⟩
   refine ⟨_, rfl, ?_⟩
   refine ite2 (fun e => ?_) (fun e => ?_)
   ·have e' : t.nm = nm := by have := of_decide_eq_true e; exact V.str.inj this
    have n2 : n = 2 := by
     rcases hn with ⟨_, _, _, h⟩ | ⟨u, hu, hu2, _⟩
     ·exact h
     ·exact absurd (e'.trans hu2.symm) (nd.2.2 _ (List.mem_map.mpr ⟨t, List.mem_of_getElem? ht, rfl⟩) _ (List.mem_map.mpr ⟨u, hu, rfl⟩))
    subst n2
    exact ⟨by show 2 ≤ sizeLine; decide, fun l hl => q l _ hl upd_same (same_new hl _)⟩
   ·refine ⟨⟨_, rfl⟩, rfl, fun u hu => ?_⟩
    rw [List.take_succ, ht] at hu
    rcases List.mem_append.mp hu with hu | hu
    ·exact h1 u hu
    ·rw [Option.mem_toList.mp hu |> Option.some.inj |>.symm]
     intro z
     exact e (decide_eq_true (congrArg V.str z))
  ·rintro σ H2 ⟨⟨v3, rfl⟩, rfl, h1⟩
   rw [tvl, List.take_length] at h1
   refine ⟨_, rfl, b, _, _, _, rfl, rfl, SqT.of b1, rfl, fA, rfl, ⟨_, SqL.of f1⟩, for_list (K := K) (a := fA) (xs := fv) (fun i σ H3 => (∃ v4 : Option V, σ = [some (.ref b), some (.ref z), some (.str nm), v3, v4]) ∧ H3 = H2 ∧ ∀ t ∈ fs.take i, t.nm ≠ nm)
    ⟨⟨_, rfl⟩, rfl, (fun _ z => nomatch z)⟩ (fun i σ H3 _ ⟨_, y, _⟩ => by rw [y]; exact SqL.of f1) ?_ ?_⟩
   ·rintro i y σ H3 hi ⟨⟨v4, rfl⟩, rfl, h2⟩
    obtain ⟨d, hd, rd⟩ := f2.getV hi
    rw [List.getElem?_map] at hd
    obtain ⟨t, ht, rfl⟩ := Option.map_eq_some_iff.mp hd
    obtain ⟨py, px, rfl, _, hpy, hpx⟩ := RdV.tuple_inv rd
    obtain ⟨a1, a2, a3, rfl, r1, r2, r3⟩ := hpx.three
    obtain rfl := r1.str_inv
    obtain rfl := r3.str_inv
    refine ⟨_, rfl, py, _, _, _, rfl, rfl, SqT.of hpy, rfl, _, rfl, rfl, ?_⟩
    refine ⟨_, rfl, ?_⟩
    refine ite2 (fun e => ?_) (fun e => ?_)
    ·have e' : t.nm = nm := by have := of_decide_eq_true e; exact V.str.inj this
     have tm := List.mem_of_getElem? ht
     have n2 : n = many ks ns t.kd := by
      rcases hn with ⟨u, hu, hu2, _⟩ | ⟨u, hu, hu2, h⟩
      ·exact absurd hu2 (h1 u hu)
      ·rw [h, inj_map nd.2.1 hu tm (hu2.trans e'.symm)]
     have kk := (ok.fn t tm).2.2.2
     have m4 := (sz.many kk).2
     subst n2
     refine ⟨_, rfl, _, rfl, _, rfl, py, _, _, _, rfl, rfl, SqT.of hpy, rfl, b, z, ks, ts, fs, ns, t.kd, rfl, hb, hz, sz, kk, _, rfl, fun rg hrg => ?_⟩
     have s4 := same_new hrg (.rng 0 (many ks ns t.kd))
     exact ⟨rg, many ks ns t.kd, rfl, upd_same, Nat.le_trans m4 (by decide), fun l hl => q l _ (s4.free hl) upd_same (s4.trans (same_new hl _))⟩
    ·refine ⟨⟨_, rfl⟩, rfl, fun u hu => ?_⟩
     rw [List.take_succ, ht] at hu
     rcases List.mem_append.mp hu with hu | hu
     ·exact h2 u hu
     ·rw [Option.mem_toList.mp hu |> Option.some.inj |>.symm]
      intro z
      exact e (decide_eq_true (congrArg V.str z))
   ·rintro σ H3 ⟨⟨v4, rfl⟩, rfl, h2⟩
    rw [fvl, List.take_length] at h2
    rcases hn with ⟨u, hu, hu2, _⟩ | ⟨u, hu, hu2, _⟩
    ·exact absurd hu2 (h1 u hu)
    ·exact absurd hu2 (h2 u hu)
abbrev s_law_any_size : Stmt := top 43
theorem zl7 : FnScope ["_law_pot_here", "_law_book_here"] ["_law_pot_here", "_law_book_here"] (defScope s_law_any_size) := ⟨rfl, rfl, rfl, by decide +kernel, rfl, by decide +kernel, by decide +kernel⟩
theorem zl8 : (defScope s_law_any_size).names.lookup (Str.ofString "_law_book_here") = some NameKind.local := by decide +kernel
theorem zl9 : CompSc 1 ["_law_kind", "_law_pot_here", "_law_book_here"] ["_law_pot_here", "_law_book_here"] (defScope s_law_any_size) { kind := PySem.ScopeKind.function, names := [ (PySem.Str.ofString ".0", PySem.NameKind.local), (PySem.Str.ofString "_law_kind", PySem.NameKind.local), (PySem.Str.ofString "_law_draw", PySem.NameKind.globalImplicit), (PySem.Str.ofString "_law_pot_here", PySem.NameKind.free)], isGenerator := false, isCoroutine := false, more := [] : PySem.Scope } := ⟨rfl, by decide +kernel, by decide +kernel, by decide +kernel, by decide +kernel, rfl, by decide +kernel⟩
theorem zma : ({ kind := PySem.ScopeKind.function, names := [ (PySem.Str.ofString ".0", PySem.NameKind.local), (PySem.Str.ofString "_law_kind", PySem.NameKind.local), (PySem.Str.ofString "_law_draw", PySem.NameKind.globalImplicit), (PySem.Str.ofString "_law_pot_here", PySem.NameKind.free)], isGenerator := false, isCoroutine := false, more := [] : PySem.Scope } : Scope).names.lookup (Str.ofString "_law_draw") = some NameKind.globalImplicit := by decide +kernel
theorem zmb : ({ kind := PySem.ScopeKind.function, names := [ (PySem.Str.ofString ".0", PySem.NameKind.local), (PySem.Str.ofString "_law_kind", PySem.NameKind.local), (PySem.Str.ofString "_law_draw", PySem.NameKind.globalImplicit), (PySem.Str.ofString "_law_pot_here", PySem.NameKind.free)], isGenerator := false, isCoroutine := false, more := [] : PySem.Scope } : Scope).names.lookup (Str.ofString "_law_kind") = some NameKind.local := by decide +kernel
theorem zmc : ({ kind := PySem.ScopeKind.function, names := [ (PySem.Str.ofString ".0", PySem.NameKind.local), (PySem.Str.ofString "_law_kind", PySem.NameKind.local), (PySem.Str.ofString "_law_draw", PySem.NameKind.globalImplicit), (PySem.Str.ofString "_law_pot_here", PySem.NameKind.free)], isGenerator := false, isCoroutine := false, more := [] : PySem.Scope } : Scope).names.lookup (Str.ofString "_law_pot_here") = some NameKind.free := by decide +kernel
def spAnySize : Sp := fun vs H Q _ => ∃ (p b : Addr) (ks : List Str) (ts : List TieR) (fs : List FunR), vs = [.ref p, .ref b] ∧ PotAt H p ∧ RdV (fun a => a ≠ p) H (.ref b) (bookL ks ts fs) ∧ ks.length ≤ 4 ∧
 ∀ l ns H', H l = none → H' l = some (.lst (ns.map iV)) → SizeOk ks ns → Went p H H' → Q (.ref l) H'
theorem ok_any_size (F : FunAt K mg "_law_any_size" s_law_any_size ["_law_pot_here", "_law_book_here"]) (Z : Bl mg) (D_law_draw : Def P w K mg base "_law_draw" 1 ["_law_pot_here", "_law_many_here"] spDraw) : Def P w K mg base "_law_any_size" 2 ["_law_pot_here", "_law_book_here"] spAnySize := by
 have SC := zl7
 refine F.mk' (k := 1) zl7 (fun vs H Q E h => ?_) (fun f cdv A outer s H vs Q E hr h => ?_)
 ·obtain ⟨p, b, ks, ts, fs, rfl, _⟩ := h
  rfl
 ·obtain ⟨p, b, ks, ts, fs, rfl, hp, hb, hk, q⟩ := h
  obtain ⟨_, bx, e, nbp, hb1, hbx⟩ := hb.tuple_inv
  cases e
  obtain ⟨kv, tv, fv, rfl, hk1, _, _⟩ := hbx.three
  obtain ⟨kA, kx, rfl, nkp, hk2, hk3⟩ := hk1.list_inv
  obtain rfl := hk3.strs_inv
  refine' ⟨_, ?derivation, ?_⟩
  case derivation =>
   refine' pss_one ?ka
   case ka =>
    refine' ps_ret ?kb
    case kb =>
     refine' pe_comp ?kc ?kd ?ke ?kf ?kg ?kh ?ki
     case kc => exact noxe
     case kd => exact rfl
     case ke => exact zl9.at
     case kf =>
      refine' pi_list ?kj
      case kj =>
       refine' pe_ix ?kk ?kl ?km ?kn
       case kk => exact ix_tup
       case kl => exact (pq 1 (visL zl8) zkk zkl)
       case km => exact pe_int
       case kn =>
        intro _ _
        exact rfl
     case kg =>
      intro _ _ _ _ _
      refine' pg_name (i := 0) ?ko ?kp ?kq ?kr
      case ko => exact zl9.nd
      case kp => exact rfl
      case kq => exact (locO zmb)
      case kr => exact (.inr (lookup_relabel_local zmb))
     case kh =>
      intro _ _ _ _ _
      refine' pe_op ?ks ?kt ?ku
      case ks => exact op_add
      case kt => exact pe_int
      case ku =>
       refine' pe_def (hdb := zbe) ?kv ?kw ?kx ?ky ?kz ?kba
       case kv => exact D_law_draw
       case kw => exact (hr.mono (by decide))
       case kx => exact (glO zma)
       case ky =>
        refine' pa_cons ?kbb ?kbc ?kbd
        case kbb => exact (pq 1 (visF zmc) zbn zbo)
        case kbc =>
         refine' pa_cons ?kbe pa_nil ?kbf
         case kbe => exact pe_int
         case kbf => rfl
        case kbd => rfl
       case kz => rfl
       case kba => rfl
     case ki => intro _; rfl
  refine ⟨_, rfl, b, _, _, _, rfl, rfl, SqT.of hb1, rfl, kA, rfl, ⟨_, SqL.of hk2⟩, ?_⟩
  intro cl C ex s0 Hc
  refine comp_it1 ks.length (fun i ys H5 => ∃ ns : List Nat, ys = ns.map iV ∧ Went p H H5 ∧ (∀ n ∈ ns, 1 ≤ n) ∧ ∀ n ∈ ns, n ≤ 4) (fun i x => True) ⟨[], rfl, Went.refl hp, (fun _ z => nomatch z), (fun _ z => nomatch z)⟩ (Nat.le_trans hk (by decide))
   (fun i ys H5 hi _ ⟨_, _, y, _⟩ => ⟨(go_list (K := K) (SqL.of (y.at nkp hk2)) (by rw [List.length_map]; exact hi)).1, fun x H' z => ⟨((go_list (K := K) (SqL.of (y.at nkp hk2)) (by rw [List.length_map]; exact hi)).2 x H' z).1, trivial⟩⟩) (fun ys H5 _ ⟨_, _, y, _⟩ => by have := stop_list (K := K) (SqL.of (K := K) (y.at nkp hk2)); rw [List.length_map] at this; exact this) ?_ ?_
  ·rintro i x ys H5 hi _ hy ⟨ns, rfl, W5, n1, n4⟩
   refine ⟨_, rfl, p, 4, rfl, W5.pot, by decide, by decide, fun r H6 r0 r1 p6 s6 => ?_⟩
   refine ⟨1, r, rfl, rfl, ns ++ [(1 + r).toNat], ?_, W5.mk1 p6 s6, ?_, ?_⟩
   ·rw [List.map_append]
    show _ = _ ++ [V.int ((1 + r).toNat : Int)]
    rw [Int.toNat_of_nonneg (by omega)]
   ·intro n hn
    rcases List.mem_append.mp hn with hn | hn
    ·exact n1 n hn
    ·rw [List.mem_singleton.mp hn]; omega
   ·intro n hn
    rcases List.mem_append.mp hn with hn | hn
    ·exact n4 n hn
    ·rw [List.mem_singleton.mp hn]; omega
  ·rintro ys H5 hy ⟨ns, rfl, W5, n1, n4⟩ D hD
   exact q D ns _ (W5.free hD) upd_same ⟨by simpa using hy, n1, n4⟩ (W5.new hD _)
end
end Few

set_option Elab.async false
set_option linter.all false
set_option maxRecDepth 100000
set_option maxHeartbeats 1000000
namespace Few
open PySem L2
theorem zmd : ((Str.ofString "_law_cells" : Str) == ("__debug__" : Str)) = false := by decide +kernel
theorem zme : ((Str.ofString "_law_due" : Str) == ("__debug__" : Str)) = false := by decide +kernel
theorem zmf : ((Str.ofString "_law_due" : Str) == ("__classdict__" : Str)) = false := by decide +kernel
theorem zmg : ((Str.ofString "_law_handed" : Str) == ("__debug__" : Str)) = false := by decide +kernel
theorem zmh : ((Str.ofString "_law_handed" : Str) == ("__classdict__" : Str)) = false := by decide +kernel
theorem zmi : ((Str.ofString "_law_signs" : Str) == ("__debug__" : Str)) = false := by decide +kernel
theorem zmj : ((Str.ofString "_law_signs" : Str) == ("__classdict__" : Str)) = false := by decide +kernel
theorem zmk : ((Str.ofString "_law_some" : Str) == ("__debug__" : Str)) = false := by decide +kernel
theorem zml : ((Str.ofString "_law_some" : Str) == ("__classdict__" : Str)) = false := by decide +kernel
theorem zmm : ((Str.ofString "_law_told" : Str) == ("__debug__" : Str)) = false := by decide +kernel
theorem zmn : ((Str.ofString "_law_told" : Str) == ("__classdict__" : Str)) = false := by decide +kernel
theorem zmo : ((Str.ofString "_law_values" : Str) == ("__debug__" : Str)) = false := by decide +kernel
theorem zmp : ((Str.ofString "cells" : Str) == ("__debug__" : Str)) = false := by decide +kernel
theorem zmq : ((Str.ofString "repr" : Str) == ("__debug__" : Str)) = false := by decide +kernel
theorem zmr : (Str.ofString "repr" : Str) ≠ "__name__" := by decide +kernel
theorem zms : ((Str.ofString "values" : Str) == ("__debug__" : Str)) = false := by decide +kernel
structure Pr (D W : Nat) (d : PyData) : Prop where
 sh : d.showable = true
 nd : d.hasDict = false
 dp : d.depth ≤ D
 lv : d.leavesShort 8 = true
 wt : d.weight ≤ W
theorem Pr.mono {D D' W W' : Nat} {d : PyData} (h : Pr D W d) (h1 : D ≤ D') (h2 : W ≤ W') : Pr D' W' d := ⟨h.sh, h.nd, Nat.le_trans h.dp h1, h.lv, Nat.le_trans h.wt h2⟩
theorem Pr.all {D W : Nat} : ∀ {ds : List PyData}, (∀ d ∈ ds, Pr D W d) → PyData.showableAll ds = true ∧ PyData.hasDictAll ds = false ∧ PyData.depthAll ds ≤ D ∧ PyData.leavesShortAll 8 ds = true ∧ PyData.weightAll ds ≤ ds.length * (W + 1)
 | [], _ => by simp [PyData.showableAll, PyData.hasDictAll, PyData.depthAll, PyData.leavesShortAll, PyData.weightAll]
 | d :: r, h => by
  obtain ⟨a1, a2, a3, a4, a5⟩ := Pr.all (ds := r) fun x hx => h x (List.mem_cons_of_mem _ hx)
  have p := h d List.mem_cons_self
  refine ⟨?_, ?_, ?_, ?_, ?_⟩
  ·simp only [PyData.showableAll, p.sh, a1, Bool.and_self]
  ·simp only [PyData.hasDictAll, p.nd, a2, Bool.or_self]
  ·simp only [PyData.depthAll]
   have := p.dp
   omega
  ·simp only [PyData.leavesShortAll, p.lv, a4, Bool.and_self]
  ·simp only [PyData.weightAll, List.length_cons, Nat.add_mul]
   have := p.wt
   omega
theorem Pr.list {D W n : Nat} {ds : List PyData} (h : ∀ d ∈ ds, Pr D W d) (hn : ds.length ≤ n) : Pr (D + 1) (n * (W + 1)) (.list ds) := by
 obtain ⟨a1, a2, a3, a4, a5⟩ := Pr.all h
 have := Nat.mul_le_mul_right (W + 1) hn
 exact ⟨by simpa only [PyData.showable] using a1, by simpa only [PyData.hasDict] using a2, by simp only [PyData.depth]; omega, by simpa only [PyData.leavesShort] using a4, by simp only [PyData.weight]; omega⟩
theorem Pr.tuple {D W n : Nat} {ds : List PyData} (h : ∀ d ∈ ds, Pr D W d) (hn : ds.length ≤ n) : Pr (D + 1) (n * (W + 1)) (.tuple ds) := by
 obtain ⟨a1, a2, a3, a4, a5⟩ := Pr.all h
 have := Nat.mul_le_mul_right (W + 1) hn
 exact ⟨by simpa only [PyData.showable] using a1, by simpa only [PyData.hasDict] using a2, by simp only [PyData.depth]; omega, by simpa only [PyData.leavesShort] using a4, by simp only [PyData.weight]; omega⟩
theorem Pr.nm {z : Str} (h : isNm z) : Pr 0 12 (.str z) := by
 refine ⟨rfl, rfl, by simp [PyData.depth], ?_, ?_⟩
 ·simp only [PyData.leavesShort, List.all_eq_true, decide_eq_true_eq]
  intro c hc
  have := h.2.2 c hc
  omega
 ·simp only [PyData.weight]
  have := h.2.1
  simpa using this
theorem Pr.fits {D W : Nat} {d : PyData} (h : Pr D W d) (hD : D ≤ 60) (hW : W ≤ 2 ^ 20) : d.showable = true ∧ d.hasDict = false ∧ d.depth ≤ 60 ∧ d.shown.length ≤ sizeLine :=
 ⟨h.sh, h.nd, Nat.le_trans h.dp hD, PyData.shown_fits (B := 8) (by decide) (by decide) h.lv (Nat.le_trans h.wt hW)⟩
theorem Pr.two {D W : Nat} {a b : PyData} (ha : Pr D W a) (hb : Pr D W b) : ∀ d ∈ [a, b], Pr D W d := fun d hd => by
 rcases List.mem_cons.mp hd with rfl | hd
 ·exact ha
 ·rw [List.mem_singleton.mp hd]; exact hb
theorem Pr.int {i : Int} (h0 : 0 ≤ i) (h4 : i < 4) : Pr 0 12 (.int i) := by
 have : i = 0 ∨ i = 1 ∨ i = 2 ∨ i = 3 := by omega
 rcases this with rfl | rfl | rfl | rfl <;> exact ⟨rfl, rfl, by decide +kernel, by decide +kernel, by decide +kernel⟩
theorem rowsFrom_mem {m : Nat} : ∀ (ns : List Nat) (rows : List (List Int)), (∀ n ∈ ns, n ≤ m) → (∀ r ∈ rows, ∀ t ∈ r, 0 ≤ t ∧ t < (m : Int)) → ∀ r ∈ ns.foldl (fun rows n => grow n rows) rows, ∀ t ∈ r, 0 ≤ t ∧ t < (m : Int)
 | [], _, _, h, r, hr => h r hr
 | n :: ns, rows, hn, h, r, hr => by
  refine rowsFrom_mem ns (grow n rows) (fun x hx => hn x (List.mem_cons_of_mem _ hx)) (fun r hr t ht => ?_) r hr
  obtain ⟨q, hq, hr⟩ := List.mem_flatMap.mp hr
  obtain ⟨u, hu, rfl⟩ := List.mem_map.mp hr
  rcases List.mem_append.mp ht with ht | ht
  ·exact h q hq t ht
  ·rw [List.mem_singleton.mp ht]
   unfold upN at hu
   obtain ⟨i, hi, rfl⟩ := List.mem_map.mp hu
   have := List.mem_range.mp hi
   have := hn n List.mem_cons_self
   omega
theorem rowsAt_mem {ks : List Str} {ns : List Nat} (ok : SizeOk ks ns) {ps : List Str} (hp : ∀ p ∈ ps, p ∈ ks) {r : List Int} (h : r ∈ rowsAt ks ns ps) : ∀ t ∈ r, 0 ≤ t ∧ t < 4 :=
 rowsFrom_mem (m := 4) _ [[]] (fun n hn => by obtain ⟨p, h, rfl⟩ := List.mem_map.mp hn; exact (ok.many (hp p h)).2) (fun r hr t ht => by rw [List.mem_singleton.mp hr] at ht; nomatch ht) r h
def cellD (k : CK) : PyData := .tuple [.str k.1, .tuple (k.2.map PyData.int)]
theorem rda_ints {R : Addr → Prop} {H : Hp} : ∀ ns : List Int, RdA R H (ns.map V.int) (ns.map PyData.int)
 | [] => .nil
 | n :: r => .cons (.int n) (rda_ints r)
theorem CellsAt.rd {H : Hp} : ∀ {as : List Addr} {cs : List CK}, CellsAt H as cs → RdA Any H (as.map V.ref) (cs.map cellD)
 | _, _, .nil => .nil
 | _, _, .cons ⟨b, x, y⟩ t => .cons (.tup trivial x (.cons (.str _) (.cons (.tup trivial y (rda_ints _)) .nil))) (CellsAt.rd t)
theorem cell_from {ks : List Str} {ns : List Nat} {ts : List TieR} {fs : List FunR} (ok : BookOk ks ts fs) (sz : SizeOk ks ns) {k : CK} {n : Nat} (h : (k, n) ∈ cellsV ks ns ts fs) : isNm k.1 ∧ k.2.length ≤ 2 ∧ n ≤ 4 ∧ (∀ t ∈ k.2, 0 ≤ t ∧ t < 4) ∧ valuesOf ks ns ts fs k.1 n := by
 obtain ⟨n4, r2⟩ := many_le ok sz h
 rcases List.mem_append.mp h with h | h
 ·obtain ⟨t, ht, h⟩ := List.mem_flatMap.mp h
  obtain ⟨r, hr, e⟩ := List.mem_map.mp h
  obtain ⟨rfl, rfl⟩ := Prod.mk.inj e
  exact ⟨(ok.tn t ht).1.1, r2, n4, rowsAt_mem sz (ok.tn t ht).2.2 hr, .inl ⟨t, ht, rfl, rfl⟩⟩
 ·obtain ⟨t, ht, h⟩ := List.mem_flatMap.mp h
  obtain ⟨r, hr, e⟩ := List.mem_map.mp h
  obtain ⟨rfl, rfl⟩ := Prod.mk.inj e
  exact ⟨(ok.fn t ht).1.1, r2, n4, rowsAt_mem sz (ok.fn t ht).2.2.1 hr, .inr ⟨t, ht, rfl, rfl⟩⟩
theorem cell_val {ks : List Str} {ns : List Nat} {ts : List TieR} {fs : List FunR} {k : CK} (h : k ∈ cellsOf ks ns ts fs) : ∃ n, (k, n) ∈ cellsV ks ns ts fs := by
 rw [← cellsV_keys] at h
 obtain ⟨x, hx, rfl⟩ := List.mem_map.mp h
 exact ⟨x.2, hx⟩
theorem cells_len {ks : List Str} {ns : List Nat} {ts : List TieR} {fs : List FunR} (ok : BookOk ks ts fs) (sz : SizeOk ks ns) : (cellsOf ks ns ts fs).length ≤ 128 := by
 rw [← cellsOf_sgs]
 refine Nat.le_trans (len_flat (n := 16) _ fun g hg => ?_) ?_
 ·unfold cS; rw [List.length_map]; exact rowsAt_le sz (sgs_ok ok hg).2 (sgs_ok ok hg).1
 ·rw [sgs_len]
  exact Nat.mul_le_mul_right 16 ok.sl
theorem due_pr {ks : List Str} {ns : List Nat} {ts : List TieR} {fs : List FunR} (ok : BookOk ks ts fs) (sz : SizeOk ks ns) : Pr 4 12000 (.list ((cellsOf ks ns ts fs).map cellD)) := by
 refine (Pr.list (D := 2) (W := 90) (n := 128) (fun d hd => ?_) (by rw [List.length_map]; exact cells_len ok sz)).mono (by decide) (by decide)
 obtain ⟨k, hk, rfl⟩ := List.mem_map.mp hd
 obtain ⟨n, hn⟩ := cell_val hk
 obtain ⟨a1, a2, _, a4, _⟩ := cell_from ok sz hn
 refine (Pr.tuple (D := 1) (W := 26) (n := 2) (Pr.two ((Pr.nm a1).mono (by decide) (by decide)) ((Pr.tuple (D := 0) (W := 12) (n := 2) (fun d hd => ?_) (by rw [List.length_map]; exact a2)).mono (by decide) (by decide))) (Nat.le_refl _)).mono (by decide) (by decide)
 obtain ⟨t, ht, rfl⟩ := List.mem_map.mp hd
 exact Pr.int (a4 t ht).1 (a4 t ht).2
theorem vals_pr {n : Nat} (h : n ≤ 4) : Pr 1 60 (.list ((upN n).map PyData.int)) := by
 refine (Pr.list (D := 0) (W := 12) (n := 4) (fun d hd => ?_) (by rw [List.length_map, upN_length]; exact h)).mono (by decide) (by decide)
 obtain ⟨t, ht, rfl⟩ := List.mem_map.mp hd
 unfold upN at ht
 obtain ⟨i, hi, rfl⟩ := List.mem_map.mp ht
 have := List.mem_range.mp hi
 exact Pr.int (by omega) (by omega)
theorem mem_cut {xs : List V} {lo hi : Option Int} {y : V} (h : y ∈ cutV xs lo hi) : y ∈ xs := List.mem_of_mem_drop (List.mem_of_mem_take h)
theorem nat_ints (ns : List Nat) : (ns.map fun (n : Nat) => (n : Int)).map V.int = ns.map iV := by rw [List.map_map]; rfl
section
variable {P : Program} {w : World} {K : PySem.W.Frag} {mg : Str → Option Value} {base : Heap}
abbrev s_law_right : Stmt := top 44
theorem zmt : FnScope ["_law_signs", "_law_book_here", "_law_size", "_law_handed", "_law_due", "_law_told", "_law_name", "_law_row", "_law_some"] ["_law_signs", "_law_book_here", "_law_size", "_law_handed"] (defScope s_law_right) := ⟨rfl, rfl, rfl, by decide +kernel, rfl, by decide +kernel, by decide +kernel⟩
theorem zmu : (defScope s_law_right).names.lookup (Str.ofString "_law_book_here") = some NameKind.local := by decide +kernel
theorem zmv : (defScope s_law_right).names.lookup (Str.ofString "_law_cells") = some NameKind.globalImplicit := by decide +kernel
theorem zmw : (defScope s_law_right).names.lookup (Str.ofString "_law_due") = some NameKind.local := by decide +kernel
theorem zmx : (defScope s_law_right).names.lookup (Str.ofString "_law_handed") = some NameKind.local := by decide +kernel
theorem zmy : (defScope s_law_right).names.lookup (Str.ofString "_law_name") = some NameKind.local := by decide +kernel
theorem zmz : (defScope s_law_right).names.lookup (Str.ofString "_law_row") = some NameKind.local := by decide +kernel
theorem zm0 : (defScope s_law_right).names.lookup (Str.ofString "_law_signs") = some NameKind.local := by decide +kernel
theorem zm1 : (defScope s_law_right).names.lookup (Str.ofString "_law_size") = some NameKind.local := by decide +kernel
theorem zm2 : (defScope s_law_right).names.lookup (Str.ofString "_law_some") = some NameKind.local := by decide +kernel
theorem zm3 : (defScope s_law_right).names.lookup (Str.ofString "_law_told") = some NameKind.local := by decide +kernel
theorem zm4 : (defScope s_law_right).names.lookup (Str.ofString "_law_values") = some NameKind.globalImplicit := by decide +kernel
theorem zm5 : (defScope s_law_right).names.lookup (Str.ofString "cells") = some NameKind.globalImplicit := by decide +kernel
theorem zm6 : (defScope s_law_right).names.lookup (Str.ofString "list") = some NameKind.globalImplicit := by decide +kernel
theorem zm7 : (defScope s_law_right).names.lookup (Str.ofString "repr") = some NameKind.globalImplicit := by decide +kernel
theorem zm8 : (defScope s_law_right).names.lookup (Str.ofString "values") = some NameKind.globalImplicit := by decide +kernel
def spRight (C : Addr) : Sp := fun vs H Q _ => ∃ (g b z hd : Addr) (ks : List Str) (ts : List TieR) (fs : List FunR) (ns : List Nat), vs = [.ref g, .ref b, .ref z, .ref hd] ∧ SignsAt C H g ks ts fs ∧ BookAt H b ks ts fs ∧ BookOk ks ts fs ∧ H z = some (.lst (ns.map iV)) ∧ SizeOk ks ns ∧ LT H hd (ns.map iV) ∧ ∀ H', Same H H' → Q (.bl true) H'
theorem ok_right {C : Addr} (F : FunAt K mg "_law_right" s_law_right ["_law_signs", "_law_book_here", "_law_size", "_law_handed"]) (Z : Bl mg)
  (D_law_cells : Def P w K mg base "_law_cells" 3 ["_law_book_here", "_law_size"] spLCells) (D_cells : Def P w K mg base "cells" 5 ["signs", "size"] (spCells C)) (D_values : Def P w K mg base "values" 5 ["signs", "size", "cell"] (spValues C)) (D_law_values : Def P w K mg base "_law_values" 2 ["_law_book_here", "_law_size", "_law_name"] spLValues) :
  Def P w K mg base "_law_right" 6 ["_law_signs", "_law_book_here", "_law_size", "_law_handed"] (spRight C) := by
 have SC := zmt
 refine F.mk' (k := 5) zmt (fun vs H Q E h => ?_) (fun f cdv A outer s H vs Q E hr h => ?_)
 ·obtain ⟨g, b, z, hd, ks, ts, fs, ns, rfl, _⟩ := h
  rfl
 ·obtain ⟨g, b, z, hd, ks, ts, fs, ns, rfl, hS, hb, ok, hz, sz, hh, q⟩ := h
  obtain ⟨p1, p2, p3, p4⟩ := (due_pr ok sz).fits (by decide) (by decide)
  refine' ⟨_, ?derivation, ?_⟩
  case derivation =>
   refine' pss_cons ?ka ?kb
   case ka =>
    refine' ps_set (i := 4) (x := Str.ofString "_law_due") ?kc ?kd ?ke ?kf ?kg ?kh
    case kc => exact SC.nd
    case kd => exact rfl
    case ke => exact (Or.inl zmw)
    case kf =>
     refine' pe_def (hdb := zmd) ?ki ?kj ?kk ?kl ?km ?kn
     case ki => exact D_law_cells
     case kj => exact (hr.mono (by decide))
     case kk => exact zmv
     case kl =>
      refine' pa_cons ?ko ?kp ?kq
      case ko => exact (pq 1 (visL zmu) zkk zkl)
      case kp =>
       refine' pa_cons ?kr pa_nil ?ks
       case kr => exact (pq 2 (visL zm1) zkv zkw)
       case ks => rfl
      case kq => rfl
     case km => rfl
     case kn => rfl
    case kg => rfl
    case kh => exact .inl rfl
   case kb =>
    refine' pss_cons ?kt ?ku
    case kt =>
     refine' ps_set (i := 5) (x := Str.ofString "_law_told") ?kv ?kw ?kx ?ky ?kz ?kba
     case kv => exact SC.nd
     case kw => exact rfl
     case kx => exact (Or.inl zm3)
     case ky =>
      refine' pe_def (hdb := zmp) ?kbb ?kbc ?kbd ?kbe ?kbf ?kbg
      case kbb => exact D_cells
      case kbc => exact (hr.mono (by decide))
      case kbd => exact zm5
      case kbe =>
       refine' pa_cons ?kbh ?kbi ?kbj
       case kbh => exact (pq 0 (visL zm0) zmi zmj)
       case kbi =>
        refine' pa_cons ?kbk pa_nil ?kbl
        case kbk => exact (pq 3 (visL zmx) zmg zmh)
        case kbl => rfl
       case kbj => rfl
      case kbf => rfl
      case kbg => rfl
     case kz => rfl
     case kba => exact .inl rfl
    case ku =>
     refine' pss_cons ?kbm ?kbn
     case kbm =>
      refine' ps_if ?kbo ?kbp pss_nil
      case kbo =>
       refine' pt_cmpR ?kbq ?kbr ?kbs ?kbt
       case kbq => exact op_ne
       case kbr =>
        refine' pe_callB (hn := zmr) (hdb := zmq) ?kbu ?kbv ?kbw ?kbx ?kby ?kbz ?kca
        case kbu => exact (call_reprD hr)
        case kbv => exact zm7
        case kbw => exact Z.n_repr
        case kbx => exact bt_repr
        case kby =>
         refine' pa_cons ?kcb pa_nil ?kcc
         case kcb => exact (pq 5 (visL zm3) zmm zmn)
         case kcc => rfl
        case kbz => rfl
        case kca => rfl
       case kbs =>
        refine' pe_callB (hn := zmr) (hdb := zmq) ?kcd ?kce ?kcf ?kcg ?kch ?kci ?kcj
        case kcd => exact (call_reprD hr)
        case kce => exact zm7
        case kcf => exact Z.n_repr
        case kcg => exact bt_repr
        case kch =>
         refine' pa_cons ?kck pa_nil ?kcl
         case kck => exact (pq 4 (visL zmw) zme zmf)
         case kcl => rfl
        case kci => rfl
        case kcj => rfl
       case kbt => exact (nomark _)
      case kbp =>
       refine' pss_one ?kcm
       case kcm =>
        refine' ps_ret ?kcn
        case kcn => exact pe_bl
     case kbn =>
      refine' pss_cons ?kco ?kcp
      case kco =>
       refine' ps_expr ?kcq ?kcr
       case kcq =>
        refine' pe_bm0 ?kcs ?kct ?kcu ?kcv ?kcw ?kcx ?kcy
        case kcs => exact PySem.F.plainAttrs_list
        case kct => exact PySem.F.slot_list_clear
        case kcu => exact PySem.F.type_list_clear
        case kcv => exact mt_clear
        case kcw => exact (pq 5 (visL zm3) zmm zmn)
        case kcx => rfl
        case kcy => rfl
       case kcr => rfl
      case kcp =>
       refine' pss_cons ?kcz ?kda
       case kcz =>
        refine' ps_for ?kdb ?kdc ?kdd ?kde ?kdf ?kdg
        case kdb => exact PassesOwn.never
        case kdc => exact rfl
        case kdd =>
         refine' pi_list ?kdh
         case kdh =>
          refine' pe_op ?kdi ?kdj ?kdk
          case kdi => exact op_cat
          case kdj =>
           refine' pe_slice ?kdl ?kdm po_none ?kdn
           case kdl => exact sl_list
           case kdm => exact (pq 4 (visL zmw) zme zmf)
           case kdn =>
            refine' po_some ?kdo
            case kdo => exact pe_int
          case kdk =>
           refine' pe_slice ?kdp ?kdq ?kdr po_none
           case kdp => exact sl_list
           case kdq => exact (pq 4 (visL zmw) zme zmf)
           case kdr =>
            refine' po_some ?kds
            case kds =>
             refine' pe_un ?kdt ?kdu
             case kdt => exact un_neg
             case kdu => exact pe_int
        case kde =>
         refine' pg_tup ?kdv ?kdw ?kdx ?kdy
         case kdv => exact rfl
         case kdw =>
          refine' pgs_cons ?kdz ?kea ?keb
          case kdz =>
           refine' pg_name (i := 6) (x := Str.ofString "_law_name") ?kec ?ked ?kee ?kef
           case kec => exact SC.nd
           case ked => exact rfl
           case kee => exact (Or.inl zmy)
           case kef => exact (.inl rfl)
          case kea =>
           refine' pgs_cons ?keg pgs_nil ?keh
           case keg =>
            refine' pg_name (i := 7) (x := Str.ofString "_law_row") ?kei ?kej ?kek ?kel
            case kei => exact SC.nd
            case kej => exact rfl
            case kek => exact (Or.inl zmz)
            case kel => exact (.inl rfl)
           case keh => rfl
          case keb => rfl
         case kdx => rfl
         case kdy => rfl
        case kdf =>
         refine' pss_cons ?kem ?ken
         case kem =>
          refine' ps_set (i := 8) (x := Str.ofString "_law_some") ?keo ?kep ?keq ?ker ?kes ?ket
          case keo => exact SC.nd
          case kep => exact rfl
          case keq => exact (Or.inl zm2)
          case ker =>
           refine' pe_def (hdb := zms) ?keu ?kev ?kew ?kex ?key ?kez
           case keu => exact D_values
           case kev => exact (hr.mono (by decide))
           case kew => exact zm8
           case kex =>
            refine' pa_cons ?kfa ?kfb ?kfc
            case kfa => exact (pq 0 (visL zm0) zmi zmj)
            case kfb =>
             refine' pa_cons ?kfd ?kfe ?kff
             case kfd => exact (pq 3 (visL zmx) zmg zmh)
             case kfe =>
              refine' pa_cons ?kfg pa_nil ?kfh
              case kfg =>
               refine' pe_tup ?kfi
               case kfi =>
                refine' pa_cons ?kfj ?kfk ?kfl
                case kfj => exact (pq 6 (visL zmy) zcy zcz)
                case kfk =>
                 refine' pa_cons ?kfm pa_nil ?kfn
                 case kfm => exact (pq 7 (visL zmz) zkr zks)
                 case kfn => rfl
                case kfl => rfl
              case kfh => rfl
             case kff => rfl
            case kfc => rfl
           case key => rfl
           case kez => rfl
          case kes => rfl
          case ket => exact .inl rfl
         case ken =>
          refine' pss_cons ?kfo ?kfp
          case kfo =>
           refine' ps_if ?kfq ?kfr pss_nil
           case kfq =>
            refine' pt_cmpR ?kfs ?kft ?kfu ?kfv
            case kfs => exact op_ne
            case kft =>
             refine' pe_callB (hn := zmr) (hdb := zmq) ?kfw ?kfx ?kfy ?kfz ?kga ?kgb ?kgc
             case kfw => exact (call_reprD hr)
             case kfx => exact zm7
             case kfy => exact Z.n_repr
             case kfz => exact bt_repr
             case kga =>
              refine' pa_cons ?kgd pa_nil ?kge
              case kgd => exact (pq 8 (visL zm2) zmk zml)
              case kge => rfl
             case kgb => rfl
             case kgc => rfl
            case kfu =>
             refine' pe_callB (hn := zmr) (hdb := zmq) ?kgf ?kgg ?kgh ?kgi ?kgj ?kgk ?kgl
             case kgf => exact (call_reprD hr)
             case kgg => exact zm7
             case kgh => exact Z.n_repr
             case kgi => exact bt_repr
             case kgj =>
              refine' pa_cons ?kgm pa_nil ?kgn
              case kgm =>
               refine' pe_def (hdb := zmo) ?kgo ?kgp ?kgq ?kgr ?kgs ?kgt
               case kgo => exact D_law_values
               case kgp => exact (hr.mono (by decide))
               case kgq => exact zm4
               case kgr =>
                refine' pa_cons ?kgu ?kgv ?kgw
                case kgu => exact (pq 1 (visL zmu) zkk zkl)
                case kgv =>
                 refine' pa_cons ?kgx ?kgy ?kgz
                 case kgx => exact (pq 2 (visL zm1) zkv zkw)
                 case kgy =>
                  refine' pa_cons ?kha pa_nil ?khb
                  case kha => exact (pq 6 (visL zmy) zcy zcz)
                  case khb => rfl
                 case kgz => rfl
                case kgw => rfl
               case kgs => rfl
               case kgt => rfl
              case kgn => rfl
             case kgk => rfl
             case kgl => rfl
            case kfv => exact (nomark _)
           case kfr =>
            refine' pss_one ?khc
            case khc =>
             refine' ps_ret ?khd
             case khd => exact pe_bl
          case kfp =>
           refine' pss_cons ?khe ?khf
           case khe =>
            refine' ps_expr ?khg ?khh
            case khg =>
             refine' pe_bm ?khi ?khj ?khk ?khl ?khm ?khn ?kho ?khp ?khq ?khr ?khs
             case khi => exact PySem.F.plainAttrs_list
             case khj => exact PySem.F.slot_list_append
             case khk => exact PySem.F.type_list_append
             case khl => exact mt_append
             case khm => exact (pq 8 (visL zm2) zmk zml)
             case khn =>
              refine' pa_cons ?kht pa_nil ?khu
              case kht => exact pe_int
              case khu => rfl
             case kho => rfl
             case khp => rfl
             case khq => rfl
             case khr => rfl
             case khs => rfl
            case khh => rfl
           case khf =>
            refine' pss_one ?khv
            case khv =>
             refine' ps_if ?khw ?khx pss_nil
             case khw =>
              refine' pt_cmpR ?khy ?khz ?kia ?kib
              case khy => exact (op_neI (Nat.lt_of_le_of_lt (Nat.le_add_right _ 2) (hu2_of hr)))
              case khz =>
               refine' pe_def (hdb := zms) ?kic ?kid ?kie ?kif ?kig ?kih
               case kic => exact D_values
               case kid => exact (hr.mono (by decide))
               case kie => exact zm8
               case kif =>
                refine' pa_cons ?kii ?kij ?kik
                case kii => exact (pq 0 (visL zm0) zmi zmj)
                case kij =>
                 refine' pa_cons ?kil ?kim ?kin
                 case kil => exact (pq 3 (visL zmx) zmg zmh)
                 case kim =>
                  refine' pa_cons ?kio pa_nil ?kip
                  case kio =>
                   refine' pe_lst ?kiq
                   case kiq =>
                    refine' pa_cons ?kir ?kis ?kit
                    case kir => exact (pq 6 (visL zmy) zcy zcz)
                    case kis =>
                     refine' pa_cons ?kiu pa_nil ?kiv
                     case kiu =>
                      refine' pe_callTy (hn := zby) (hdb := zbx) ?kiw ?kix ?kiy ?kiz ?kja ?kjb ?kjc
                      case kiw => exact call_list_of
                      case kix => exact zm6
                      case kiy => exact Z.n_list
                      case kiz => exact bt_list
                      case kja =>
                       refine' pa_cons ?kjd pa_nil ?kje
                       case kjd => exact (pq 7 (visL zmz) zkr zks)
                       case kje => rfl
                      case kjb => rfl
                      case kjc => rfl
                     case kiv => rfl
                    case kit => rfl
                  case kip => rfl
                 case kin => rfl
                case kik => rfl
               case kig => rfl
               case kih => rfl
              case kia =>
               refine' pe_def (hdb := zmo) ?kjf ?kjg ?kjh ?kji ?kjj ?kjk
               case kjf => exact D_law_values
               case kjg => exact (hr.mono (by decide))
               case kjh => exact zm4
               case kji =>
                refine' pa_cons ?kjl ?kjm ?kjn
                case kjl => exact (pq 1 (visL zmu) zkk zkl)
                case kjm =>
                 refine' pa_cons ?kjo ?kjp ?kjq
                 case kjo => exact (pq 2 (visL zm1) zkv zkw)
                 case kjp =>
                  refine' pa_cons ?kjr pa_nil ?kjs
                  case kjr => exact (pq 6 (visL zmy) zcy zcz)
                  case kjs => rfl
                 case kjq => rfl
                case kjn => rfl
               case kjj => rfl
               case kjk => rfl
              case kib => exact (nomark _)
             case khx =>
              refine' pss_one ?kjt
              case kjt =>
               refine' ps_ret ?kju
               case kju => exact pe_bl
        case kdg => intro _; rfl
       case kda =>
        refine' pss_one ?kjv
        case kjv =>
         refine' ps_ret ?kjw
         case kjw =>
          refine' pe_and ?kjx ?kjy
          case kjx =>
           refine' pe_cmpR ?kjz ?kka ?kkb ?kkc
           case kjz => exact op_eq
           case kka =>
            refine' pe_callB (hn := zmr) (hdb := zmq) ?kkd ?kke ?kkf ?kkg ?kkh ?kki ?kkj
            case kkd => exact (call_reprD hr)
            case kke => exact zm7
            case kkf => exact Z.n_repr
            case kkg => exact bt_repr
            case kkh =>
             refine' pa_cons ?kkk pa_nil ?kkl
             case kkk =>
              refine' pe_def (hdb := zmp) ?kkm ?kkn ?kko ?kkp ?kkq ?kkr
              case kkm => exact D_cells
              case kkn => exact (hr.mono (by decide))
              case kko => exact zm5
              case kkp =>
               refine' pa_cons ?kks ?kkt ?kku
               case kks => exact (pq 0 (visL zm0) zmi zmj)
               case kkt =>
                refine' pa_cons ?kkv pa_nil ?kkw
                case kkv => exact (pq 3 (visL zmx) zmg zmh)
                case kkw => rfl
               case kku => rfl
              case kkq => rfl
              case kkr => rfl
             case kkl => rfl
            case kki => rfl
            case kkj => rfl
           case kkb =>
            refine' pe_callB (hn := zmr) (hdb := zmq) ?kkx ?kky ?kkz ?kla ?klb ?klc ?kld
            case kkx => exact (call_reprD hr)
            case kky => exact zm7
            case kkz => exact Z.n_repr
            case kla => exact bt_repr
            case klb =>
             refine' pa_cons ?kle pa_nil ?klf
             case kle => exact (pq 4 (visL zmw) zme zmf)
             case klf => rfl
            case klc => rfl
            case kld => rfl
           case kkc => exact (nomark _)
          case kjy =>
           refine' pe_one ?klg
           case klg =>
            refine' pe_cmpR ?klh ?kli ?klj ?klk
            case klh => exact (op_eqI (Nat.lt_of_le_of_lt (Nat.le_add_right _ 2) (hu2_of hr)))
            case kli =>
             refine' pe_callTy (hn := zby) (hdb := zbx) ?kll ?klm ?kln ?klo ?klp ?klq ?klr
             case kll => exact call_list_of
             case klm => exact zm6
             case kln => exact Z.n_list
             case klo => exact bt_list
             case klp =>
              refine' pa_cons ?kls pa_nil ?klt
              case kls => exact (pq 3 (visL zmx) zmg zmh)
              case klt => rfl
             case klq => rfl
             case klr => rfl
            case klj => exact (pq 2 (visL zm1) zkv zkw)
            case klk => exact (nomark _)
  refine ⟨_, rfl, _, rfl, b, z, ks, ts, fs, ns, rfl, hb, ok, hz, sz, fun due as H1 hdue due1 c1 s1 => ?_⟩
  refine ⟨_, rfl, _, rfl, g, hd, ks, ts, fs, ns, rfl, hS.same s1, ok, hh.same s1, sz, fun told bs H2 htold told2 c2 s2 => ?_⟩
  have s02 := s1.trans s2
  have rd2 : RdV Any H2 (.ref due) (.list ((cellsOf ks ns ts fs).map cellD)) := .lst trivial (s2 _ _ due1) (c1.tups (Same.tups s2)).rd
  have rt2 : RdV Any H2 (.ref told) (.list ((cellsOf ks ns ts fs).map cellD)) := .lst trivial told2 c2.rd
  refine ⟨_, rfl, told, _, rfl, rt2.toV, p1, p2, p3, p4, _, rfl, due, _, rfl, rd2.toV, p1, p2, p3, p4, rfl, _, rfl, iteNS rfl ?_⟩
  refine ⟨_, rfl, .inl ⟨rfl, _, SqL.of told2⟩, told, _, rfl, rfl, told2, ?_⟩
  have s13 : Same H1 (upd H2 told (.lst [])) := fun c o e => by rw [upd_ne (ne_of_none e htold)]; exact s2 c o e
  generalize (upd H2 told (.lst [])) = H3 at s13
  have asl : as.length ≤ 128 := by rw [Paired.length c1]; exact cells_len ok sz
  refine ⟨_, rfl, _, rfl, due, _, rfl, SqL.of (s13 _ _ due1), fun x1 hx1 => ?_⟩
  have s4 := same_new hx1 (.lst (cutV (as.map V.ref) none (some 12)))
  refine ⟨_, rfl, _, rfl, _, rfl, due, _, rfl, SqL.of (s4 _ _ (s13 _ _ due1)), fun x2 hx2 => ?_⟩
  have s5 := same_new hx2 (.lst (cutV (as.map V.ref) (some (-12)) none))
  have l1 := cutV_length (as.map V.ref) none (some 12)
  have l2 := cutV_length (as.map V.ref) (some (-12)) none
  rw [List.length_map] at l1 l2
  refine ⟨x1, x2, _, _, rfl, rfl, s5 _ _ upd_same, upd_same, Nat.le_trans (show _ ≤ 300 by omega) (by decide), fun L hL => ?_⟩
  generalize hxs : cutV (as.map V.ref) none (some 12) ++ cutV (as.map V.ref) (some (-12)) none = xs at *
  have inAs : ∀ y ∈ xs, ∃ qa ∈ as, y = V.ref qa := fun y hy => by
   rw [← hxs] at hy
   rcases List.mem_append.mp hy with hy | hy
   ·obtain ⟨qa, h, rfl⟩ := List.mem_map.mp (mem_cut hy)
    exact ⟨qa, h, rfl⟩
   ·obtain ⟨qa, h, rfl⟩ := List.mem_map.mp (mem_cut hy)
    exact ⟨qa, h, rfl⟩
  have sL := s13.trans ((s4.trans s5).trans (same_new hL (.lst xs)))
  have eL : (upd (upd (upd H3 x1 (.lst (cutV (as.map V.ref) none (some 12)))) x2 (.lst (cutV (as.map V.ref) (some (-12)) none))) L (.lst xs)) L = some (.lst xs) := upd_same
  generalize (upd (upd (upd H3 x1 (.lst (cutV (as.map V.ref) none (some 12)))) x2 (.lst (cutV (as.map V.ref) (some (-12)) none))) L (.lst xs)) = HL at sL eL
  refine ⟨L, rfl, ⟨_, SqL.of eL⟩, for_list (K := K) (a := L) (xs := xs) (fun i σ H2 => ∃ v6 v7 v8, σ = [some (.ref g), some (.ref b), some (.ref z), some (.ref hd), some (.ref due), some (.ref told), v6, v7, v8] ∧ Same HL H2)
   ⟨_, _, _, rfl, Same.refl _⟩ (fun i σ H2 _ ⟨_, _, _, _, y⟩ => SqL.of (y _ _ eL)) ?_ ?_⟩
  ·rintro i y σ H5 hi ⟨v6, v7, v8, rfl, s6⟩
   obtain ⟨qa, hqa, rfl⟩ := inAs y (List.mem_of_getElem? hi)
   obtain ⟨j, hj⟩ := List.mem_iff_getElem?.mp hqa
   obtain ⟨k, hk, rb, eq, er⟩ := Paired.at c1 hj
   obtain ⟨n, hn⟩ := cell_val (List.mem_of_getElem? hk)
   obtain ⟨_, _, n4, _, vo⟩ := cell_from ok sz hn
   obtain ⟨v1, v2, v3, v4⟩ := (vals_pr n4).fits (by decide) (by decide)
   have s15 := sL.trans s6
   have s05 := s1.trans s15
   refine ⟨qa, _, rfl, SqT.of (s15 _ _ eq), rfl, _, _, rfl, _, _, rfl, rfl, ?_⟩
   refine ⟨_, rfl, _, rfl, _, rfl, _, rfl, by show 2 ≤ sizeLine; decide, fun c hc => ?_⟩
   have s7 := same_new hc (.tup [.str k.1, .ref rb])
   have c7 : (upd H5 c (.tup [.str k.1, .ref rb])) c = some (.tup [.str k.1, .ref rb]) := upd_same
   generalize (upd H5 c (.tup [.str k.1, .ref rb])) = H7 at s7 c7
   have s07 := s05.trans s7
   refine ⟨g, hd, c, rb, ks, ts, fs, ns, k.1, k.2, n, rfl, hS.same s07, ok, hh.same s07, sz, .inr c7, .inr (s7 _ _ (s15 _ _ er)), hn, fun so H8 hso so8 s8 => ?_⟩
   have s08 := s07.trans s8
   have r8 : RdV Any H8 (.ref so) (.list ((upN n).map PyData.int)) := .lst trivial so8 (rda_ints _)
   refine ⟨_, rfl, so, _, rfl, r8.toV, v1, v2, v3, v4, _, rfl, _, rfl, _, rfl, b, z, ks, ts, fs, ns, k.1, n, rfl, hb.same s08, ok, s08 _ _ hz, sz, vo, fun w1 H9 hw1 w9 s9 => ?_⟩
   have r9 : RdV Any H9 (.ref w1) (.list ((upN n).map PyData.int)) := .lst trivial w9 (rda_ints _)
   refine ⟨w1, _, rfl, r9.toV, v1, v2, v3, v4, rfl, _, rfl, iteNS rfl ?_⟩
   have so9 := s9 _ _ so8
   refine ⟨_, rfl, .inl ⟨rfl, _, SqL.of so9⟩, so, _, _, rfl, rfl, so9, Nat.lt_of_le_of_lt (show _ ≤ 4 by rw [List.length_map, upN_length]; exact n4) (by decide), ?_⟩
   have s10 : Same H7 (upd H9 so (.lst ((upN n).map V.int ++ [.int 7]))) := fun c o e => by rw [upd_ne (ne_of_none e hso)]; exact s9 c o (s8 c o e)
   generalize (upd H9 so (.lst ((upN n).map V.int ++ [.int 7]))) = HA at s10
   have s5A := s7.trans s10
   have s0A := s05.trans s5A
   refine ⟨_, rfl, _, rfl, _, rfl, _, rfl, rb, _, rfl, .inr (SqT.of (s5A _ _ (s15 _ _ er))), fun rl hrl => ?_⟩
   have sB := same_new hrl (.lst (k.2.map V.int))
   refine ⟨by show 2 ≤ sizeLine; decide, fun cl hcl => ?_⟩
   have sC := same_new hcl (.lst [.str k.1, .ref rl])
   have eB : (upd (upd HA rl (.lst (k.2.map V.int))) cl (.lst [.str k.1, .ref rl])) rl = some (.lst (k.2.map V.int)) := sC _ _ upd_same
   have eC : (upd (upd HA rl (.lst (k.2.map V.int))) cl (.lst [.str k.1, .ref rl])) cl = some (.lst [.str k.1, .ref rl]) := upd_same
   have sAC := sB.trans sC
   generalize (upd (upd HA rl (.lst (k.2.map V.int))) cl (.lst [.str k.1, .ref rl])) = HC at sC eB eC sAC
   have s0C := s0A.trans sAC
   refine ⟨g, hd, cl, rl, ks, ts, fs, ns, k.1, k.2, n, rfl, hS.same s0C, ok, hh.same s0C, sz, .inl eC, .inl eB, hn, fun w2 HD hw2 w2D sD => ?_⟩
   have s0D := s0C.trans sD
   refine ⟨_, rfl, _, rfl, _, rfl, b, z, ks, ts, fs, ns, k.1, n, rfl, hb.same s0D, ok, s0D _ _ hz, sz, vo, fun w3 HE hw3 w3E sE => ?_⟩
   refine ⟨w2, w3, upN n, rfl, rfl, SqL.of (sE _ _ w2D), SqL.of w3E, false, rfl, iteF ?_⟩
   exact ⟨_, _, _, rfl, s6.trans (s5A.trans (sAC.trans (sD.trans sE)))⟩
  ·rintro σ H5 ⟨v6, v7, v8, rfl, s6⟩
   have s15 := sL.trans s6
   have s05 := s1.trans s15
   refine ⟨_, rfl, _, rfl, g, hd, ks, ts, fs, ns, rfl, hS.same s05, ok, hh.same s05, sz, fun t2 cs H6 ht2 t26 c6 s7 => ?_⟩
   have s16 := s15.trans s7
   have s06 := s1.trans s16
   have rt6 : RdV Any H6 (.ref t2) (.list ((cellsOf ks ns ts fs).map cellD)) := .lst trivial t26 c6.rd
   have rd6 : RdV Any H6 (.ref due) (.list ((cellsOf ks ns ts fs).map cellD)) := .lst trivial (s16 _ _ due1) (c1.tups (Same.tups s16)).rd
   refine ⟨t2, _, rfl, rt6.toV, p1, p2, p3, p4, _, rfl, due, _, rfl, rd6.toV, p1, p2, p3, p4, rfl, _, rfl, ifT (decide_eq_true rfl) ?_⟩
   refine ⟨_, rfl, hd, ns.map iV, rfl, (hh.same s06).sq, fun l hl => ?_⟩
   have s8 := same_new hl (.lst (ns.map iV))
   refine ⟨_, rfl, l, z, ns.map fun (n : Nat) => (n : Int), rfl, rfl, SqL.of (by rw [nat_ints]; exact upd_same), SqL.of (by rw [nat_ints]; exact s8 _ _ (s06 _ _ hz)), q _ (s06.trans s8)⟩
end
end Few

set_option Elab.async false
set_option linter.all false
set_option maxRecDepth 100000
set_option maxHeartbeats 1000000
namespace Few
open PySem L2
theorem zm9 : ((Str.ofString "Signs" : Str) == ("__debug__" : Str)) = false := by decide +kernel
theorem zna : ((Str.ofString "_law_any_size" : Str) == ("__debug__" : Str)) = false := by decide +kernel
theorem znb : ((Str.ofString "_law_book" : Str) == ("__debug__" : Str)) = false := by decide +kernel
theorem znc : ((Str.ofString "_law_cell" : Str) == ("__debug__" : Str)) = false := by decide +kernel
theorem znd : ((Str.ofString "_law_elder" : Str) == ("__debug__" : Str)) = false := by decide +kernel
theorem zne : ((Str.ofString "_law_elder" : Str) == ("__classdict__" : Str)) = false := by decide +kernel
theorem znf : ((Str.ofString "_law_number" : Str) == ("__debug__" : Str)) = false := by decide +kernel
theorem zng : ((Str.ofString "_law_number" : Str) == ("__classdict__" : Str)) = false := by decide +kernel
theorem znh : ((Str.ofString "_law_one" : Str) == ("__debug__" : Str)) = false := by decide +kernel
theorem zni : ((Str.ofString "_law_one" : Str) == ("__classdict__" : Str)) = false := by decide +kernel
theorem znj : ((Str.ofString "_law_pot" : Str) == ("__debug__" : Str)) = false := by decide +kernel
theorem znk : ((Str.ofString "_law_right" : Str) == ("__debug__" : Str)) = false := by decide +kernel
theorem RdV.keepX {p : Addr} {R : Addr → Prop} {H H' : Hp} {v : V} {d : PyData} (hR : ∀ a, R a → a ≠ p) (h : RdV R H v d) (s : SameX p H H') : RdV R H' v d := h.mono (fun _ z => z) fun a o z e => s a o (hR a z) e
theorem rdv_any {R : Addr → Prop} {H : Hp} {v : V} {d : PyData} (h : RdV R H v d) : RdV Any H v d := h.mono (fun _ _ => trivial) fun _ _ _ e => e
theorem tiesL_sgs {R : Addr → Prop} {H : Hp} : ∀ {ts : List TieR} {tv : List V}, RdA R H tv (ts.map tieL) → ∃ ab : List (Addr × Addr), tv = ab.map (fun q => V.ref q.1) ∧ Sgs H ab (ts.map tieRow)
 | [], _, .nil => ⟨[], rfl, .nil⟩
 | t :: r, _, .cons a b => by
  obtain ⟨ab, rfl, hs⟩ := tiesL_sgs b
  obtain ⟨q1, qx, rfl, _, h1, h2⟩ := RdV.tuple_inv a
  obtain ⟨u, v, rfl, hu, hv⟩ := h2.two
  obtain rfl := hu.str_inv
  obtain ⟨q2, qy, rfl, _, h3, h4⟩ := hv.list_inv
  obtain rfl := h4.strs_inv
  exact ⟨(q1, q2) :: ab, rfl, .cons ⟨.inr h1, .inl h3⟩ hs⟩
theorem funsL_sgs {R : Addr → Prop} {H : Hp} : ∀ {ts : List FunR} {tv : List V}, RdA R H tv (ts.map funL) → ∃ ab : List (Addr × Addr), tv = ab.map (fun q => V.ref q.1) ∧ Sgs H ab (ts.map funRow)
 | [], _, .nil => ⟨[], rfl, .nil⟩
 | t :: r, _, .cons a b => by
  obtain ⟨ab, rfl, hs⟩ := funsL_sgs b
  obtain ⟨q1, qx, rfl, _, h1, h2⟩ := RdV.tuple_inv a
  obtain ⟨u, v, x, rfl, hu, hv, hx⟩ := h2.three
  obtain rfl := hu.str_inv
  obtain rfl := hx.str_inv
  obtain ⟨q2, qy, rfl, _, h3, h4⟩ := hv.list_inv
  obtain rfl := h4.strs_inv
  exact ⟨(q1, q2) :: ab, rfl, .cons ⟨.inr h1, .inl h3⟩ hs⟩
def OneAt (C : Addr) (H : Hp) (t : Addr) : Prop := ∃ (g b z hd : Addr) (ks : List Str) (ts : List TieR) (fs : List FunR) (ns : List Nat), H t = some (.tup [.ref g, .ref b, .ref z, .ref hd]) ∧ SignsAt C H g ks ts fs ∧ BookAt H b ks ts fs ∧ BookOk ks ts fs ∧ H z = some (.lst (ns.map iV)) ∧ SizeOk ks ns ∧ LT H hd (ns.map iV)
theorem OneAt.same {C : Addr} {H H' : Hp} {t : Addr} (h : OneAt C H t) (s : Same H H') : OneAt C H' t := by
 obtain ⟨g, b, z, hd, ks, ts, fs, ns, h1, h2, h3, h4, h5, h6, h7⟩ := h
 exact ⟨g, b, z, hd, ks, ts, fs, ns, s _ _ h1, h2.same s, h3.same s, h4, s _ _ h5, h6, h7.same s⟩
theorem pot_tups {p : Addr} {H H' : Hp} (h : PotAt H p) (s : SameX p H H') : Tups H H' := fun a xs e => s a _ (by
 rintro rfl
 obtain ⟨_, _, _, e', _⟩ := h
 rw [e'] at e; cases e) e
theorem elder_ok : BookOk [("a" : Str)] [] [] where
 kn := by simp
 k1 := by decide
 k4 := by decide
 kn2 := fun k hk => menuK_nm k (by rw [List.mem_singleton.mp hk]; exact List.mem_cons_self)
 sn := by simp
 sl := by decide
 tn := fun _ h => nomatch h
 fn := fun _ h => nomatch h
theorem elder_size : SizeOk [("a" : Str)] [1] := ⟨rfl, by simp, by simp⟩
section
variable {P : Program} {w : World} {K : PySem.W.Frag} {mg : Str → Option Value} {base : Heap}
abbrev s_law : Stmt := top 45
theorem znl : FnScope ["_law_script", "_law_elder", "_law_number", "_law_pot_here", "_law_book_here", "_law_size", "_law_one"] ["_law_script"] (defScope s_law) := ⟨rfl, rfl, rfl, by decide +kernel, rfl, by decide +kernel, by decide +kernel⟩
theorem znm : (defScope s_law).names.lookup (Str.ofString "Signs") = some NameKind.globalImplicit := by decide +kernel
theorem znn : (defScope s_law).names.lookup (Str.ofString "_law_any_size") = some NameKind.globalImplicit := by decide +kernel
theorem zno : (defScope s_law).names.lookup (Str.ofString "_law_book") = some NameKind.globalImplicit := by decide +kernel
theorem znp : (defScope s_law).names.lookup (Str.ofString "_law_book_here") = some NameKind.local := by decide +kernel
theorem znq : (defScope s_law).names.lookup (Str.ofString "_law_cell") = some NameKind.globalImplicit := by decide +kernel
theorem znr : (defScope s_law).names.lookup (Str.ofString "_law_draw") = some NameKind.globalImplicit := by decide +kernel
theorem zns : (defScope s_law).names.lookup (Str.ofString "_law_elder") = some NameKind.local := by decide +kernel
theorem znt : (defScope s_law).names.lookup (Str.ofString "_law_number") = some NameKind.local := by decide +kernel
theorem znu : (defScope s_law).names.lookup (Str.ofString "_law_one") = some NameKind.local := by decide +kernel
theorem znv : (defScope s_law).names.lookup (Str.ofString "_law_pot") = some NameKind.globalImplicit := by decide +kernel
theorem znw : (defScope s_law).names.lookup (Str.ofString "_law_pot_here") = some NameKind.local := by decide +kernel
theorem znx : (defScope s_law).names.lookup (Str.ofString "_law_right") = some NameKind.globalImplicit := by decide +kernel
theorem zny : (defScope s_law).names.lookup (Str.ofString "_law_script") = some NameKind.local := by decide +kernel
theorem znz : (defScope s_law).names.lookup (Str.ofString "_law_size") = some NameKind.local := by decide +kernel
theorem zn0 : (defScope s_law).names.lookup (Str.ofString "tuple") = some NameKind.globalImplicit := by decide +kernel
def spLaw (K : PySem.W.Frag) : Sp := fun vs H Q _ => ∃ (a : Addr) (ns : List Int), vs = [.ref a] ∧ SqL K H a (ns.map V.int) ∧ ns.length ≤ 63 ∧ ∀ H', Q (.bl true) H'
theorem ok_law {C fI fL : Addr} {fdI fdL : FuncData} (F : Fun K "law" "law" s_law fL fdL) (Z : Bl mg) (D_law_cell : Def P w K mg base "_law_cell" 1 ["_law_script", "_law_k"] (spCell (K := K))) (D_law_pot : Def P w K mg base "_law_pot" 1 ["_law_cell_here"] spPot)
  (D_law_draw : Def P w K mg base "_law_draw" 1 ["_law_pot_here", "_law_many_here"] spDraw) (D_law_book : Def P w K mg base "_law_book" 3 ["_law_pot_here", "_law_most_kinds", "_law_most_signs"] spBook) (D_law_any_size : Def P w K mg base "_law_any_size" 2 ["_law_pot_here", "_law_book_here"] spAnySize)
  (D_law_right : Def P w K mg base "_law_right" 6 ["_law_signs", "_law_book_here", "_law_size", "_law_handed"] (spRight C))
  (M_Signs : Mk K C fI) (G_Signs : FnOk P w K mg base CX0 5 fI fdI ["self", "kinds", "ties", "functions"] (spInit C)) (m_Signs : mg "Signs" = some (.ref C)) (b_Signs : Binds K fdI ["self", "kinds", "ties", "functions"] []) :
  FnOk P w K mg base CX0 7 fL fdL ["_law_script"] (spLaw K) := by
 have SC := znl
 refine F.ok (k := 6) znl (fun vs H Q E h => ?_) (fun cdv A outer s H vs Q E hr h => ?_)
 ·obtain ⟨a, ns, rfl, _⟩ := h
  rfl
 ·obtain ⟨aS, ns, rfl, hS, hns, q⟩ := h
  refine' ⟨_, ?derivation, ?_⟩
  case derivation =>
   refine' pss_cons ?ka ?kb
   case ka =>
    refine' ps_set (i := 1) (x := Str.ofString "_law_elder") ?kc ?kd ?ke ?kf ?kg ?kh
    case kc => exact SC.nd
    case kd => exact rfl
    case ke => exact (Or.inl zns)
    case kf =>
     refine' pe_tup ?ki
     case ki =>
      refine' pa_cons ?kj ?kk ?kl
      case kj =>
       refine' pe_make (hdb := zm9) ?km ?kn ?ko ?kp ?kq ?kr ?ks ?kt ?ku ?kv ?kw
       case km => exact M_Signs
       case kn => exact G_Signs
       case ko => exact (hr.mono (by decide))
       case kp => exact znm
       case kq => exact m_Signs
       case kr => exact b_Signs
       case ks => exact .nil
       case kt => exact pass0
       case ku =>
        refine' pa_cons ?kx ?ky ?kz
        case kx =>
         refine' pe_lst ?kba
         case kba =>
          refine' pa_cons ?kbb pa_nil ?kbc
          case kbb => exact pe_str
          case kbc => rfl
        case ky =>
         refine' pa_cons ?kbd ?kbe ?kbf
         case kbd =>
          refine' pe_lst pa_nil
         case kbe =>
          refine' pa_cons ?kbg pa_nil ?kbh
          case kbg =>
           refine' pe_lst pa_nil
          case kbh => rfl
         case kbf => rfl
        case kz => rfl
       case kv => rfl
       case kw => rfl
      case kk =>
       refine' pa_cons ?kbi ?kbj ?kbk
       case kbi =>
        refine' pe_tup ?kbl
        case kbl =>
         refine' pa_cons ?kbm ?kbn ?kbo
         case kbm =>
          refine' pe_lst ?kbp
          case kbp =>
           refine' pa_cons ?kbq pa_nil ?kbr
           case kbq => exact pe_str
           case kbr => rfl
         case kbn =>
          refine' pa_cons ?kbs ?kbt ?kbu
          case kbs =>
           refine' pe_lst pa_nil
          case kbt =>
           refine' pa_cons ?kbv pa_nil ?kbw
           case kbv =>
            refine' pe_lst pa_nil
           case kbw => rfl
          case kbu => rfl
         case kbo => rfl
       case kbj =>
        refine' pa_cons ?kbx ?kby ?kbz
        case kbx =>
         refine' pe_lst ?kca
         case kca =>
          refine' pa_cons ?kcb pa_nil ?kcc
          case kcb => exact pe_int
          case kcc => rfl
        case kby =>
         refine' pa_cons ?kcd pa_nil ?kce
         case kcd =>
          refine' pe_lst ?kcf
          case kcf =>
           refine' pa_cons ?kcg pa_nil ?kch
           case kcg => exact pe_int
           case kch => rfl
         case kce => rfl
        case kbz => rfl
       case kbk => rfl
      case kl => rfl
    case kg => rfl
    case kh => exact .inl rfl
   case kb =>
    refine' pss_cons ?kci ?kcj
    case kci =>
     refine' ps_for ?kck ?kcl ?kcm ?kcn ?kco ?kcp
     case kck => exact PassesOwn.never
     case kcl => exact rfl
     case kcm =>
      refine' pi_list ?kcq
      case kcq =>
       refine' pe_op ?kcr ?kcs ?kct
       case kcr => exact op_cat
       case kcs =>
        refine' pe_lst ?kcu
        case kcu =>
         refine' pa_cons ?kcv pa_nil ?kcw
         case kcv =>
          refine' pe_def (hdb := znc) ?kcx ?kcy ?kcz ?kda ?kdb ?kdc
          case kcx => exact D_law_cell
          case kcy => exact (hr.mono (by decide))
          case kcz => exact znq
          case kda =>
           refine' pa_cons ?kdd ?kde ?kdf
           case kdd => exact (pq 0 (visL zny) zbp zbq)
           case kde =>
            refine' pa_cons ?kdg pa_nil ?kdh
            case kdg => exact pe_int
            case kdh => rfl
           case kdf => rfl
          case kdb => rfl
          case kdc => rfl
         case kcw => rfl
       case kct =>
        refine' pe_slice ?kdi ?kdj ?kdk ?kdl
        case kdi => exact sl_list
        case kdj => exact (pq 0 (visL zny) zbp zbq)
        case kdk =>
         refine' po_some ?kdm
         case kdm => exact pe_int
        case kdl =>
         refine' po_some ?kdn
         case kdn => exact pe_int
     case kcn =>
      refine' pg_name (i := 2) (x := Str.ofString "_law_number") ?kdo ?kdp ?kdq ?kdr
      case kdo => exact SC.nd
      case kdp => exact rfl
      case kdq => exact (Or.inl znt)
      case kdr => exact (.inl rfl)
     case kco =>
      refine' pss_cons ?kds ?kdt
      case kds =>
       refine' ps_set (i := 3) (x := Str.ofString "_law_pot_here") ?kdu ?kdv ?kdw ?kdx ?kdy ?kdz
       case kdu => exact SC.nd
       case kdv => exact rfl
       case kdw => exact (Or.inl znw)
       case kdx =>
        refine' pe_def (hdb := znj) ?kea ?keb ?kec ?ked ?kee ?kef
        case kea => exact D_law_pot
        case keb => exact (hr.mono (by decide))
        case kec => exact znv
        case ked =>
         refine' pa_cons ?keg pa_nil ?keh
         case keg => exact (pq 2 (visL znt) znf zng)
         case keh => rfl
        case kee => rfl
        case kef => rfl
       case kdy => rfl
       case kdz => exact .inl rfl
      case kdt =>
       refine' pss_cons ?kei ?kej
       case kei =>
        refine' ps_set (i := 4) (x := Str.ofString "_law_book_here") ?kek ?kel ?kem ?ken ?keo ?kep
        case kek => exact SC.nd
        case kel => exact rfl
        case kem => exact (Or.inl znp)
        case ken =>
         refine' pe_def (hdb := znb) ?keq ?ker ?kes ?ket ?keu ?kev
         case keq => exact D_law_book
         case ker => exact (hr.mono (by decide))
         case kes => exact zno
         case ket =>
          refine' pa_cons ?kew ?kex ?key
          case kew => exact (pq 3 (visL znw) zbn zbo)
          case kex =>
           refine' pa_cons ?kez ?kfa ?kfb
           case kez => exact pe_int
           case kfa =>
            refine' pa_cons ?kfc pa_nil ?kfd
            case kfc => exact pe_int
            case kfd => rfl
           case kfb => rfl
          case key => rfl
         case keu => rfl
         case kev => rfl
        case keo => rfl
        case kep => exact .inl rfl
       case kej =>
        refine' pss_cons ?kfe ?kff
        case kfe =>
         refine' ps_set (i := 5) (x := Str.ofString "_law_size") ?kfg ?kfh ?kfi ?kfj ?kfk ?kfl
         case kfg => exact SC.nd
         case kfh => exact rfl
         case kfi => exact (Or.inl znz)
         case kfj =>
          refine' pe_def (hdb := zna) ?kfm ?kfn ?kfo ?kfp ?kfq ?kfr
          case kfm => exact D_law_any_size
          case kfn => exact (hr.mono (by decide))
          case kfo => exact znn
          case kfp =>
           refine' pa_cons ?kfs ?kft ?kfu
           case kfs => exact (pq 3 (visL znw) zbn zbo)
           case kft =>
            refine' pa_cons ?kfv pa_nil ?kfw
            case kfv => exact (pq 4 (visL znp) zkk zkl)
            case kfw => rfl
           case kfu => rfl
          case kfq => rfl
          case kfr => rfl
         case kfk => rfl
         case kfl => exact .inl rfl
        case kff =>
         refine' pss_cons ?kfx ?kfy
         case kfx =>
          refine' ps_set (i := 6) (x := Str.ofString "_law_one") ?kfz ?kga ?kgb ?kgc ?kgd ?kge
          case kfz => exact SC.nd
          case kga => exact rfl
          case kgb => exact (Or.inl znu)
          case kgc =>
           refine' pe_tup ?kgf
           case kgf =>
            refine' pa_cons ?kgg ?kgh ?kgi
            case kgg =>
             refine' pe_make (hdb := zm9) ?kgj ?kgk ?kgl ?kgm ?kgn ?kgo ?kgp ?kgq ?kgr ?kgs ?kgt
             case kgj => exact M_Signs
             case kgk => exact G_Signs
             case kgl => exact (hr.mono (by decide))
             case kgm => exact znm
             case kgn => exact m_Signs
             case kgo => exact b_Signs
             case kgp => exact .nil
             case kgq => exact pass0
             case kgr =>
              refine' pa_cons ?kgu ?kgv ?kgw
              case kgu =>
               refine' pe_ix ?kgx ?kgy ?kgz ?kha
               case kgx => exact ix_tup
               case kgy => exact (pq 4 (visL znp) zkk zkl)
               case kgz => exact pe_int
               case kha =>
                intro _ _
                exact rfl
              case kgv =>
               refine' pa_cons ?khb ?khc ?khd
               case khb =>
                refine' pe_ix ?khe ?khf ?khg ?khh
                case khe => exact ix_tup
                case khf => exact (pq 4 (visL znp) zkk zkl)
                case khg => exact pe_int
                case khh =>
                 intro _ _
                 exact rfl
               case khc =>
                refine' pa_cons ?khi pa_nil ?khj
                case khi =>
                 refine' pe_ix ?khk ?khl ?khm ?khn
                 case khk => exact ix_tup
                 case khl => exact (pq 4 (visL znp) zkk zkl)
                 case khm => exact pe_int
                 case khn =>
                  intro _ _
                  exact rfl
                case khj => rfl
               case khd => rfl
              case kgw => rfl
             case kgs => rfl
             case kgt => rfl
            case kgh =>
             refine' pa_cons ?kho ?khp ?khq
             case kho => exact (pq 4 (visL znp) zkk zkl)
             case khp =>
              refine' pa_cons ?khr ?khs ?kht
              case khr => exact (pq 5 (visL znz) zkv zkw)
              case khs =>
               refine' pa_cons ?khu pa_nil ?khv
               case khu =>
                refine' pe_ix ?khw ?khx ?khy ?khz
                case khw => exact ix_list
                case khx =>
                 refine' pe_lst ?kia
                 case kia =>
                  refine' pa_cons ?kib ?kic ?kid
                  case kib => exact (pq 5 (visL znz) zkv zkw)
                  case kic =>
                   refine' pa_cons ?kie pa_nil ?kif
                   case kie =>
                    refine' pe_callTy (hn := zeu) (hdb := zet) ?kig ?kih ?kii ?kij ?kik ?kil ?kim
                    case kig => exact call_tuple_of
                    case kih => exact zn0
                    case kii => exact Z.n_tuple
                    case kij => exact bt_tuple
                    case kik =>
                     refine' pa_cons ?kin pa_nil ?kio
                     case kin => exact (pq 5 (visL znz) zkv zkw)
                     case kio => rfl
                    case kil => rfl
                    case kim => rfl
                   case kif => rfl
                  case kid => rfl
                case khy =>
                 refine' pe_def (hdb := zbe) ?kip ?kiq ?kir ?kis ?kit ?kiu
                 case kip => exact D_law_draw
                 case kiq => exact (hr.mono (by decide))
                 case kir => exact znr
                 case kis =>
                  refine' pa_cons ?kiv ?kiw ?kix
                  case kiv => exact (pq 3 (visL znw) zbn zbo)
                  case kiw =>
                   refine' pa_cons ?kiy pa_nil ?kiz
                   case kiy => exact pe_int
                   case kiz => rfl
                  case kix => rfl
                 case kit => rfl
                 case kiu => rfl
                case khz =>
                 intro _ _
                 exact rfl
               case khv => rfl
              case kht => rfl
             case khq => rfl
            case kgi => rfl
          case kgd => rfl
          case kge => exact .inl rfl
         case kfy =>
          refine' pss_cons ?kja ?kjb
          case kja =>
           refine' ps_if ?kjc ?kjd pss_nil
           case kjc =>
            refine' pt_not ?kje
            case kje =>
             refine' pt_val ?kjf ?kjg
             case kjf =>
              refine' pe_def (hdb := znk) ?kjh ?kji ?kjj ?kjk ?kjl ?kjm
              case kjh => exact D_law_right
              case kji => exact (hr.mono (by decide))
              case kjj => exact znx
              case kjk =>
               refine' pa_cons ?kjn ?kjo ?kjp
               case kjn =>
                refine' pe_ix ?kjq ?kjr ?kjs ?kjt
                case kjq => exact ix_tup
                case kjr => exact (pq 6 (visL znu) znh zni)
                case kjs => exact pe_int
                case kjt =>
                 intro _ _
                 exact rfl
               case kjo =>
                refine' pa_cons ?kju ?kjv ?kjw
                case kju =>
                 refine' pe_ix ?kjx ?kjy ?kjz ?kka
                 case kjx => exact ix_tup
                 case kjy => exact (pq 6 (visL znu) znh zni)
                 case kjz => exact pe_int
                 case kka =>
                  intro _ _
                  exact rfl
                case kjv =>
                 refine' pa_cons ?kkb ?kkc ?kkd
                 case kkb =>
                  refine' pe_ix ?kke ?kkf ?kkg ?kkh
                  case kke => exact ix_tup
                  case kkf => exact (pq 6 (visL znu) znh zni)
                  case kkg => exact pe_int
                  case kkh =>
                   intro _ _
                   exact rfl
                 case kkc =>
                  refine' pa_cons ?kki pa_nil ?kkj
                  case kki =>
                   refine' pe_ix ?kkk ?kkl ?kkm ?kkn
                   case kkk => exact ix_tup
                   case kkl => exact (pq 6 (visL znu) znh zni)
                   case kkm => exact pe_int
                   case kkn =>
                    intro _ _
                    exact rfl
                  case kkj => rfl
                 case kkd => rfl
                case kjw => rfl
               case kjp => rfl
              case kjl => rfl
              case kjm => rfl
             case kjg => intro _; rfl
           case kjd =>
            refine' pss_one ?kko
            case kko =>
             refine' ps_ret ?kkp
             case kkp => exact pe_bl
          case kjb =>
           refine' pss_cons ?kkq ?kkr
           case kkq =>
            refine' ps_if ?kks ?kkt pss_nil
            case kks =>
             refine' pt_not ?kku
             case kku =>
              refine' pt_val ?kkv ?kkw
              case kkv =>
               refine' pe_def (hdb := znk) ?kkx ?kky ?kkz ?kla ?klb ?klc
               case kkx => exact D_law_right
               case kky => exact (hr.mono (by decide))
               case kkz => exact znx
               case kla =>
                refine' pa_cons ?kld ?kle ?klf
                case kld =>
                 refine' pe_ix ?klg ?klh ?kli ?klj
                 case klg => exact ix_tup
                 case klh => exact (pq 1 (visL zns) znd zne)
                 case kli => exact pe_int
                 case klj =>
                  intro _ _
                  exact rfl
                case kle =>
                 refine' pa_cons ?klk ?kll ?klm
                 case klk =>
                  refine' pe_ix ?kln ?klo ?klp ?klq
                  case kln => exact ix_tup
                  case klo => exact (pq 1 (visL zns) znd zne)
                  case klp => exact pe_int
                  case klq =>
                   intro _ _
                   exact rfl
                 case kll =>
                  refine' pa_cons ?klr ?kls ?klt
                  case klr =>
                   refine' pe_ix ?klu ?klv ?klw ?klx
                   case klu => exact ix_tup
                   case klv => exact (pq 1 (visL zns) znd zne)
                   case klw => exact pe_int
                   case klx =>
                    intro _ _
                    exact rfl
                  case kls =>
                   refine' pa_cons ?kly pa_nil ?klz
                   case kly =>
                    refine' pe_ix ?kma ?kmb ?kmc ?kmd
                    case kma => exact ix_tup
                    case kmb => exact (pq 1 (visL zns) znd zne)
                    case kmc => exact pe_int
                    case kmd =>
                     intro _ _
                     exact rfl
                   case klz => rfl
                  case klt => rfl
                 case klm => rfl
                case klf => rfl
               case klb => rfl
               case klc => rfl
              case kkw => intro _; rfl
            case kkt =>
             refine' pss_one ?kme
             case kme =>
              refine' ps_ret ?kmf
              case kmf => exact pe_bl
           case kkr =>
            refine' pss_one ?kmg
            case kmg =>
             refine' ps_set (i := 1) (x := Str.ofString "_law_elder") ?kmh ?kmi ?kmj ?kmk ?kml ?kmm
             case kmh => exact SC.nd
             case kmi => exact rfl
             case kmj => exact (Or.inl zns)
             case kmk => exact (pq 6 (visL znu) znh zni)
             case kml => rfl
             case kmm => exact .inl rfl
     case kcp => intro _; rfl
    case kcj =>
     refine' pss_one ?kmn
     case kmn =>
      refine' ps_ret ?kmo
      case kmo => exact pe_bl
  refine ⟨by show 1 ≤ sizeLine; decide, fun l1 hl1 => ⟨by show 0 ≤ sizeLine; decide, fun l2 hl2 => ⟨by show 0 ≤ sizeLine; decide, fun l3 hl3 => ?_⟩⟩⟩
  have s1 := same_new hl1 (.lst [.str "a"])
  have s2 := same_new hl2 (.lst [])
  have s3 := same_new hl3 (.lst [])
  have e1 := s3 _ _ (s2 _ _ (upd_same (H := H) (a := l1) (o := .lst [.str "a"])))
  have e2 := s3 _ _ (upd_same (H := upd H l1 (.lst [.str "a"])) (a := l2) (o := .lst []))
  have e3 := upd_same (H := upd (upd H l1 (.lst [.str "a"])) l2 (.lst [])) (a := l3) (o := .lst [])
  have s03 := (s1.trans s2).trans s3
  generalize (upd (upd (upd H l1 (.lst [.str "a"])) l2 (.lst [])) l3 (.lst [])) = H3 at s03 e1 e2 e3
  refine fun x0 dx0 hx0 hd0 nd0 => ?_
  have s4 := same_make (CB := C) hx0 hd0 nd0
  refine ⟨x0, dx0, l1, l2, l3, [], [], ["a"], [], [], rfl, upd_same, .inl (s4 _ _ e1), .inl (s4 _ _ e2), .nil, .inl (s4 _ _ e3), .nil, elder_ok, fun H5 g5 x5 => ⟨rfl, ?_⟩⟩
  have s05 := s03.trans (same_made hx0 s4 x5)
  refine ⟨by show 1 ≤ sizeLine; decide, fun l4 hl4 => ⟨by show 0 ≤ sizeLine; decide, fun l5 hl5 => ⟨by show 0 ≤ sizeLine; decide, fun l6 hl6 => ⟨by show 3 ≤ sizeLine; decide, fun bt hbt => ?_⟩⟩⟩⟩
  have s6 := same_new hl4 (.lst [.str "a"])
  have s7 := same_new hl5 (.lst [])
  have s8 := same_new hl6 (.lst [])
  have s9 := same_new hbt (.tup [.ref l4, .ref l5, .ref l6])
  have f1 := s9 _ _ (s8 _ _ (s7 _ _ (upd_same (H := H5) (a := l4) (o := .lst [.str "a"]))))
  have f2 := s9 _ _ (s8 _ _ (upd_same (H := upd H5 l4 (.lst [.str "a"])) (a := l5) (o := .lst [])))
  have f3 := s9 _ _ (upd_same (H := upd (upd H5 l4 (.lst [.str "a"])) l5 (.lst [])) (a := l6) (o := .lst []))
  have f4 := upd_same (H := upd (upd (upd H5 l4 (.lst [.str "a"])) l5 (.lst [])) l6 (.lst [])) (a := bt) (o := .tup [.ref l4, .ref l5, .ref l6])
  have s59 := ((s6.trans s7).trans s8).trans s9
  generalize (upd (upd (upd (upd H5 l4 (.lst [.str "a"])) l5 (.lst [])) l6 (.lst [])) bt (.tup [.ref l4, .ref l5, .ref l6])) = H9 at s59 f1 f2 f3 f4
  have bk9 : BookAt H9 bt ["a"] [] [] := .tup trivial f4 (.cons (.lst trivial f1 (.cons (.str _) .nil)) (.cons (.lst trivial f2 .nil) (.cons (.lst trivial f3 .nil) .nil)))
  refine ⟨by show 1 ≤ sizeLine; decide, fun z0 hz0 => ⟨by show 1 ≤ sizeLine; decide, fun h0 hh0 => ⟨by show 4 ≤ sizeLine; decide, fun t0 ht0 => ?_⟩⟩⟩
  have sa := same_new hz0 (.lst [.int 1])
  have sb := same_new hh0 (.lst [.int 1])
  have sc := same_new ht0 (.tup [.ref x0, .ref bt, .ref z0, .ref h0])
  have k1 := sc _ _ (sb _ _ (upd_same (H := H9) (a := z0) (o := .lst [.int 1])))
  have k2 := sc _ _ (upd_same (H := upd H9 z0 (.lst [.int 1])) (a := h0) (o := .lst [.int 1]))
  have k3 := upd_same (H := upd (upd H9 z0 (.lst [.int 1])) h0 (.lst [.int 1])) (a := t0) (o := .tup [.ref x0, .ref bt, .ref z0, .ref h0])
  have s9c := (sa.trans sb).trans sc
  generalize (upd (upd (upd H9 z0 (.lst [.int 1])) h0 (.lst [.int 1])) t0 (.tup [.ref x0, .ref bt, .ref z0, .ref h0])) = HC at s9c k1 k2 k3
  have el0 : OneAt C HC t0 := ⟨x0, bt, z0, h0, ["a"], [], [], [1], k3, g5.same (s59.trans s9c), RdV.same s9c bk9, elder_ok, k1, elder_size, .inl k2⟩
  have hS' := (s05.trans (s59.trans s9c)).seq hS
  clear sa sb sc k1 k2 k3 s9c bk9 f1 f2 f3 f4 s6 s7 s8 s9 hz0 hh0 ht0 hl4 hl5 hl6 hbt s59 s05 s03 s4 x5 g5 e1 e2 e3 s1 s2 s3
  refine ⟨_, rfl, aS, ns, 0, rfl, hS', fun n0 => ?_⟩
  refine ⟨by show 1 ≤ sizeLine; decide, fun l1 hl1 => ?_⟩
  have s1 := same_new hl1 (.lst [.int n0])
  refine ⟨_, rfl, _, rfl, _, rfl, aS, _, rfl, s1.seq hS', fun l2 hl2 => ?_⟩
  have s2 := same_new hl2 (.lst (cutV (ns.map V.int) (some 1) (some 8)))
  have cl := cutV_length (ns.map V.int) (some 1) (some 8)
  rw [List.length_map] at cl
  refine ⟨l1, l2, _, _, rfl, rfl, s2 _ _ upd_same, upd_same, Nat.le_trans (show 1 + (cutV (ns.map V.int) (some 1) (some 8)).length ≤ 100 by omega) (by decide), fun L hL => ?_⟩
  generalize hxs : [V.int n0] ++ cutV (ns.map V.int) (some 1) (some 8) = xs
  have allI : ∀ y ∈ xs, ∃ z, y = V.int z := fun y hy => by
   rw [← hxs] at hy
   rcases List.mem_append.mp hy with hy | hy
   ·exact ⟨n0, List.mem_singleton.mp hy⟩
   ·obtain ⟨z, _, rfl⟩ := List.mem_map.mp (mem_cut hy)
    exact ⟨z, rfl⟩
  have hLx : (upd (upd (upd HC l1 (.lst [.int n0])) l2 (.lst (cutV (ns.map V.int) (some 1) (some 8)))) L (.lst xs)) L = some (.lst xs) := upd_same
  have elL := el0.same ((s1.trans s2).trans (same_new hL (.lst xs)))
  generalize (upd (upd (upd HC l1 (.lst [.int n0])) l2 (.lst (cutV (ns.map V.int) (some 1) (some 8)))) L (.lst xs)) = HL at hLx elL
  refine ⟨L, rfl, ⟨_, SqL.of hLx⟩, for_list (K := K) (a := L) (xs := xs) (fun i σ H2 => ∃ e v2 v3 v4 v5 v6, σ = [some (.ref aS), some (.ref e), v2, v3, v4, v5, v6] ∧ Same HL H2 ∧ OneAt C H2 e)
   ⟨t0, _, _, _, _, _, rfl, Same.refl _, elL⟩ (fun i σ H2 _ ⟨_, _, _, _, _, _, _, z, _⟩ => SqL.of (z _ _ hLx)) ?_ ?_⟩
  case refine_2 =>
   rintro σ H2 ⟨e, v2, v3, v4, v5, v6, rfl, _, _⟩
   exact q H2
  rintro i y σ H2 hi ⟨e, v2, v3, v4, v5, v6, rfl, sL, hel⟩
  obtain ⟨n, rfl⟩ := allI y (List.mem_of_getElem? hi)
  refine ⟨_, rfl, n, rfl, fun p H3 hp pot3 s3 => ?_⟩
  refine ⟨_, rfl, p, 4, 8, rfl, pot3, by decide, by decide, by decide, fun bv H4 ks ts fs rb ok _ _ W4 => ?_⟩
  have np3 : ∀ a, H3 a = none → a ≠ p := fun a e => by rintro rfl; obtain ⟨o, e2⟩ := pot3.some; rw [e] at e2; cases e2
  have rb4 : RdV (fun a => a ≠ p) H4 bv (bookL ks ts fs) := rb.mono (fun a z => np3 a z) fun _ _ _ e => e
  obtain ⟨b, _, rfl, _, _, _⟩ := id (RdV.tuple_inv rb4)
  refine ⟨_, rfl, _, rfl, p, b, ks, ts, fs, rfl, W4.pot, rb4, ok.k4, fun z ns' H5 hz z5 sz W5 => ?_⟩
  have W35 := W4.trans W5
  have nz : z ≠ p := np3 _ (W4.free hz)
  have rb5 := RdV.keepX (fun _ z => z) rb4 W5.same
  obtain ⟨kA, tA, fA, tv, fv, b1, k1, t1, t2, f1, f2⟩ := BookAt.open (rdv_any rb5)
  refine ⟨_, rfl, b, _, _, _, rfl, rfl, SqT.of b1, rfl, _, rfl, b, _, _, _, rfl, rfl, SqT.of b1, rfl, _, rfl, b, _, _, _, rfl, rfl, SqT.of b1, rfl, fun x dx hx hd nd => ?_⟩
  have s6 := same_make (CB := C) hx hd nd
  obtain ⟨ab, rfl, sab⟩ := tiesL_sgs (t2.same s6)
  obtain ⟨cd, rfl, scd⟩ := funsL_sgs (f2.same s6)
  refine ⟨x, dx, kA, tA, fA, ab, cd, ks, ts, fs, rfl, upd_same, .inl (s6 _ _ k1), .inl (s6 _ _ t1), sab, .inl (s6 _ _ f1), scd, ok, fun H7 g7 x7 => ⟨rfl, ?_⟩⟩
  have s57 := same_made hx s6 x7
  have W37 : Went p H3 H7 := ⟨W35.pot.keep s57, W35.same.same s57⟩
  have nx : x ≠ p := np3 _ (W35.free hx)
  have z7 := s57 _ _ z5
  have rb7 := RdV.same s57 rb5
  refine ⟨_, rfl, _, rfl, _, rfl, _, rfl, z, ns'.map iV, rfl, .inl ⟨SqL.of z7, fun tz htz => ?_⟩⟩
  have W38 := W37.new htz (.tup (ns'.map iV))
  have s8 := same_new htz (.tup (ns'.map iV))
  refine ⟨by show 2 ≤ sizeLine; decide, fun L2 hL2 => ?_⟩
  have W39 := W38.new hL2 (.lst [.ref z, .ref tz])
  have s9 := same_new hL2 (.lst [.ref z, .ref tz])
  refine ⟨_, rfl, p, 2, rfl, W39.pot, by decide, by decide, fun r HA r0 r1 pA sA => ?_⟩
  have W3A := W39.mk1 pA sA
  have nL2 : L2 ≠ p := np3 _ (W38.free hL2)
  have ntz : tz ≠ p := np3 _ (W37.free htz)
  have LA := sA L2 _ nL2 upd_same
  have tzA := sA tz _ ntz (s9 _ _ upd_same)
  have zA := sA z _ nz (s9 _ _ (s8 _ _ z7))
  have gA : SignsAt C HA x ks ts fs := (g7.same (s8.trans s9)).keep (fun o e => sA x o nx e) (pot_tups W39.pot sA)
  have bA : BookAt HA b ks ts fs := rdv_any (RdV.keepX (fun _ z => z) (RdV.same (s8.trans s9) rb7) sA)
  obtain ⟨h1, eh, lh⟩ : ∃ h1, atI [V.ref z, V.ref tz] r = some (.ref h1) ∧ LT HA h1 (ns'.map iV) := by
   have : r = 0 ∨ r = 1 := by omega
   rcases this with rfl | rfl
   ·exact ⟨z, rfl, .inl zA⟩
   ·exact ⟨tz, rfl, .inr tzA⟩
  refine ⟨L2, _, r, _, rfl, rfl, SqL.of LA, eh, by show 4 ≤ sizeLine; decide, fun t ht => ?_⟩
  have sB := same_new ht (.tup [.ref x, .ref b, .ref z, .ref h1])
  have etB : (upd HA t (.tup [.ref x, .ref b, .ref z, .ref h1])) t = some (.tup [.ref x, .ref b, .ref z, .ref h1]) := upd_same
  have s2B : Same H2 (upd HA t (.tup [.ref x, .ref b, .ref z, .ref h1])) := same_made hp s3 (W3A.same.same sB)
  generalize (upd HA t (.tup [.ref x, .ref b, .ref z, .ref h1])) = HB at sB etB s2B
  have oneB : OneAt C HB t := ⟨x, b, z, h1, ks, ts, fs, ns', etB, gA.same sB, RdV.same sB bA, ok, sB _ _ zA, sz, lh.same sB⟩
  obtain ⟨og, ob, oz, oh, oks, ots, ofs, ons, o1, o2, o3, o4, o5, o6, o7⟩ := id oneB
  refine ⟨_, rfl, t, _, _, _, rfl, rfl, SqT.of o1, rfl, _, rfl, t, _, _, _, rfl, rfl, SqT.of o1, rfl, _, rfl, t, _, _, _, rfl, rfl, SqT.of o1, rfl, _, rfl, t, _, _, _, rfl, rfl, SqT.of o1, rfl, og, ob, oz, oh, oks, ots, ofs, ons, rfl, o2, o3, o4, o5, o6, o7, fun HD sD => ⟨true, rfl, iteF ?_⟩⟩
  have s2D := s2B.trans sD
  obtain ⟨eg, eb, ez, eh', eks, ets, efs, ens, q1, q2, q3, q4, q5, q6, q7⟩ := hel.same s2D
  refine ⟨_, rfl, e, _, _, _, rfl, rfl, SqT.of q1, rfl, _, rfl, e, _, _, _, rfl, rfl, SqT.of q1, rfl, _, rfl, e, _, _, _, rfl, rfl, SqT.of q1, rfl, _, rfl, e, _, _, _, rfl, rfl, SqT.of q1, rfl, eg, eb, ez, eh', eks, ets, efs, ens, rfl, q2, q3, q4, q5, q6, q7, fun HE sE => ⟨true, rfl, iteF ?_⟩⟩
  exact ⟨_, rfl, t, _, _, _, _, _, rfl, sL.trans (s2D.trans sE), oneB.same (sD.trans sE)⟩
end
end Few

set_option Elab.async false
set_option linter.all false
set_option maxRecDepth 100000
set_option maxHeartbeats 4000000
namespace FewE
open PySem L2 Few
theorem funAt_mk {K : PySem.W.Frag} {h : Heap} {mg : Str → Option Value} {x : Str} {st : Stmt} {ps : List Str} {f : Addr} {oc kV dc pm cd ct : Value} {od an : Option Addr} {sl : Array (Option Value)} (X : K.In h) (G : h.Ns mainGlobals mg)
  (a : PySem.W.nsIn K mainGlobals x = some (some (.ref f))) (l : K.lookup f = some ⟨oc, od, .func (PySem.W.fnOf x x (defArgs st) (defBody st) (defScope st) .none kV dc pm an cd ct), sl⟩) (c : PySem.W.codeIn K cd x = true) (k : PySem.W.keepIn K (.ref f) = true)
  (b : ∀ (kV doc pm : Value) (an : Option Addr) (cdv ct : Value) (us : List Value), us.length = ps.length → bindArgs (PySem.W.fnOf x x (defArgs st) (defBody st) (defScope st) .none kV doc pm an cdv ct) ⟨us, []⟩ = pure (ps.zip us)) : FunAt K mg x st ps :=
 ⟨f, _, fun_mk l c k, PySem.W.mg_of X G a, (fun_mk (st := st) l c k).binds b⟩
theorem all_mk {l : PySem.W.OpenLaw} {w : World} {K : PySem.W.Frag} {h : Heap} {mg : Str → Option Value} {fa C CB wa : Addr} {f0 : Addr} {oc0 kV0 dc0 pm0 cd0 ct0 : Value} {od0 an0 : Option Addr} {sl0 : Array (Option Value)} {f1 : Addr} {oc1 kV1 dc1 pm1 cd1 ct1 : Value} {od1 an1 : Option Addr} {sl1 : Array (Option Value)} {f2 : Addr} {oc2 kV2 dc2 pm2 cd2 ct2 : Value} {od2 an2 : Option Addr} {sl2 : Array (Option Value)} {f3 : Addr} {oc3 kV3 dc3 pm3 cd3 ct3 : Value} {od3 an3 : Option Addr} {sl3 : Array (Option Value)} {f4 : Addr} {oc4 kV4 dc4 pm4 cd4 ct4 : Value} {od4 an4 : Option Addr} {sl4 : Array (Option Value)} {f5 : Addr} {oc5 kV5 dc5 pm5 cd5 ct5 : Value} {od5 an5 : Option Addr} {sl5 : Array (Option Value)} {f6 : Addr} {oc6 kV6 dc6 pm6 cd6 ct6 : Value} {od6 an6 : Option Addr} {sl6 : Array (Option Value)} {f7 : Addr} {oc7 kV7 dc7 pm7 cd7 ct7 : Value} {od7 an7 : Option Addr} {sl7 : Array (Option Value)} {f8 : Addr} {oc8 kV8 dc8 pm8 cd8 ct8 : Value} {od8 an8 : Option Addr} {sl8 : Array (Option Value)} {f9 : Addr} {oc9 kV9 dc9 pm9 cd9 ct9 : Value} {od9 an9 : Option Addr} {sl9 : Array (Option Value)} {f10 : Addr} {oc10 kV10 dc10 pm10 cd10 ct10 : Value} {od10 an10 : Option Addr} {sl10 : Array (Option Value)} {f11 : Addr} {oc11 kV11 dc11 pm11 cd11 ct11 : Value} {od11 an11 : Option Addr} {sl11 : Array (Option Value)} {f12 : Addr} {oc12 kV12 dc12 pm12 cd12 ct12 : Value} {od12 an12 : Option Addr} {sl12 : Array (Option Value)} {f13 : Addr} {oc13 kV13 dc13 pm13 cd13 ct13 : Value} {od13 an13 : Option Addr} {sl13 : Array (Option Value)} {f14 : Addr} {oc14 kV14 dc14 pm14 cd14 ct14 : Value} {od14 an14 : Option Addr} {sl14 : Array (Option Value)} {f15 : Addr} {oc15 kV15 dc15 pm15 cd15 ct15 : Value} {od15 an15 : Option Addr} {sl15 : Array (Option Value)} {f16 : Addr} {oc16 kV16 dc16 pm16 cd16 ct16 : Value} {od16 an16 : Option Addr} {sl16 : Array (Option Value)} {f17 : Addr} {oc17 kV17 dc17 pm17 cd17 ct17 : Value} {od17 an17 : Option Addr} {sl17 : Array (Option Value)} {f18 : Addr} {oc18 kV18 dc18 pm18 cd18 ct18 : Value} {od18 an18 : Option Addr} {sl18 : Array (Option Value)} {f19 : Addr} {oc19 kV19 dc19 pm19 cd19 ct19 : Value} {od19 an19 : Option Addr} {sl19 : Array (Option Value)} {f20 : Addr} {oc20 kV20 dc20 pm20 cd20 ct20 : Value} {od20 an20 : Option Addr} {sl20 : Array (Option Value)} {f21 : Addr} {oc21 kV21 dc21 pm21 cd21 ct21 : Value} {od21 an21 : Option Addr} {sl21 : Array (Option Value)} {f22 : Addr} {oc22 kV22 dc22 pm22 cd22 ct22 : Value} {od22 an22 : Option Addr} {sl22 : Array (Option Value)} {f23 : Addr} {oc23 kV23 dc23 pm23 cd23 ct23 : Value} {od23 an23 : Option Addr} {sl23 : Array (Option Value)} {f24 : Addr} {oc24 kV24 dc24 pm24 cd24 ct24 : Value} {od24 an24 : Option Addr} {sl24 : Array (Option Value)} {f25 : Addr} {oc25 kV25 dc25 pm25 cd25 ct25 : Value} {od25 an25 : Option Addr} {sl25 : Array (Option Value)} {f26 : Addr} {oc26 kV26 dc26 pm26 cd26 ct26 : Value} {od26 an26 : Option Addr} {sl26 : Array (Option Value)} {f27 : Addr} {oc27 kV27 dc27 pm27 cd27 ct27 : Value} {od27 an27 : Option Addr} {sl27 : Array (Option Value)} {f28 : Addr} {oc28 kV28 dc28 pm28 cd28 ct28 : Value} {od28 an28 : Option Addr} {sl28 : Array (Option Value)} {f29 : Addr} {oc29 kV29 dc29 pm29 cd29 ct29 : Value} {od29 an29 : Option Addr} {sl29 : Array (Option Value)} {f30 : Addr} {oc30 kV30 dc30 pm30 cd30 ct30 : Value} {od30 an30 : Option Addr} {sl30 : Array (Option Value)} {f31 : Addr} {oc31 kV31 dc31 pm31 cd31 ct31 : Value} {od31 an31 : Option Addr} {sl31 : Array (Option Value)} {tL : Tok} {tI0 : Tok} {tI1 : Tok} {tI2 : Tok} {tI3 : Tok} {tI4 : Tok} {tI5 : Tok} {tw0 tw1 tw2 tw3 tw4 : Tok} {wd : Option Addr} {wn : Nat} {ws : Array (Option Value)} (X : K.In h) (G : h.Ns mainGlobals mg) (hfa : mg "law" = some (.ref fa))
  (a0 : PySem.W.nsIn K mainGlobals "_law_cell" = some (some (.ref f0)))
  (l0 : K.lookup f0 = some ⟨oc0, od0, .func (PySem.W.fnOf "_law_cell" "_law_cell" (defArgs s_law_cell) (defBody s_law_cell) (defScope s_law_cell) .none kV0 dc0 pm0 an0 cd0 ct0), sl0⟩)
  (c0 : PySem.W.codeIn K cd0 "_law_cell" = true)
  (k0 : PySem.W.keepIn K (.ref f0) = true)
  (a1 : PySem.W.nsIn K mainGlobals "_law_pot" = some (some (.ref f1)))
  (l1 : K.lookup f1 = some ⟨oc1, od1, .func (PySem.W.fnOf "_law_pot" "_law_pot" (defArgs s_law_pot) (defBody s_law_pot) (defScope s_law_pot) .none kV1 dc1 pm1 an1 cd1 ct1), sl1⟩)
  (c1 : PySem.W.codeIn K cd1 "_law_pot" = true)
  (k1 : PySem.W.keepIn K (.ref f1) = true)
  (a2 : PySem.W.nsIn K mainGlobals "_law_draw" = some (some (.ref f2)))
  (l2 : K.lookup f2 = some ⟨oc2, od2, .func (PySem.W.fnOf "_law_draw" "_law_draw" (defArgs s_law_draw) (defBody s_law_draw) (defScope s_law_draw) .none kV2 dc2 pm2 an2 cd2 ct2), sl2⟩)
  (c2 : PySem.W.codeIn K cd2 "_law_draw" = true)
  (k2 : PySem.W.keepIn K (.ref f2) = true)
  (a3 : PySem.W.nsIn K mainGlobals "_law_unlike" = some (some (.ref f3)))
  (l3 : K.lookup f3 = some ⟨oc3, od3, .func (PySem.W.fnOf "_law_unlike" "_law_unlike" (defArgs s_law_unlike) (defBody s_law_unlike) (defScope s_law_unlike) .none kV3 dc3 pm3 an3 cd3 ct3), sl3⟩)
  (c3 : PySem.W.codeIn K cd3 "_law_unlike" = true)
  (k3 : PySem.W.keepIn K (.ref f3) = true)
  (a4 : PySem.W.nsIn K mainGlobals "_law_book" = some (some (.ref f4)))
  (l4 : K.lookup f4 = some ⟨oc4, od4, .func (PySem.W.fnOf "_law_book" "_law_book" (defArgs s_law_book) (defBody s_law_book) (defScope s_law_book) .none kV4 dc4 pm4 an4 cd4 ct4), sl4⟩)
  (c4 : PySem.W.codeIn K cd4 "_law_book" = true)
  (k4 : PySem.W.keepIn K (.ref f4) = true)
  (a5 : PySem.W.nsIn K mainGlobals "_law_many" = some (some (.ref f5)))
  (l5 : K.lookup f5 = some ⟨oc5, od5, .func (PySem.W.fnOf "_law_many" "_law_many" (defArgs s_law_many) (defBody s_law_many) (defScope s_law_many) .none kV5 dc5 pm5 an5 cd5 ct5), sl5⟩)
  (c5 : PySem.W.codeIn K cd5 "_law_many" = true)
  (k5 : PySem.W.keepIn K (.ref f5) = true)
  (a6 : PySem.W.nsIn K mainGlobals "_law_rows" = some (some (.ref f6)))
  (l6 : K.lookup f6 = some ⟨oc6, od6, .func (PySem.W.fnOf "_law_rows" "_law_rows" (defArgs s_law_rows) (defBody s_law_rows) (defScope s_law_rows) .none kV6 dc6 pm6 an6 cd6 ct6), sl6⟩)
  (c6 : PySem.W.codeIn K cd6 "_law_rows" = true)
  (k6 : PySem.W.keepIn K (.ref f6) = true)
  (a7 : PySem.W.nsIn K mainGlobals "_law_cells" = some (some (.ref f7)))
  (l7 : K.lookup f7 = some ⟨oc7, od7, .func (PySem.W.fnOf "_law_cells" "_law_cells" (defArgs s_law_cells) (defBody s_law_cells) (defScope s_law_cells) .none kV7 dc7 pm7 an7 cd7 ct7), sl7⟩)
  (c7 : PySem.W.codeIn K cd7 "_law_cells" = true)
  (k7 : PySem.W.keepIn K (.ref f7) = true)
  (a8 : PySem.W.nsIn K mainGlobals "_law_values" = some (some (.ref f8)))
  (l8 : K.lookup f8 = some ⟨oc8, od8, .func (PySem.W.fnOf "_law_values" "_law_values" (defArgs s_law_values) (defBody s_law_values) (defScope s_law_values) .none kV8 dc8 pm8 an8 cd8 ct8), sl8⟩)
  (c8 : PySem.W.codeIn K cd8 "_law_values" = true)
  (k8 : PySem.W.keepIn K (.ref f8) = true)
  (a9 : PySem.W.nsIn K mainGlobals "_law_any_size" = some (some (.ref f9)))
  (l9 : K.lookup f9 = some ⟨oc9, od9, .func (PySem.W.fnOf "_law_any_size" "_law_any_size" (defArgs s_law_any_size) (defBody s_law_any_size) (defScope s_law_any_size) .none kV9 dc9 pm9 an9 cd9 ct9), sl9⟩)
  (c9 : PySem.W.codeIn K cd9 "_law_any_size" = true)
  (k9 : PySem.W.keepIn K (.ref f9) = true)
  (a10 : PySem.W.nsIn K mainGlobals "_law_right" = some (some (.ref f10)))
  (l10 : K.lookup f10 = some ⟨oc10, od10, .func (PySem.W.fnOf "_law_right" "_law_right" (defArgs s_law_right) (defBody s_law_right) (defScope s_law_right) .none kV10 dc10 pm10 an10 cd10 ct10), sl10⟩)
  (c10 : PySem.W.codeIn K cd10 "_law_right" = true)
  (k10 : PySem.W.keepIn K (.ref f10) = true)
  (a11 : PySem.W.nsIn K mainGlobals "is_list" = some (some (.ref f11)))
  (l11 : K.lookup f11 = some ⟨oc11, od11, .func (PySem.W.fnOf "is_list" "is_list" (defArgs s_is_list) (defBody s_is_list) (defScope s_is_list) .none kV11 dc11 pm11 an11 cd11 ct11), sl11⟩)
  (c11 : PySem.W.codeIn K cd11 "is_list" = true)
  (k11 : PySem.W.keepIn K (.ref f11) = true)
  (a12 : PySem.W.nsIn K mainGlobals "is_name" = some (some (.ref f12)))
  (l12 : K.lookup f12 = some ⟨oc12, od12, .func (PySem.W.fnOf "is_name" "is_name" (defArgs s_is_name) (defBody s_is_name) (defScope s_is_name) .none kV12 dc12 pm12 an12 cd12 ct12), sl12⟩)
  (c12 : PySem.W.codeIn K cd12 "is_name" = true)
  (k12 : PySem.W.keepIn K (.ref f12) = true)
  (a13 : PySem.W.nsIn K mainGlobals "is_whole" = some (some (.ref f13)))
  (l13 : K.lookup f13 = some ⟨oc13, od13, .func (PySem.W.fnOf "is_whole" "is_whole" (defArgs s_is_whole) (defBody s_is_whole) (defScope s_is_whole) .none kV13 dc13 pm13 an13 cd13 ct13), sl13⟩)
  (c13 : PySem.W.codeIn K cd13 "is_whole" = true)
  (k13 : PySem.W.keepIn K (.ref f13) = true)
  (a14 : PySem.W.nsIn K mainGlobals "check_apart" = some (some (.ref f14)))
  (l14 : K.lookup f14 = some ⟨oc14, od14, .func (PySem.W.fnOf "check_apart" "check_apart" (defArgs s_check_apart) (defBody s_check_apart) (defScope s_check_apart) .none kV14 dc14 pm14 an14 cd14 ct14), sl14⟩)
  (c14 : PySem.W.codeIn K cd14 "check_apart" = true)
  (k14 : PySem.W.keepIn K (.ref f14) = true)
  (a15 : PySem.W.nsIn K mainGlobals "checked_kinds" = some (some (.ref f15)))
  (l15 : K.lookup f15 = some ⟨oc15, od15, .func (PySem.W.fnOf "checked_kinds" "checked_kinds" (defArgs s_checked_kinds) (defBody s_checked_kinds) (defScope s_checked_kinds) .none kV15 dc15 pm15 an15 cd15 ct15), sl15⟩)
  (c15 : PySem.W.codeIn K cd15 "checked_kinds" = true)
  (k15 : PySem.W.keepIn K (.ref f15) = true)
  (a16 : PySem.W.nsIn K mainGlobals "checked_kind" = some (some (.ref f16)))
  (l16 : K.lookup f16 = some ⟨oc16, od16, .func (PySem.W.fnOf "checked_kind" "checked_kind" (defArgs s_checked_kind) (defBody s_checked_kind) (defScope s_checked_kind) .none kV16 dc16 pm16 an16 cd16 ct16), sl16⟩)
  (c16 : PySem.W.codeIn K cd16 "checked_kind" = true)
  (k16 : PySem.W.keepIn K (.ref f16) = true)
  (a17 : PySem.W.nsIn K mainGlobals "checked_places" = some (some (.ref f17)))
  (l17 : K.lookup f17 = some ⟨oc17, od17, .func (PySem.W.fnOf "checked_places" "checked_places" (defArgs s_checked_places) (defBody s_checked_places) (defScope s_checked_places) .none kV17 dc17 pm17 an17 cd17 ct17), sl17⟩)
  (c17 : PySem.W.codeIn K cd17 "checked_places" = true)
  (k17 : PySem.W.keepIn K (.ref f17) = true)
  (a18 : PySem.W.nsIn K mainGlobals "checked_sign_name" = some (some (.ref f18)))
  (l18 : K.lookup f18 = some ⟨oc18, od18, .func (PySem.W.fnOf "checked_sign_name" "checked_sign_name" (defArgs s_checked_sign_name) (defBody s_checked_sign_name) (defScope s_checked_sign_name) .none kV18 dc18 pm18 an18 cd18 ct18), sl18⟩)
  (c18 : PySem.W.codeIn K cd18 "checked_sign_name" = true)
  (k18 : PySem.W.keepIn K (.ref f18) = true)
  (a19 : PySem.W.nsIn K mainGlobals "checked_tie" = some (some (.ref f19)))
  (l19 : K.lookup f19 = some ⟨oc19, od19, .func (PySem.W.fnOf "checked_tie" "checked_tie" (defArgs s_checked_tie) (defBody s_checked_tie) (defScope s_checked_tie) .none kV19 dc19 pm19 an19 cd19 ct19), sl19⟩)
  (c19 : PySem.W.codeIn K cd19 "checked_tie" = true)
  (k19 : PySem.W.keepIn K (.ref f19) = true)
  (a20 : PySem.W.nsIn K mainGlobals "checked_function" = some (some (.ref f20)))
  (l20 : K.lookup f20 = some ⟨oc20, od20, .func (PySem.W.fnOf "checked_function" "checked_function" (defArgs s_checked_function) (defBody s_checked_function) (defScope s_checked_function) .none kV20 dc20 pm20 an20 cd20 ct20), sl20⟩)
  (c20 : PySem.W.codeIn K cd20 "checked_function" = true)
  (k20 : PySem.W.keepIn K (.ref f20) = true)
  (a21 : PySem.W.nsIn K mainGlobals "checked_size" = some (some (.ref f21)))
  (l21 : K.lookup f21 = some ⟨oc21, od21, .func (PySem.W.fnOf "checked_size" "checked_size" (defArgs s_checked_size) (defBody s_checked_size) (defScope s_checked_size) .none kV21 dc21 pm21 an21 cd21 ct21), sl21⟩)
  (c21 : PySem.W.codeIn K cd21 "checked_size" = true)
  (k21 : PySem.W.keepIn K (.ref f21) = true)
  (a22 : PySem.W.nsIn K mainGlobals "rows_of" = some (some (.ref f22)))
  (l22 : K.lookup f22 = some ⟨oc22, od22, .func (PySem.W.fnOf "rows_of" "rows_of" (defArgs s_rows_of) (defBody s_rows_of) (defScope s_rows_of) .none kV22 dc22 pm22 an22 cd22 ct22), sl22⟩)
  (c22 : PySem.W.codeIn K cd22 "rows_of" = true)
  (k22 : PySem.W.keepIn K (.ref f22) = true)
  (a23 : PySem.W.nsIn K mainGlobals "cells" = some (some (.ref f23)))
  (l23 : K.lookup f23 = some ⟨oc23, od23, .func (PySem.W.fnOf "cells" "cells" (defArgs s_cells) (defBody s_cells) (defScope s_cells) .none kV23 dc23 pm23 an23 cd23 ct23), sl23⟩)
  (c23 : PySem.W.codeIn K cd23 "cells" = true)
  (k23 : PySem.W.keepIn K (.ref f23) = true)
  (a24 : PySem.W.nsIn K mainGlobals "values" = some (some (.ref f24)))
  (l24 : K.lookup f24 = some ⟨oc24, od24, .func (PySem.W.fnOf "values" "values" (defArgs s_values) (defBody s_values) (defScope s_values) .none kV24 dc24 pm24 an24 cd24 ct24), sl24⟩)
  (c24 : PySem.W.codeIn K cd24 "values" = true)
  (k24 : PySem.W.keepIn K (.ref f24) = true)
  (a25 : PySem.W.nsIn K mainGlobals "checked_cell" = some (some (.ref f25)))
  (l25 : K.lookup f25 = some ⟨oc25, od25, .func (PySem.W.fnOf "checked_cell" "checked_cell" (defArgs s_checked_cell) (defBody s_checked_cell) (defScope s_checked_cell) .none kV25 dc25 pm25 an25 cd25 ct25), sl25⟩)
  (c25 : PySem.W.codeIn K cd25 "checked_cell" = true)
  (k25 : PySem.W.keepIn K (.ref f25) = true)
  (a26 : PySem.W.nsIn K mainGlobals "law" = some (some (.ref f26)))
  (l26 : K.lookup f26 = some ⟨oc26, od26, .func (PySem.W.fnOf "law" "law" (defArgs s_law) (defBody s_law) (defScope s_law) .none kV26 dc26 pm26 an26 cd26 ct26), sl26⟩)
  (c26 : PySem.W.codeIn K cd26 "law" = true)
  (k26 : PySem.W.keepIn K (.ref f26) = true)
  (aC : PySem.W.nsIn K mainGlobals "Signs" = some (some (.ref C)))
  (aCB : PySem.W.nsIn K mainGlobals "Board" = some (some (.ref CB)))
  (a27 : PySem.W.findIn K (.ref C) "__init__" = some (some (.ref f27)))
  (i27 : PySem.W.isFn K (.ref f27) = true)
  (l27 : K.lookup f27 = some ⟨oc27, od27, .func (PySem.W.fnOf "__init__" "Signs.__init__" (defArgs s__init__) (defBody s__init__) (defScope s__init__) .none kV27 dc27 pm27 an27 cd27 ct27), sl27⟩)
  (c27 : PySem.W.codeIn K cd27 "Signs.__init__" = true)
  (k27 : PySem.W.keepIn K (.ref f27) = true)
  (a28 : PySem.W.findIn K (.ref C) "kinds" = some (some (.ref f28)))
  (i28 : PySem.W.isFn K (.ref f28) = true)
  (l28 : K.lookup f28 = some ⟨oc28, od28, .func (PySem.W.fnOf "kinds" "Signs.kinds" (defArgs s_kinds) (defBody s_kinds) (defScope s_kinds) .none kV28 dc28 pm28 an28 cd28 ct28), sl28⟩)
  (c28 : PySem.W.codeIn K cd28 "Signs.kinds" = true)
  (k28 : PySem.W.keepIn K (.ref f28) = true)
  (a29 : PySem.W.findIn K (.ref C) "ties" = some (some (.ref f29)))
  (i29 : PySem.W.isFn K (.ref f29) = true)
  (l29 : K.lookup f29 = some ⟨oc29, od29, .func (PySem.W.fnOf "ties" "Signs.ties" (defArgs s_ties) (defBody s_ties) (defScope s_ties) .none kV29 dc29 pm29 an29 cd29 ct29), sl29⟩)
  (c29 : PySem.W.codeIn K cd29 "Signs.ties" = true)
  (k29 : PySem.W.keepIn K (.ref f29) = true)
  (a30 : PySem.W.findIn K (.ref C) "functions" = some (some (.ref f30)))
  (i30 : PySem.W.isFn K (.ref f30) = true)
  (l30 : K.lookup f30 = some ⟨oc30, od30, .func (PySem.W.fnOf "functions" "Signs.functions" (defArgs s_functions) (defBody s_functions) (defScope s_functions) .none kV30 dc30 pm30 an30 cd30 ct30), sl30⟩)
  (c30 : PySem.W.codeIn K cd30 "Signs.functions" = true)
  (k30 : PySem.W.keepIn K (.ref f30) = true)
  (a31 : PySem.W.findIn K (.ref CB) "__init__" = some (some (.ref f31)))
  (i31 : PySem.W.isFn K (.ref f31) = true)
  (l31 : K.lookup f31 = some ⟨oc31, od31, .func (PySem.W.fnOf "__init__" "Board.__init__" (defArgs s_Board__init__) (defBody s_Board__init__) (defScope s_Board__init__) .none kV31 dc31 pm31 an31 cd31 ct31), sl31⟩)
  (c31 : PySem.W.codeIn K cd31 "Board.__init__" = true)
  (k31 : PySem.W.keepIn K (.ref f31) = true)
  (pg : PySem.W.plainGet K C Str.empty = true)
  (hd : PySem.W.hasDictIn K C = true)
  (po : PySem.W.plainOver K C = true)
  (sa : PySem.W.findIn K (.ref C) "__setattr__" = some (some (.builtin "object.__setattr__")))
  (mk : PySem.W.makesIn K C = true)
  (kc : PySem.W.keepIn K (.ref C) = true)
  (n0 : PySem.W.findIn K (.ref C) "kept_kinds" = some none)
  (n1 : PySem.W.findIn K (.ref C) "kept_ties" = some none)
  (n2 : PySem.W.findIn K (.ref C) "kept_functions" = some none)
  (pgB : PySem.W.plainGet K CB Str.empty = true)
  (hdB : PySem.W.hasDictIn K CB = true)
  (poB : PySem.W.plainOver K CB = true)
  (saB : PySem.W.findIn K (.ref CB) "__setattr__" = some (some (.builtin "object.__setattr__")))
  (mkB : PySem.W.makesIn K CB = true)
  (kcB : PySem.W.keepIn K (.ref CB) = true)
  (n0B : PySem.W.findIn K (.ref CB) "many_things" = some none)
  (n1B : PySem.W.findIn K (.ref CB) "many_values" = some none)
  (z_len : PySem.W.nsIn K mainGlobals "len" = some none)
  (z_max : PySem.W.nsIn K mainGlobals "max" = some none)
  (z_abs : PySem.W.nsIn K mainGlobals "abs" = some none)
  (z_divmod : PySem.W.nsIn K mainGlobals "divmod" = some none)
  (z_list : PySem.W.nsIn K mainGlobals "list" = some none)
  (z_tuple : PySem.W.nsIn K mainGlobals "tuple" = some none)
  (z_range : PySem.W.nsIn K mainGlobals "range" = some none)
  (z_int : PySem.W.nsIn K mainGlobals "int" = some none)
  (z_str : PySem.W.nsIn K mainGlobals "str" = some none)
  (z_repr : PySem.W.nsIn K mainGlobals "repr" = some none)
  (z_isinstance : PySem.W.nsIn K mainGlobals "isinstance" = some none)
  (z_all : PySem.W.nsIn K mainGlobals "all" = some none)
  (z_set : PySem.W.nsIn K mainGlobals "set" = some none)
  (z_dict : PySem.W.nsIn K mainGlobals "dict" = some none)
  (z_zip : PySem.W.nsIn K mainGlobals "zip" = some none)
  (z_bool : PySem.W.nsIn K mainGlobals "bool" = some none)
  (gL : PySem.W.nsIn K mainGlobals "LETTERS" = some (some (.str (Str.ofString "abcdefghijklmnopqrstuvwxyz") tL)))
  (gI0 : PySem.W.nsIn K mainGlobals "LONGEST_NAME" = some (some (.int 12 tI0)))
  (gI1 : PySem.W.nsIn K mainGlobals "MOST_KINDS" = some (some (.int 4 tI1)))
  (gI2 : PySem.W.nsIn K mainGlobals "MOST_SIGNS" = some (some (.int 8 tI2)))
  (gI3 : PySem.W.nsIn K mainGlobals "MOST_PLACES" = some (some (.int 2 tI3)))
  (gI4 : PySem.W.nsIn K mainGlobals "MOST_THINGS" = some (some (.int 4 tI4)))
  (gI5 : PySem.W.nsIn K mainGlobals "VALUES_OF_TIES" = some (some (.int 2 tI5)))
  (gW : PySem.W.nsIn K mainGlobals "WORDS_OF_SAYINGS" = some (some (.ref wa)))
  (lW : K.lookup wa = some ⟨.type "tuple", wd, .seq #[.str (Str.ofString "all") tw0, .str (Str.ofString "some") tw1, .str (Str.ofString "not") tw2, .str (Str.ofString "and") tw3, .str (Str.ofString "or") tw4] wn, ws⟩)
  : ∃ fd : FuncData, (∀ (s : Shared) (v : Value), BindsTo s fd ⟨[v], []⟩ [("_law_script", v)]) ∧ ∀ base : Heap, K.In base → base.Ns mainGlobals mg → FnOk l.prog w K mg base CX0 7 fa fd ["_law_script"] (spLaw K) := by
 have T : ClS K C := ⟨⟨pg, hd, po, sa⟩, n0, n1, n2⟩
 have TB : ClB K CB := ⟨⟨pgB, hdB, poB, saB⟩, n0B, n1B⟩
 have GT : ∃ u, mg "MOST_THINGS" = some u ∧ RelV (.int 4) u := ⟨_, PySem.W.mg_of X G gI4, tI4, rfl⟩
 have GV : ∃ u, mg "VALUES_OF_TIES" = some u ∧ RelV (.int 2) u := ⟨_, PySem.W.mg_of X G gI5, tI5, rfl⟩
 have Z : Bl mg := ⟨PySem.W.mg_none_of X G z_len, PySem.W.mg_none_of X G z_max, PySem.W.mg_none_of X G z_abs, PySem.W.mg_none_of X G z_divmod, PySem.W.mg_none_of X G z_list, PySem.W.mg_none_of X G z_tuple, PySem.W.mg_none_of X G z_range, PySem.W.mg_none_of X G z_int, PySem.W.mg_none_of X G z_str, PySem.W.mg_none_of X G z_repr, PySem.W.mg_none_of X G z_isinstance, PySem.W.mg_none_of X G z_all, PySem.W.mg_none_of X G z_set⟩
 have Gg : Gs K mg := ⟨⟨_, PySem.W.mg_of X G gL, tL, rfl⟩, ⟨_, PySem.W.mg_of X G gI0, tI0, rfl⟩, ⟨_, PySem.W.mg_of X G gI1, tI1, rfl⟩, ⟨_, PySem.W.mg_of X G gI2, tI2, rfl⟩, ⟨_, PySem.W.mg_of X G gI3, tI3, rfl⟩, wa, PySem.W.mg_of X G gW, fun H => .inr ⟨_, _, _, lW, rfl, rfl, by show 5 ≤ sizeLine; decide, .cons ⟨tw0, rfl⟩ (.cons ⟨tw1, rfl⟩ (.cons ⟨tw2, rfl⟩ (.cons ⟨tw3, rfl⟩ (.cons ⟨tw4, rfl⟩ (.nil)))))⟩⟩
 have F0 : FunAt K mg "_law_cell" s_law_cell ["_law_script", "_law_k"] := funAt_mk X G a0 l0 c0 k0 fun _ _ _ _ _ _ us hl => match us, hl with | [_, _], _ => rfl
 have F1 : FunAt K mg "_law_pot" s_law_pot ["_law_cell_here"] := funAt_mk X G a1 l1 c1 k1 fun _ _ _ _ _ _ us hl => match us, hl with | [_], _ => rfl
 have F2 : FunAt K mg "_law_draw" s_law_draw ["_law_pot_here", "_law_many_here"] := funAt_mk X G a2 l2 c2 k2 fun _ _ _ _ _ _ us hl => match us, hl with | [_, _], _ => rfl
 have F3 : FunAt K mg "_law_unlike" s_law_unlike ["_law_pot_here", "_law_many_here", "_law_menu"] := funAt_mk X G a3 l3 c3 k3 fun _ _ _ _ _ _ us hl => match us, hl with | [_, _, _], _ => rfl
 have F4 : FunAt K mg "_law_book" s_law_book ["_law_pot_here", "_law_most_kinds", "_law_most_signs"] := funAt_mk X G a4 l4 c4 k4 fun _ _ _ _ _ _ us hl => match us, hl with | [_, _, _], _ => rfl
 have F5 : FunAt K mg "_law_many" s_law_many ["_law_book_here", "_law_size", "_law_kind"] := funAt_mk X G a5 l5 c5 k5 fun _ _ _ _ _ _ us hl => match us, hl with | [_, _, _], _ => rfl
 have F6 : FunAt K mg "_law_rows" s_law_rows ["_law_book_here", "_law_size", "_law_places"] := funAt_mk X G a6 l6 c6 k6 fun _ _ _ _ _ _ us hl => match us, hl with | [_, _, _], _ => rfl
 have F7 : FunAt K mg "_law_cells" s_law_cells ["_law_book_here", "_law_size"] := funAt_mk X G a7 l7 c7 k7 fun _ _ _ _ _ _ us hl => match us, hl with | [_, _], _ => rfl
 have F8 : FunAt K mg "_law_values" s_law_values ["_law_book_here", "_law_size", "_law_name"] := funAt_mk X G a8 l8 c8 k8 fun _ _ _ _ _ _ us hl => match us, hl with | [_, _, _], _ => rfl
 have F9 : FunAt K mg "_law_any_size" s_law_any_size ["_law_pot_here", "_law_book_here"] := funAt_mk X G a9 l9 c9 k9 fun _ _ _ _ _ _ us hl => match us, hl with | [_, _], _ => rfl
 have F10 : FunAt K mg "_law_right" s_law_right ["_law_signs", "_law_book_here", "_law_size", "_law_handed"] := funAt_mk X G a10 l10 c10 k10 fun _ _ _ _ _ _ us hl => match us, hl with | [_, _, _, _], _ => rfl
 have F11 : FunAt K mg "is_list" s_is_list ["thing"] := funAt_mk X G a11 l11 c11 k11 fun _ _ _ _ _ _ us hl => match us, hl with | [_], _ => rfl
 have F12 : FunAt K mg "is_name" s_is_name ["thing"] := funAt_mk X G a12 l12 c12 k12 fun _ _ _ _ _ _ us hl => match us, hl with | [_], _ => rfl
 have F13 : FunAt K mg "is_whole" s_is_whole ["thing"] := funAt_mk X G a13 l13 c13 k13 fun _ _ _ _ _ _ us hl => match us, hl with | [_], _ => rfl
 have F14 : FunAt K mg "check_apart" s_check_apart ["names"] := funAt_mk X G a14 l14 c14 k14 fun _ _ _ _ _ _ us hl => match us, hl with | [_], _ => rfl
 have F15 : FunAt K mg "checked_kinds" s_checked_kinds ["kinds"] := funAt_mk X G a15 l15 c15 k15 fun _ _ _ _ _ _ us hl => match us, hl with | [_], _ => rfl
 have F16 : FunAt K mg "checked_kind" s_checked_kind ["kinds", "kind"] := funAt_mk X G a16 l16 c16 k16 fun _ _ _ _ _ _ us hl => match us, hl with | [_, _], _ => rfl
 have F17 : FunAt K mg "checked_places" s_checked_places ["kinds", "places"] := funAt_mk X G a17 l17 c17 k17 fun _ _ _ _ _ _ us hl => match us, hl with | [_, _], _ => rfl
 have F18 : FunAt K mg "checked_sign_name" s_checked_sign_name ["name"] := funAt_mk X G a18 l18 c18 k18 fun _ _ _ _ _ _ us hl => match us, hl with | [_], _ => rfl
 have F19 : FunAt K mg "checked_tie" s_checked_tie ["kinds", "tie"] := funAt_mk X G a19 l19 c19 k19 fun _ _ _ _ _ _ us hl => match us, hl with | [_, _], _ => rfl
 have F20 : FunAt K mg "checked_function" s_checked_function ["kinds", "function"] := funAt_mk X G a20 l20 c20 k20 fun _ _ _ _ _ _ us hl => match us, hl with | [_, _], _ => rfl
 have F21 : FunAt K mg "checked_size" s_checked_size ["signs", "size"] := funAt_mk X G a21 l21 c21 k21 fun _ _ _ _ _ _ us hl => match us, hl with | [_, _], _ => rfl
 have F22 : FunAt K mg "rows_of" s_rows_of ["many_things", "places"] := funAt_mk X G a22 l22 c22 k22 fun _ _ _ _ _ _ us hl => match us, hl with | [_, _], _ => rfl
 have F23 : FunAt K mg "cells" s_cells ["signs", "size"] := funAt_mk X G a23 l23 c23 k23 fun _ _ _ _ _ _ us hl => match us, hl with | [_, _], _ => rfl
 have F24 : FunAt K mg "values" s_values ["signs", "size", "cell"] := funAt_mk X G a24 l24 c24 k24 fun _ _ _ _ _ _ us hl => match us, hl with | [_, _, _], _ => rfl
 have F25 : FunAt K mg "checked_cell" s_checked_cell ["known", "cell"] := funAt_mk X G a25 l25 c25 k25 fun _ _ _ _ _ _ us hl => match us, hl with | [_, _], _ => rfl
 have F26 : FunAt K mg "law" s_law ["_law_script"] := funAt_mk X G a26 l26 c26 k26 fun _ _ _ _ _ _ us hl => match us, hl with | [_], _ => rfl
 have F27 := fun_mk (st := s__init__) l27 c27 k27
 have b27 := F27.binds (ps := ["self", "kinds", "ties", "functions"]) fun _ _ _ _ _ _ us hl => match us, hl with | [_, _, _, _], _ => rfl
 have F28 := fun_mk (st := s_kinds) l28 c28 k28
 have b28 := F28.binds (ps := ["self"]) fun _ _ _ _ _ _ us hl => match us, hl with | [_], _ => rfl
 have F29 := fun_mk (st := s_ties) l29 c29 k29
 have b29 := F29.binds (ps := ["self"]) fun _ _ _ _ _ _ us hl => match us, hl with | [_], _ => rfl
 have F30 := fun_mk (st := s_functions) l30 c30 k30
 have b30 := F30.binds (ps := ["self"]) fun _ _ _ _ _ _ us hl => match us, hl with | [_], _ => rfl
 have F31 := fun_mk (st := s_Board__init__) l31 c31 k31
 have b31 := F31.binds (ps := ["self", "signs", "size"]) fun _ _ _ _ _ _ us hl => match us, hl with | [_, _, _], _ => rfl
 have FL := fun_mk (st := s_law) l26 c26 k26
 have e := hfa.symm.trans (PySem.W.mg_of X G a26)
 cases e
 refine ⟨PySem.W.fnOf "law" "law" (defArgs s_law) (defBody s_law) (defScope s_law) .none kV26 dc26 pm26 an26 cd26 ct26, fun s v => .of_eq rfl, fun base _ _ => ?_⟩
 have dCell := ok_cell (P := l.prog) (w := w) (base := base) F0 Z
 have dPot := ok_pot (P := l.prog) (w := w) (base := base) F1 Z
 have dDraw := ok_draw (P := l.prog) (w := w) (base := base) F2 Z
 have dUnlike := ok_unlike (P := l.prog) (w := w) (base := base) F3 Z dDraw
 have dBook := ok_book (P := l.prog) (w := w) (base := base) F4 Z dDraw dUnlike
 have dIl := ok_is_list (P := l.prog) (w := w) (base := base) F11 Z
 have dIn := ok_is_name (P := l.prog) (w := w) (base := base) F12 Z Gg
 have dCa := ok_apart (P := l.prog) (w := w) (base := base) F14 Z
 have dKs := ok_kinds (P := l.prog) (w := w) (base := base) F15 Z Gg dIl dIn dCa
 have dK := ok_kind (P := l.prog) (w := w) (base := base) F16 Z dIn
 have dPl := ok_places (P := l.prog) (w := w) (base := base) F17 Z Gg dIl dK
 have dSn := ok_sign_name (P := l.prog) (w := w) (base := base) F18 Z Gg dIn
 have dTie := ok_tie (P := l.prog) (w := w) (base := base) F19 Z dIl dSn dPl
 have dFu := ok_func (P := l.prog) (w := w) (base := base) F20 Z dIl dSn dPl dK
 have dIni := ok_init (P := l.prog) (w := w) (base := base) F27 Z Gg T dIl dKs dTie dFu dCa
 have dTk := ok_tellK (P := l.prog) (w := w) (base := base) F28 Z T
 have dTt := ok_tellT (P := l.prog) (w := w) (base := base) F29 Z T
 have dTf := ok_tellF (P := l.prog) (w := w) (base := base) F30 Z T
 have dIw := ok_whole (P := l.prog) (w := w) (base := base) F13 Z (PySem.W.mg_none_of X G z_bool)
 have dSz := ok_size (P := l.prog) (w := w) (base := base) F21 Z T GT ⟨a28, i28, k28⟩ dTk b28 dIl dIw
 have dRo := ok_rows_of (P := l.prog) (w := w) (base := base) F22 Z
 have dBi := ok_binit (P := l.prog) (w := w) (base := base) F31 Z T TB (PySem.W.mg_none_of X G z_dict) (PySem.W.mg_none_of X G z_zip) GV ⟨a28, i28, k28⟩ dTk b28 ⟨a29, i29, k29⟩ dTt b29 ⟨a30, i30, k30⟩ dTf b30 dSz dRo
 have dCs := ok_cells (P := l.prog) (w := w) (base := base) F23 Z TB ⟨mkB, a31, i31, kcB⟩ dBi (PySem.W.mg_of X G aCB) b31
 have dCc := ok_checked_cell (P := l.prog) (w := w) (base := base) F25 Z dIl dIw
 have dVs := ok_values (P := l.prog) (w := w) (base := base) F24 Z TB ⟨mkB, a31, i31, kcB⟩ dBi (PySem.W.mg_of X G aCB) b31 dCc
 have dMany := ok_many (P := l.prog) (w := w) (base := base) F5 Z
 have dLr := ok_lrows (P := l.prog) (w := w) (base := base) F6 Z dMany
 have dLc := ok_lcells (P := l.prog) (w := w) (base := base) F7 Z dLr
 have dLv := ok_lvalues (P := l.prog) (w := w) (base := base) F8 Z dMany
 have dAs := ok_any_size (P := l.prog) (w := w) (base := base) F9 Z dDraw
 have dRight := ok_right (P := l.prog) (w := w) (base := base) F10 Z dLc dCs dVs dLv
 exact ok_law FL Z dCell dPot dDraw dBook dAs dRight ⟨mk, a27, i27, kc⟩ dIni (PySem.W.mg_of X G aC) b27
theorem walk {l : PySem.W.OpenLaw} {q : Program} {loose : List Str} {XP : (Str → Option Value) → Heap → Prop} {YP : World → Heap → Prop} {d : DefRec} {K : Params → PySem.W.Frag} (hn : l.most = some 63) (hdf : d.params.defaults = []) (hq : PyProof.Rows.importsNone q = true)
  (hY : ∀ (w : World) (h : Heap), YP w h → (K w.params).In h)
  (F : ∀ (w : World) (mg : Str → Option Value) (fa : Addr) (h : Heap), (K w.params).In h → h.Ns mainGlobals mg → mg d.name = some (.ref fa) →
   ∃ fd : FuncData, (∀ (s : Shared) (u : Value), BindsTo s fd ⟨[u], []⟩ [("_law_script", u)]) ∧ ∀ base : Heap, (K w.params).In base → base.Ns mainGlobals mg → FnOk l.prog w (K w.params) mg base CX0 7 fa fd ["_law_script"] (spLaw (K w.params))) :
  PySem.W.WalkO q loose XP YP l.row.toRowW d [] (fun f vs => PySem.call f vs) :=
 L2.walk_of (n := 63) (k := 7) (x := "_law_script") (CX := fun _ => CX0) (sp := fun w => spLaw (K w.params)) hn (by decide) hdf ⟨rfl, rfl, by decide, by decide⟩ hq hY F (fun _ _ a ns hl _ hS => ⟨a, ns, rfl, hS, hl, fun _ => rfl⟩) fun _ _ _ _ _ z => z
end FewE
open PySem PySem.W PyProof.Rows
set_option maxRecDepth 100000 in
set_option maxHeartbeats 0 in
theorem PySem.Challenge.cw_fewthings_k21_cells_in_order_holds : PySem.Challenge.rw_fewthings_k21_cells_in_order.Holds := by
 w_on; o_law; k_head; (case hw => w_witness2)
 k_fill
 refine FewE.walk (l := PySem.Challenge.rw_fewthings_k21_cells_in_order) rfl rfl (by first | rfl | decide +kernel) (fun w h Y => PySem.W.kIn_of Y) ?F
 case F =>
  intro w mg fa h KX G hmg
  refine' FewE.all_mk KX G hmg ?a0 ?l0 ?c0 ?k0 ?a1 ?l1 ?c1 ?k1 ?a2 ?l2 ?c2 ?k2 ?a3 ?l3 ?c3 ?k3 ?a4 ?l4 ?c4 ?k4 ?a5 ?l5 ?c5 ?k5 ?a6 ?l6 ?c6 ?k6 ?a7 ?l7 ?c7 ?k7 ?a8 ?l8 ?c8 ?k8 ?a9 ?l9 ?c9 ?k9 ?a10 ?l10 ?c10 ?k10 ?a11 ?l11 ?c11 ?k11 ?a12 ?l12 ?c12 ?k12 ?a13 ?l13 ?c13 ?k13 ?a14 ?l14 ?c14 ?k14 ?a15 ?l15 ?c15 ?k15 ?a16 ?l16 ?c16 ?k16 ?a17 ?l17 ?c17 ?k17 ?a18 ?l18 ?c18 ?k18 ?a19 ?l19 ?c19 ?k19 ?a20 ?l20 ?c20 ?k20 ?a21 ?l21 ?c21 ?k21 ?a22 ?l22 ?c22 ?k22 ?a23 ?l23 ?c23 ?k23 ?a24 ?l24 ?c24 ?k24 ?a25 ?l25 ?c25 ?k25 ?a26 ?l26 ?c26 ?k26 ?aC ?aCB ?a27 ?i27 ?l27 ?c27 ?k27 ?a28 ?i28 ?l28 ?c28 ?k28 ?a29 ?i29 ?l29 ?c29 ?k29 ?a30 ?i30 ?l30 ?c30 ?k30 ?a31 ?i31 ?l31 ?c31 ?k31 ?pg ?hd ?po ?sa ?mk ?kc ?n0 ?n1 ?n2 ?pgB ?hdB ?poB ?saB ?mkB ?kcB ?n0B ?n1B ?z_len ?z_max ?z_abs ?z_divmod ?z_list ?z_tuple ?z_range ?z_int ?z_str ?z_repr ?z_isinstance ?z_all ?z_set ?z_dict ?z_zip ?z_bool ?gL ?gI0 ?gI1 ?gI2 ?gI3 ?gI4 ?gI5 ?gW ?lW
  (case a0 => k_is)
  (case l0 => k_is)
  (case c0 => k_is)
  (case k0 => k_is)
  (case a1 => k_is)
  (case l1 => k_is)
  (case c1 => k_is)
  (case k1 => k_is)
  (case a2 => k_is)
  (case l2 => k_is)
  (case c2 => k_is)
  (case k2 => k_is)
  (case a3 => k_is)
  (case l3 => k_is)
  (case c3 => k_is)
  (case k3 => k_is)
  (case a4 => k_is)
  (case l4 => k_is)
  (case c4 => k_is)
  (case k4 => k_is)
  (case a5 => k_is)
  (case l5 => k_is)
  (case c5 => k_is)
  (case k5 => k_is)
  (case a6 => k_is)
  (case l6 => k_is)
  (case c6 => k_is)
  (case k6 => k_is)
  (case a7 => k_is)
  (case l7 => k_is)
  (case c7 => k_is)
  (case k7 => k_is)
  (case a8 => k_is)
  (case l8 => k_is)
  (case c8 => k_is)
  (case k8 => k_is)
  (case a9 => k_is)
  (case l9 => k_is)
  (case c9 => k_is)
  (case k9 => k_is)
  (case a10 => k_is)
  (case l10 => k_is)
  (case c10 => k_is)
  (case k10 => k_is)
  (case a11 => k_is)
  (case l11 => k_is)
  (case c11 => k_is)
  (case k11 => k_is)
  (case a12 => k_is)
  (case l12 => k_is)
  (case c12 => k_is)
  (case k12 => k_is)
  (case a13 => k_is)
  (case l13 => k_is)
  (case c13 => k_is)
  (case k13 => k_is)
  (case a14 => k_is)
  (case l14 => k_is)
  (case c14 => k_is)
  (case k14 => k_is)
  (case a15 => k_is)
  (case l15 => k_is)
  (case c15 => k_is)
  (case k15 => k_is)
  (case a16 => k_is)
  (case l16 => k_is)
  (case c16 => k_is)
  (case k16 => k_is)
  (case a17 => k_is)
  (case l17 => k_is)
  (case c17 => k_is)
  (case k17 => k_is)
  (case a18 => k_is)
  (case l18 => k_is)
  (case c18 => k_is)
  (case k18 => k_is)
  (case a19 => k_is)
  (case l19 => k_is)
  (case c19 => k_is)
  (case k19 => k_is)
  (case a20 => k_is)
  (case l20 => k_is)
  (case c20 => k_is)
  (case k20 => k_is)
  (case a21 => k_is)
  (case l21 => k_is)
  (case c21 => k_is)
  (case k21 => k_is)
  (case a22 => k_is)
  (case l22 => k_is)
  (case c22 => k_is)
  (case k22 => k_is)
  (case a23 => k_is)
  (case l23 => k_is)
  (case c23 => k_is)
  (case k23 => k_is)
  (case a24 => k_is)
  (case l24 => k_is)
  (case c24 => k_is)
  (case k24 => k_is)
  (case a25 => k_is)
  (case l25 => k_is)
  (case c25 => k_is)
  (case k25 => k_is)
  (case a26 => k_is)
  (case l26 => k_is)
  (case c26 => k_is)
  (case k26 => k_is)
  (case aC => k_is)
  (case aCB => k_is)
  (case a27 => k_is)
  (case i27 => k_is)
  (case l27 => k_is)
  (case c27 => k_is)
  (case k27 => k_is)
  (case a28 => k_is)
  (case i28 => k_is)
  (case l28 => k_is)
  (case c28 => k_is)
  (case k28 => k_is)
  (case a29 => k_is)
  (case i29 => k_is)
  (case l29 => k_is)
  (case c29 => k_is)
  (case k29 => k_is)
  (case a30 => k_is)
  (case i30 => k_is)
  (case l30 => k_is)
  (case c30 => k_is)
  (case k30 => k_is)
  (case a31 => k_is)
  (case i31 => k_is)
  (case l31 => k_is)
  (case c31 => k_is)
  (case k31 => k_is)
  (case pg => k_is)
  (case hd => k_is)
  (case po => k_is)
  (case sa => k_is)
  (case mk => k_is)
  (case kc => k_is)
  (case n0 => k_is)
  (case n1 => k_is)
  (case n2 => k_is)
  (case pgB => k_is)
  (case hdB => k_is)
  (case poB => k_is)
  (case saB => k_is)
  (case mkB => k_is)
  (case kcB => k_is)
  (case n0B => k_is)
  (case n1B => k_is)
  (case z_len => k_is)
  (case z_max => k_is)
  (case z_abs => k_is)
  (case z_divmod => k_is)
  (case z_list => k_is)
  (case z_tuple => k_is)
  (case z_range => k_is)
  (case z_int => k_is)
  (case z_str => k_is)
  (case z_repr => k_is)
  (case z_isinstance => k_is)
  (case z_all => k_is)
  (case z_set => k_is)
  (case z_dict => k_is)
  (case z_zip => k_is)
  (case z_bool => k_is)
  (case gL => k_is)
  (case gI0 => k_is)
  (case gI1 => k_is)
  (case gI2 => k_is)
  (case gI3 => k_is)
  (case gI4 => k_is)
  (case gI5 => k_is)
  (case gW => k_is)
  (case lW => k_is)


